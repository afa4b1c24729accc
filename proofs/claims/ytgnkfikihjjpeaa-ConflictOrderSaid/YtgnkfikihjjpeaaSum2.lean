/- conflict.sum's walk, at this translation. -/
import Derived.Test.YtgnkfikihjjpeaaSum
import Derived.IntWalk
namespace Go.Proofs.Ytgnkfikihjjpeaa
open Go.RowKit Go.Great Go.Maps

set_option maxRecDepth 100000 in
set_option maxHeartbeats 8000000 in
theorem sum_any (b n : Nat) (f : BA → Int) (w : World) (h : IsCnt Try.prog 9 3 w b n f) (hn : n ≤ 1000) (hf : ∀ x, -1000 ≤ f x ∧ f x ≤ 1000) :
    Calls Try.prog 37 #[.map (some b)] w fun e w' => ∃ va vr S, e = .returned (sv va vr) ∧ IsSum w' va vr S ∧ Norm S ∧ (∀ x, cnt S x = f x) ∧ Below w.heap.size w w' := by
  obtain ⟨i0, hi, hz0, hz1, hz2⟩ := info_parts info9
  have hbl := h.lt
  obtain ⟨D, h1, h2, h3⟩ := id h
  obtain ⟨k1, k2, k3, k4, k5⟩ := cnt_keys Try.underlying9 h1
  have hB0 := ((Below.refl w.heap.size w).alloc (Nat.le_refl _) (.cells #[.slice none 0 0, .slice none 0 0] 24)).alloc (by simp) (.cells #[.slice none 0 0, .slice none 0 0] 24)
  have X1 := Lib.hid ((SBox.new w (.slice none 0 0) (.slice none 0 0)).alloc (.cells #[.slice none 0 0, .slice none 0 0] 24))
  have x2 := SBox.new (w.alloc (.cells #[.slice none 0 0, .slice none 0 0] 24)) (.slice none 0 0) (.slice none 0 0)
  rw [World.size_alloc] at x2
  have X2 := Lib.hid x2
  have HH := Lib.hid h
  have H1 := Lib.hid h1
  have HF := Lib.hid hf
  have K2 := Lib.hid k2
  have K3 : Hid (∀ x : BA, f x ≠ 0 → x.data.toList ∈ strKeys D) := Lib.hid fun x hx => k3 _ (cnt_has h3 hx)
  have K5 := Lib.hid k5
  clear h h1 h2 h3 hf x2 k2 k3 k5
  go_enter Try.func37, Try.ntmps37
  go_upto_region 2 with fail
  generalize hw1 : (w.alloc (.cells #[.slice none 0 0, .slice none 0 0] 24)).alloc (.cells #[.slice none 0 0, .slice none 0 0] 24) = w1 at hB0 X1 X2 ⊢
  have sz1 : w1.heap.size = w.heap.size + 2 := by rw [← hw1]; simp
  have SZ := Lib.hid sz1
  clear hw1 sz1
  go_wp2_with fail
  ((with_reducible refine (callsIn_wide.1 (Try.maps_Keys_51 _ _)).mono ?_); rintro e w2 ⟨rfl, rfl⟩)
  have H1' := (fun (hB : Below w.heap.size w w1) => show w1.ownsMap Try.prog 9 (plainElem Try.prog 3) b n D by
    obtain ⟨es, clock, hb, hr⟩ := H1.out
    exact ⟨es, clock, (hB.block b hbl).trans hb, hr⟩) hB0
  go_wp2_with fail
  ((with_reducible refine (callsIn_wide.1 (Try.slices_Sorted_keys_50_51 b n D (plainElem Try.prog 3) w1 H1' (by unfold maxLen; omega) (by omega))).mono ?_); rintro e w3 ⟨v, ss, rfl, hS, hrow, -, hb3⟩)
  have hk := keys_sorted hS K2.out
  have hlen : (ss.mergeSort fun x y => decide (x ≤ y)).length = ss.length := List.length_mergeSort ..
  rw [rowS_txt] at hrow
  generalize hT : (ss.mergeSort fun x y => decide (x ≤ y)) = T at hk hlen hrow
  have hTl : ∀ x ∈ T, x.length ≤ maxLen := fun x hx => K5.out x (hS.mem_iff.1 ((List.mergeSort_perm ss (fun x y => decide (x ≤ y))).mem_iff.1 (by rw [hT]; exact hx)))
  have hlen2 : ss.length ≤ n := by rw [hS.length_eq]; exact k4
  obtain ⟨K, hK⟩ : ∃ K : List BA, T.map txt = K := ⟨_, rfl⟩
  have hKl : K.length = ss.length := by rw [← hK, List.length_map, hlen]
  have hKx : ∀ x ∈ K, x.size ≤ maxLen := by
    intro x hx
    rw [← hK] at hx
    obtain ⟨y, hy, rfl⟩ := List.mem_map.1 hx
    have := hTl y hy
    simpa [txt, ByteArray.size] using this
  rw [hK] at hk hrow
  have hB1 : Below w.heap.size w w3 := (hB0.alloc hB0.size (.cells #[.map (some b)] 53)).trans (hb3.mono (by have := hB0.size; simp; omega))
  have sz3 : w.heap.size + 3 ≤ w3.heap.size := by have := hb3.size; have := SZ.out; simp at *; omega
  have Y1 := Lib.hid ((X1.out.alloc (.cells #[.map (some b)] 53)).below hb3 (by have := X1.out.lt; simp; omega))
  have Y2 := Lib.hid ((X2.out.alloc (.cells #[.map (some b)] 53)).below hb3 (by have := X2.out.lt; simp; omega))
  have hm3 : w3.heap[b]? = w.heap[b]? := hB1.block b hbl
  have C3 := Lib.hid (HH.out.kept hm3)
  have PA := Lib.hid hk.1
  have PN := Lib.hid hk.2.1
  have PM : Hid (∀ x : BA, f x ≠ 0 → x ∈ K) := Lib.hid fun x hx => hk.2.2 x (K3.out x hx)
  have HKX := Lib.hid hKx
  have hKn : K.length ≤ 1000 := by omega
  obtain ⟨ka, kc, rfl, hcells⟩ := own_cells hrow hKl
  have HCE := Lib.hid hcells
  have HL := Lib.hid hKl
  have b3 : w.heap.size + 3 ≤ (w1.alloc (.cells #[.map (some b)] 53)).heap.size := by have := SZ.out; simp; omega
  have hB2 := hB1
  clear hS hrow hb3 hk hlen hT hTl hlen2 hK hKx H1' H1 X1 X2 HH hm3 K2 K3 K5 hB0 k1 k4 hcells hKl
  obtain ⟨ku, hku⟩ : ∃ ku, (w1.alloc (.cells #[.map (some b)] 53)).heap.size = ku := ⟨_, rfl⟩
  rw [hku] at HCE b3
  clear hku SZ
  have P0 : Hid (Pair w3.heap.size (w.heap.size + 1) (mk f (K.take 0)).A (mk f (K.take 0)).R (.slice none 0 0) (.slice none 0 0) w3) := Lib.hid ⟨Y2.out, World.ownsRow_nil _ _ _ _, World.ownsRow_nil _ _ _ _, fun k hk => by cases hk⟩
  go_wp2
  go_loopw [11] (fun s11 wr => ∃ j : Nat, j ≤ K.length ∧ s11 = .int .i64 j ∧ Hid (∃ va vr, Pair w3.heap.size (w.heap.size + 1) (mk f (K.take j)).A (mk f (K.take j)).R va vr wr) ∧ Hid (∀ k, k < w3.heap.size → k ≠ w.heap.size + 1 → wr.heap[k]? = w3.heap[k]?) ∧ Below w.heap.size w wr ∧ w3.heap.size ≤ wr.heap.size) (fun i _ => K.length - (intOf i).toNat)
  case atStart => exact ⟨0, Nat.zero_le _, rfl, Lib.hid ⟨_, _, P0.out⟩, Lib.hid fun _ _ _ => rfl, hB1, Nat.le_refl _⟩
  case round =>
    obtain ⟨j, hj, rfl, HP, HKE, hBr, hzr⟩ := hrel
    by_cases hlt : j < K.length
    · obtain ⟨va, vr, hP⟩ := HP.out
      obtain ⟨g, rfl, hg1, hg2, hcell⟩ := HCE.out.resolve_left (by intro e; rw [e] at hlt; simp at hlt)
      have p0 := (cell_of_heap (HKE.out g hg2 (by omega)) j).trans (hcell j hlt)
      have HXS := Lib.hid (HKX.out K[j] (List.getElem_mem hlt))
      have ME := Lib.hid (mk_step f hlt)
      obtain ⟨x, hx⟩ : ∃ x, K[j] = x := ⟨_, rfl⟩
      rw [hx] at p0 HXS ME
      have ML := mk_len f HF.out (K.take j)
      have hkt : (K.take j).length ≤ 1000 := by simp; omega
      have la : (mk f (K.take j)).A.length ≤ 1000000 := by omega
      have lr : (mk f (K.take j)).R.length ≤ 1000000 := by omega
      have hfx := HF.out x
      have CR := Lib.hid (C3.out.kept (HKE.out b (by omega) (by omega)))
      have HPP := Lib.hid hP
      clear hcell hx ML hkt hP
      generalize (mk f (K.take j)).A = LA at la HPP ME
      generalize (mk f (K.take j)).R = LR at lr HPP ME
      by_cases hpos : 0 < f x
      · obtain ⟨m, hm⟩ : ∃ m : Nat, f x = m := ⟨(f x).toNat, by omega⟩
        have m1 : 0 < m := by omega
        have m2 : m ≤ 1000 := by omega
        have HM := Lib.hid hm
        have ME2 : Hid (mk f (K.take (j + 1)) = ⟨LA ++ List.replicate m x, LR⟩) := Lib.hid (by rw [ME.out, hm, show (-(m : Int)).toNat = 0 by omega, Int.toNat_natCast]; simp)
        clear hpos hfx hm
        go_upto_region 5 with fail
        have HPM : Hid (f x = (m : Int)) := HM
        have start : wr.drew.cell? ⟨w.heap.size + 1, 0, none⟩ = some va := HPP.out.box.c0
        have SA := Lib.hid ((HPP.out.alloc (.cells #[.string x] 9)).drew)
        have startA : (wr.alloc (.cells #[.string x] 9)).drew.cell? ⟨w.heap.size + 1, 0, none⟩ = some va := SA.out.box.c0
        have XC : (wr.alloc (.cells #[.string x] 9)).drew.cell? ⟨wr.heap.size, 0, none⟩ = some (.string x) := (Boxed.new wr 9 (.string x)).cell
        have m0 : (0 : Int) < (m : Int) := by omega
        have BA := ((Below.refl wr.heap.size wr).alloc (Nat.le_refl _) (.cells #[.string x] 9)).drew
        go_wp2_with (at_lookup; refine wpList_cnt_look _ rfl _ _ 53 rfl 9 3 Try.underlying9 Try.underlying3 Try.underlying53 (Try.zeroValue3 _) b n f rfl CR.out x HXS.out rfl ?_; rw [HPM.out])
        go_region_law (first | (refine step_repeat (by rfl) 23 24 (by rfl) wr.heap.size m x m2 (by simp [Act.eval]) (by simp [Act.eval]) (by simp) XC ?_; intro G w5 hG5 hR5 hb5; have HP5 := Lib.hid (SA.out.below hb5 (Nat.le_refl _)); have c5 := HP5.out.box.c0; have HR5 := Lib.hid hR5; have z5 := hb5.size; have B5 := BA.trans (hb5.mono (by simp)); clear hR5 hb5) | (refine step_append_at (by rfl) (.tmp 21) (.tmp 25) 22 (by rfl) w3.heap.size 9 i0 (.string ⟨#[]⟩) 1 16 Try.underlying22 hi hz0 hz1 hz2 (by rfl) (by decide) va LA.length (rowS LA) (by simp [Act.eval]) HP5.out.oa ⟨G, 0, none⟩ m m (rowS (List.replicate m x)) (by simp [Act.eval]) (by rw [rowS_length, List.length_replicate, Nat.mul_one]) (rep_lies0 HR5.out) (row_one _) (by unfold maxLen; omega) (by omega) (by have := B5.size; omega) ?_; intro v' w6 hown6 hgrow6 hat6; obtain ⟨a6, k6, rfl⟩ := own_form hown6; have PT := Lib.hid (Pair.addA HP5.out (by omega) (by have := B5.size; omega) hown6 hgrow6 hat6); have q1 := PT.out.box.c0; have q2 := PT.out.box.f0 0; clear hown6 hgrow6 hat6))
        all_goals
          obtain ⟨va', vr', PP⟩ := PT.out.pair
          have PP' : Hid (∃ va vr, Pair w3.heap.size (w.heap.size + 1) (mk f (K.take (j + 1))).A (mk f (K.take (j + 1))).R va vr (w6.setCell ⟨w.heap.size + 1, 0, none⟩ (.slice a6 (LA.length + m) k6))) := Lib.hid ⟨va', vr', by rw [ME2.out]; exact PP⟩
          have KK : Hid (∀ k, k < w3.heap.size → k ≠ w.heap.size + 1 → (w6.setCell ⟨w.heap.size + 1, 0, none⟩ (.slice a6 (LA.length + m) k6)).heap[k]? = w3.heap[k]?) := Lib.hid fun k hk hne => (PT.out.keep k hk hne).trans ((B5.block k (by omega)).trans (HKE.out k hk hne))
          have BB := hBr.trans ((B5.mono hBr.size).trans (PT.out.low.mono (show w.heap.size ≤ w.heap.size + 1 by omega)))
          have ZZ : w3.heap.size ≤ (w6.setCell ⟨w.heap.size + 1, 0, none⟩ (.slice a6 (LA.length + m) k6)).heap.size := by have := B5.size; have := PT.out.low.size; omega
          clear PP PT q1 q2
        all_goals go_wp2
        all_goals go_roundw
        all_goals first | exact ⟨j + 1, by omega, by go_num, PP', KK, BB, ZZ⟩ | (simp [intOf]; omega)
      · obtain ⟨m, hm⟩ : ∃ m : Nat, f x = -(m : Int) := ⟨(-f x).toNat, by omega⟩
        have m2 : m ≤ 1000 := by omega
        have HM := Lib.hid hm
        have ME2 : Hid (mk f (K.take (j + 1)) = ⟨LA, LR ++ List.replicate m x⟩) := Lib.hid (by rw [ME.out, hm, show (-(m : Int)).toNat = 0 by omega, Int.neg_neg, Int.toNat_natCast]; simp)
        clear hpos hfx hm
        go_upto_region 5 with fail
        have HPM : Hid (f x = -(m : Int)) := HM
        have start : wr.drew.cell? ⟨w.heap.size + 1, 1, none⟩ = some vr := HPP.out.box.c1
        have SA := Lib.hid ((HPP.out.alloc (.cells #[.string x] 9)).drew)
        have startA : (wr.alloc (.cells #[.string x] 9)).drew.cell? ⟨w.heap.size + 1, 1, none⟩ = some vr := SA.out.box.c1
        have XC : (wr.alloc (.cells #[.string x] 9)).drew.cell? ⟨wr.heap.size, 0, none⟩ = some (.string x) := (Boxed.new wr 9 (.string x)).cell
        have WM := Lib.hid (show IntKind.i64.wrap (m : Int) = m from IntWalk.i64_in _ (by omega))
        have m0 : ¬ (0 : Int) < -(m : Int) := by omega
        have BA := ((Below.refl wr.heap.size wr).alloc (Nat.le_refl _) (.cells #[.string x] 9)).drew
        go_wp2_with (at_lookup; refine wpList_cnt_look _ rfl _ _ 53 rfl 9 3 Try.underlying9 Try.underlying3 Try.underlying53 (Try.zeroValue3 _) b n f rfl CR.out x HXS.out rfl ?_; rw [HPM.out])
        go_region_law (first | (refine step_repeat (by rfl) 31 33 (by rfl) wr.heap.size m x m2 (by simp [Act.eval]) (by simp [Act.eval]; exact WM.out) (by simp) XC ?_; intro G w5 hG5 hR5 hb5; have HP5 := Lib.hid (SA.out.below hb5 (Nat.le_refl _)); have c5 := HP5.out.box.c1; have HR5 := Lib.hid hR5; have z5 := hb5.size; have B5 := BA.trans (hb5.mono (by simp)); clear hR5 hb5) | (refine step_append_at (by rfl) (.tmp 29) (.tmp 34) 22 (by rfl) w3.heap.size 9 i0 (.string ⟨#[]⟩) 1 16 Try.underlying22 hi hz0 hz1 hz2 (by rfl) (by decide) vr LR.length (rowS LR) (by simp [Act.eval]) HP5.out.or ⟨G, 0, none⟩ m m (rowS (List.replicate m x)) (by simp [Act.eval]) (by rw [rowS_length, List.length_replicate, Nat.mul_one]) (rep_lies0 HR5.out) (row_one _) (by unfold maxLen; omega) (by omega) (by have := B5.size; omega) ?_; intro v' w6 hown6 hgrow6 hat6; obtain ⟨a6, k6, rfl⟩ := own_form hown6; have PT := Lib.hid (Pair.addR HP5.out (by omega) (by have := B5.size; omega) hown6 hgrow6 hat6); have q1 := PT.out.box.c1; have q2 := PT.out.box.f0 1; clear hown6 hgrow6 hat6))
        all_goals
          obtain ⟨va', vr', PP⟩ := PT.out.pair
          have PP' : Hid (∃ va vr, Pair w3.heap.size (w.heap.size + 1) (mk f (K.take (j + 1))).A (mk f (K.take (j + 1))).R va vr (w6.setCell ⟨w.heap.size + 1, 1, none⟩ (.slice a6 (LR.length + m) k6))) := Lib.hid ⟨va', vr', by rw [ME2.out]; exact PP⟩
          have KK : Hid (∀ k, k < w3.heap.size → k ≠ w.heap.size + 1 → (w6.setCell ⟨w.heap.size + 1, 1, none⟩ (.slice a6 (LR.length + m) k6)).heap[k]? = w3.heap[k]?) := Lib.hid fun k hk hne => (PT.out.keep k hk hne).trans ((B5.block k (by omega)).trans (HKE.out k hk hne))
          have BB := hBr.trans ((B5.mono hBr.size).trans (PT.out.low.mono (show w.heap.size ≤ w.heap.size + 1 by omega)))
          have ZZ : w3.heap.size ≤ (w6.setCell ⟨w.heap.size + 1, 1, none⟩ (.slice a6 (LR.length + m) k6)).heap.size := by have := B5.size; have := PT.out.low.size; omega
          clear PP PT q1 q2
        all_goals go_wp2
        all_goals go_roundw
        all_goals first | exact ⟨j + 1, by omega, by go_num, PP', KK, BB, ZZ⟩ | (simp [intOf]; omega)
    · obtain rfl : j = K.length := by omega
      obtain ⟨va, vr, hP⟩ := HP.out
      rw [List.take_length] at hP
      have la := (mk_len f HF.out K).1
      have lr := (mk_len f HF.out K).2
      have hfin : IsSum wr va vr (mk f K) := ⟨own_strs hP.oa rfl (by unfold maxLen; omega), own_strs hP.or rfl (by unfold maxLen; omega)⟩
      have hfin2 : IsSum ((wr.setCell ⟨w.heap.size, 0, none⟩ va).setCell ⟨w.heap.size, 1, none⟩ vr) va vr (mk f K) := ⟨own_strs (own_setO (own_setO hP.oa (by omega) 0 va) (by omega) 1 vr) rfl (by unfold maxLen; omega), own_strs (own_setO (own_setO hP.or (by omega) 0 va) (by omega) 1 vr) rfl (by unfold maxLen; omega)⟩
      have BE := (hBr.setCell (p := ⟨w.heap.size, 0, none⟩) (Nat.le_refl _) va).setCell (p := ⟨w.heap.size, 1, none⟩) (Nat.le_refl _) vr
      have HFI := Lib.hid hfin2
      have xr : SBox wr w.heap.size (.slice none 0 0) (.slice none 0 0) := (HKE.out _ (by omega) (by omega)).trans Y1.out
      have c0 := hP.box.c0
      have c1 := hP.box.c1
      have r0 := xr.c0
      have r1 := xr.c1
      have g0 := xr.f0 0
      have g1 := xr.f0 1
      obtain ⟨pa, ca, pr, cr, rfl, rfl, -, -⟩ := hfin.parts
      clear hfin hfin2 hP HP
      go_wp2
      exact bodyPost_ret (v := sv (.slice pa (mk f K).A.length ca) (.slice pr (mk f K).R.length cr)) (by simp [results, Try.results37, go_sem, r0, r1, World.cell?_setCell_other, World.cell?_setCell_same']) rfl ⟨_, _, mk f K, rfl, HFI.out, mk_norm f PA.out PN.out, mk_cnt f PN.out PM.out, BE⟩
end Go.Proofs.Ytgnkfikihjjpeaa
