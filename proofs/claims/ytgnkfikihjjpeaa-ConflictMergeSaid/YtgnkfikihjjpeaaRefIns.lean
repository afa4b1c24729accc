/- The reference's insert, at this translation. -/
import Derived.Test.YtgnkfikihjjpeaaRefAdd
namespace Go.Proofs.Ytgnkfikihjjpeaa
open Go.RowKit Go.Great

theorem one_strs (W : World) (x : BA) : IsStrs (W.alloc (.cells #[.string x] 9)) (.slice (some ⟨W.heap.size, 0, none⟩) 1 1) [x] := by
  refine ⟨_, 1, rfl, by show 1 ≤ maxLen; decide, Nat.le_refl _, .inr ⟨W.heap.size, 0, rfl, by simp, ?_⟩⟩
  intro j hj
  obtain rfl : j = 0 := by simpa using hj
  exact (Boxed.new W 9 (.string x)).cell

set_option maxRecDepth 100000 in
set_option maxHeartbeats 4000000 in
theorem insert_nil (v : Value) (x : BA) (w : World) (h : IsStrs w v []) :
    Calls Try.prog 54 #[v, .string x] w fun e w' => ∃ v', e = .returned v' ∧ IsStrs w' v' [x] ∧ Below w.heap.size w w' := by
  obtain ⟨i0, hi, hz0, hz1, hz2⟩ := info_parts info9
  obtain ⟨a, cap, rfl, -, -, -⟩ := h
  simp only [List.length_nil]
  have HO : Hid ((w.alloc (.cells #[] 9)).ownsRow w.heap.size 9 1 (.slice (some ⟨w.heap.size, 0, none⟩) 0 0) 0 (rowS [])) := Lib.hid ⟨rfl, .inr ⟨w.heap.size, 0, #[], rfl, Nat.le_refl _, heap_alloc_new w _, Nat.le_refl _, Nat.zero_le _, rfl, rfl⟩⟩
  have hB0 := (Below.refl w.heap.size w).alloc (Nat.le_refl _) (.cells #[] 9)
  go_enter Try.func54, Try.ntmps54
  go_wp2
  go_loopw [5] (fun s wr => s = .int .i64 0 ∧ wr = w) (fun i _ => 0)
  case atStart => exact ⟨rfl, rfl⟩
  case round =>
    obtain ⟨rfl, hw⟩ := hrel
    subst wr
    go_upto_region 5 with (at_builtin; refine wpList_append_src31 rfl _ _ 22 rfl w.heap.size 9 i0 (.string ⟨#[]⟩) 1 16 Try.underlying22 hi hz0 hz1 hz2 rfl (by decide) _ _ _ rfl HO.out a 0 cap (rowS []) rfl (by simp [rowS]) (fun _ => rfl) (by simp [rowS]) (row_one _) (by unfold maxLen; omega) (by omega) (by simp) ?_; intro v W hown hgrow; have hB1 := hB0.grown hgrow (by simp) (fun k hk => (HO.out.lt k hk).1); obtain ⟨a1, c1, rfl⟩ := own_form hown; have HO1 := Lib.hid hown; clear hown hgrow)
    have z1 := hB1.size
    have HO1 := Lib.hid (by have := HO1.out; rwa [Nat.zero_add, show rowS [] ++ rowS [] = rowS [] from List.nil_append _] at this : W.ownsRow w.heap.size 9 1 (.slice a1 0 c1) 0 (rowS []))
    have hO2 := own_move HO1.out (W' := W.alloc (.cells #[.string x] 9)) fun k _ hk => Below.heap_alloc W _ k hk
    have HO2 := Lib.hid hO2
    have hB2 := hB1.alloc z1 (.cells #[.string x] 9)
    have z2 := hB2.size
    have ON := Lib.hid (one_strs W x)
    clear hO2
    go_upto_region 6 with (at_builtin; refine wpList_append_src31 rfl _ _ 22 rfl w.heap.size 9 i0 (.string ⟨#[]⟩) 1 16 Try.underlying22 hi hz0 hz1 hz2 rfl (by decide) _ _ _ rfl HO2.out (some ⟨W.heap.size, 0, none⟩) 1 1 (rowS [x]) rfl (by simp [rowS]) (by simp) (strs_lies ON.out) (row_one _) (by unfold maxLen; omega) (by omega) (by exact z2) ?_; intro v W3 hown hgrow; have hB3 := hB2.grown hgrow (by exact z2) (fun k hk => (HO2.out.lt k hk).1); obtain ⟨a2, c2, rfl⟩ := own_form hown; have HO3 := Lib.hid hown; clear hown hgrow)
    have z3 := hB3.size
    go_wp2_with (at_builtin; refine wpList_append_src31 rfl _ _ 22 rfl w.heap.size 9 i0 (.string ⟨#[]⟩) 1 16 Try.underlying22 hi hz0 hz1 hz2 rfl (by decide) _ _ _ rfl HO3.out a 0 cap (rowS []) rfl (by simp [rowS]) (fun _ => rfl) (by simp [rowS]) (row_one _) (by unfold maxLen; omega) (by omega) (by exact z3) ?_; intro v W4 hown hgrow; have hB4 := hB3.grown hgrow (by exact z3) (fun k hk => (HO3.out.lt k hk).1); obtain ⟨a4, c4, rfl⟩ := own_form hown; have HO4 := Lib.hid hown; clear hown hgrow)
    go_ret
    refine ⟨_, rfl, ?_, hB4⟩
    have := HO4.out
    simp only [rowS, List.map_nil, List.nil_append, List.append_nil] at this
    exact own_strs (L := [x]) this rfl (by decide)

theorem ins_asc {L : List BA} {x : BA} {j : Nat} (hL : asc L) (h1 : ∀ y ∈ L.take j, bl y x = true) (h2 : ∀ (h : j < L.length), bl L[j] x = false) : asc (L.take j ++ [x] ++ L.drop j) ∧ (L.take j ++ [x] ++ L.drop j).Perm (x :: L) := by
  constructor
  · have hs : asc (L.take j ++ L.drop j) := by rw [List.take_append_drop]; exact hL
    have hp := List.pairwise_append.1 hs
    have hx : ∀ y ∈ L.drop j, bl y x = false := by
      intro y hy
      obtain ⟨i, hi, rfl⟩ := List.getElem_of_mem hy
      have hj : j < L.length := by rw [List.length_drop] at hi; omega
      rw [List.getElem_drop]
      rcases Nat.eq_zero_or_pos i with rfl | hp0
      · exact h2 hj
      · exact le_tr (h2 hj) ((List.pairwise_iff_getElem.1 hL) j (j + i) hj (by rw [List.length_drop] at hi; omega) (by omega))
    unfold asc
    rw [List.append_assoc]
    refine List.pairwise_append.2 ⟨hp.1, List.pairwise_append.2 ⟨by simp, hp.2.1, fun a ha b hb => ?_⟩, fun a ha b hb => ?_⟩
    · obtain rfl := List.mem_singleton.1 ha
      exact hx b hb
    · rcases List.mem_append.1 hb with hb | hb
      · obtain rfl := List.mem_singleton.1 hb
        exact lt_le (h1 a ha)
      · exact hp.2.2 a ha b hb
  · have e : L.take j ++ [x] ++ L.drop j = L.take j ++ x :: L.drop j := by simp
    rw [e]
    refine (List.perm_middle).trans ?_
    rw [List.take_append_drop]
theorem take_lt {L : List BA} {x : BA} {j : Nat} (hj : j < L.length) (h : ∀ y ∈ L.take j, bl y x = true) (e : bl L[j] x = true) : ∀ y ∈ L.take (j + 1), bl y x = true := by
  rw [List.take_succ_eq_append_getElem hj]
  intro y hy
  rcases List.mem_append.1 hy with hy | hy
  · exact h y hy
  · obtain rfl := List.mem_singleton.1 hy
    exact e

set_option maxRecDepth 100000 in
set_option maxHeartbeats 8000000 in
theorem insert_cons (L : List BA) (v : Value) (x : BA) (w : World) (h : IsStrs w v L) (hl : L.length ≤ 100000) (h0 : L ≠ []) (hL : asc L) :
    Calls Try.prog 54 #[v, .string x] w fun e w' => ∃ v' M, e = .returned v' ∧ IsStrs w' v' M ∧ (asc M ∧ M.Perm (x :: L)) ∧ Below w.heap.size w w' := by
  obtain ⟨i0, hi, hz0, hz1, hz2⟩ := info_parts info9
  have HS := Lib.hid h
  obtain ⟨a, cap, rfl, hn, hcap, hc⟩ := h
  unfold maxLen at hn
  obtain ⟨b1, o1, rfl, hb1, hcell⟩ := hc.resolve_left h0
  have HC := Lib.hid hcell
  have HR : Hid (∀ y ∈ L.take 0, bl y x = true) := Lib.hid (by simp)
  have HA := Lib.hid hL
  clear hcell h0 hL hc
  have HO : Hid ((w.alloc (.cells #[] 9)).ownsRow w.heap.size 9 1 (.slice (some ⟨w.heap.size, 0, none⟩) 0 0) 0 (rowS [])) := Lib.hid ⟨rfl, .inr ⟨w.heap.size, 0, #[], rfl, Nat.le_refl _, heap_alloc_new w _, Nat.le_refl _, Nat.zero_le _, rfl, rfl⟩⟩
  have hB0 := (Below.refl w.heap.size w).alloc (Nat.le_refl _) (.cells #[] 9)
  go_enter Try.func54, Try.ntmps54
  go_wp2
  go_loopw [5] (fun s wr => ∃ j : Nat, j ≤ L.length ∧ s = .int .i64 j ∧ Hid (∀ y ∈ L.take j, bl y x = true) ∧ wr = w) (fun i _ => L.length - (intOf i).toNat)
  case atStart => exact ⟨0, Nat.zero_le _, rfl, HR, rfl⟩
  case round =>
    obtain ⟨j, hj, rfl, HJ, hw⟩ := hrel
    subst wr
    have LO := Lib.hid (HS.out.take j (by omega))
    have HI := Lib.hid (HS.out.drop hb1 j (by omega))
    have LT : Hid ((rowS (L.take j)).length = j * 1) := Lib.hid (by rw [rowS_length, List.length_take]; omega)
    have LD : Hid ((rowS (L.drop j)).length = (L.length - j) * 1) := Lib.hid (by rw [rowS_length, List.length_drop]; omega)
    by_cases hlt : j < L.length
    · have p0 := HC.out j hlt
      obtain ⟨q, hq⟩ : ∃ q, bl L[j] x = q := ⟨_, rfl⟩
      cases q with
      | true =>
        have HN := Lib.hid (take_lt hlt HJ.out hq)
        obtain ⟨y, hy⟩ : ∃ y, L[j] = y := ⟨_, rfl⟩
        rw [hy] at p0 hq
        have hq : Op.bytesLess y.toList x.toList = true := hq
        clear hy
        go_wp2
        go_roundw
        case rel => exact ⟨j + 1, by omega, by go_num, HN, by simp⟩
        case measure => simp [intOf]; omega
      | false =>
        have HM := Lib.hid (ins_asc HA.out HJ.out (fun _ => hq))
        obtain ⟨y, hy⟩ : ∃ y, L[j] = y := ⟨_, rfl⟩
        rw [hy] at p0 hq
        have hq : Op.bytesLess y.toList x.toList = false := hq
        have hce : ¬ cap = j := by omega
        clear hy
        go_upto_region 5 with (at_builtin; refine wpList_append_src31 rfl _ _ 22 rfl w.heap.size 9 i0 (.string ⟨#[]⟩) 1 16 Try.underlying22 hi hz0 hz1 hz2 rfl (by decide) _ _ _ rfl HO.out (some ⟨b1, o1, none⟩) j cap (rowS (L.take j)) rfl LT.out (by simp) (strs_lies (LO.out.below hB0 (Nat.le_refl _))) (row_one _) (by unfold maxLen; omega) (by omega) (by simp) ?_; intro v W hown hgrow; have hB1 := hB0.grown hgrow (by simp) (fun k hk => (HO.out.lt k hk).1); obtain ⟨a1, c1, rfl⟩ := own_form hown; have HO1 := Lib.hid hown; clear hown hgrow)
        have z1 := hB1.size
        have HO1 := Lib.hid (by have := HO1.out; rwa [Nat.zero_add, show rowS [] ++ rowS (L.take j) = rowS (L.take j) from List.nil_append _] at this : W.ownsRow w.heap.size 9 1 (.slice a1 j c1) j (rowS (L.take j)))
        have hO2 := own_move HO1.out (W' := W.alloc (.cells #[.string x] 9)) fun k _ hk => Below.heap_alloc W _ k hk
        have HO2 := Lib.hid hO2
        have hB2 := hB1.alloc z1 (.cells #[.string x] 9)
        have z2 := hB2.size
        have ON := Lib.hid (one_strs W x)
        clear hO2
        go_upto_region 6 with (at_builtin; refine wpList_append_src31 rfl _ _ 22 rfl w.heap.size 9 i0 (.string ⟨#[]⟩) 1 16 Try.underlying22 hi hz0 hz1 hz2 rfl (by decide) _ _ _ rfl HO2.out (some ⟨W.heap.size, 0, none⟩) 1 1 (rowS [x]) rfl (by simp [rowS]) (by simp) (strs_lies ON.out) (row_one _) (by unfold maxLen; omega) (by omega) (by exact z2) ?_; intro v W3 hown hgrow; have hB3 := hB2.grown hgrow (by exact z2) (fun k hk => (HO2.out.lt k hk).1); obtain ⟨a2, c2, rfl⟩ := own_form hown; have HO3 := Lib.hid hown; clear hown hgrow)
        have z3 := hB3.size
        go_wp2_with (at_builtin; refine wpList_append_src31 rfl _ _ 22 rfl w.heap.size 9 i0 (.string ⟨#[]⟩) 1 16 Try.underlying22 hi hz0 hz1 hz2 rfl (by decide) _ _ _ rfl HO3.out (some ⟨b1, o1 + j, none⟩) (L.length - j) (cap - j) (rowS (L.drop j)) rfl LD.out (by simp) (strs_lies (HI.out.below hB3 (Nat.le_refl _))) (row_one _) (by unfold maxLen; omega) (by omega) (by exact z3) ?_; intro v W4 hown hgrow; have hB4 := hB3.grown hgrow (by exact z3) (fun k hk => (HO3.out.lt k hk).1); obtain ⟨a4, c4, rfl⟩ := own_form hown; have HO4 := Lib.hid hown; clear hown hgrow)
        go_ret
        refine ⟨_, L.take j ++ [x] ++ L.drop j, rfl, ?_, HM.out, hB4⟩
        have := HO4.out
        rw [← row_append, ← row_append] at this
        exact own_strs this (by rw [List.length_append, List.length_append, List.length_take, List.length_drop, List.length_singleton]; omega) (by unfold maxLen; omega)
    · have HM := Lib.hid (ins_asc HA.out HJ.out (fun h => absurd h hlt))
      have LZ : Hid ((rowS ([] : List BA)).length = (L.length - j) * 1) := Lib.hid (by simp [rowS]; omega)
      have LN : Hid (L.drop j = []) := Lib.hid (List.drop_eq_nil_of_le (by omega))
      go_upto_region 5 with (at_builtin; refine wpList_append_src31 rfl _ _ 22 rfl w.heap.size 9 i0 (.string ⟨#[]⟩) 1 16 Try.underlying22 hi hz0 hz1 hz2 rfl (by decide) _ _ _ rfl HO.out (some ⟨b1, o1, none⟩) j cap (rowS (L.take j)) rfl LT.out (by simp) (strs_lies (LO.out.below hB0 (Nat.le_refl _))) (row_one _) (by unfold maxLen; omega) (by omega) (by simp) ?_; intro v W hown hgrow; have hB1 := hB0.grown hgrow (by simp) (fun k hk => (HO.out.lt k hk).1); obtain ⟨a1, c1, rfl⟩ := own_form hown; have HO1 := Lib.hid hown; clear hown hgrow)
      have z1 := hB1.size
      have HO1 := Lib.hid (by have := HO1.out; rwa [Nat.zero_add, show rowS [] ++ rowS (L.take j) = rowS (L.take j) from List.nil_append _] at this : W.ownsRow w.heap.size 9 1 (.slice a1 j c1) j (rowS (L.take j)))
      have hO2 := own_move HO1.out (W' := W.alloc (.cells #[.string x] 9)) fun k _ hk => Below.heap_alloc W _ k hk
      have HO2 := Lib.hid hO2
      have hB2 := hB1.alloc z1 (.cells #[.string x] 9)
      have z2 := hB2.size
      have ON := Lib.hid (one_strs W x)
      clear hO2
      go_upto_region 6 with (at_builtin; refine wpList_append_src31 rfl _ _ 22 rfl w.heap.size 9 i0 (.string ⟨#[]⟩) 1 16 Try.underlying22 hi hz0 hz1 hz2 rfl (by decide) _ _ _ rfl HO2.out (some ⟨W.heap.size, 0, none⟩) 1 1 (rowS [x]) rfl (by simp [rowS]) (by simp) (strs_lies ON.out) (row_one _) (by unfold maxLen; omega) (by omega) (by exact z2) ?_; intro v W3 hown hgrow; have hB3 := hB2.grown hgrow (by exact z2) (fun k hk => (HO2.out.lt k hk).1); obtain ⟨a2, c2, rfl⟩ := own_form hown; have HO3 := Lib.hid hown; clear hown hgrow)
      have z3 := hB3.size
      by_cases hce : cap = j
      · go_wp2_with (at_builtin; refine wpList_append_src31 rfl _ _ 22 rfl w.heap.size 9 i0 (.string ⟨#[]⟩) 1 16 Try.underlying22 hi hz0 hz1 hz2 rfl (by decide) _ _ _ rfl HO3.out (some ⟨b1, o1, none⟩) (L.length - j) 0 (rowS []) rfl LZ.out (by simp) (by simp [rowS]) (row_one _) (by unfold maxLen; omega) (by omega) (by exact z3) ?_; intro v W4 hown hgrow; have hB4 := hB3.grown hgrow (by exact z3) (fun k hk => (HO3.out.lt k hk).1); obtain ⟨a4, c4, rfl⟩ := own_form hown; have HO4 := Lib.hid hown; clear hown hgrow)
        go_ret
        refine ⟨_, L.take j ++ [x] ++ L.drop j, rfl, ?_, HM.out, hB4⟩
        have := HO4.out
        rw [← row_append, ← row_append] at this
        rw [LN.out]
        exact own_strs this (by rw [List.length_append, List.length_append, List.length_take, List.length_singleton, List.length_nil]; omega) (by unfold maxLen; omega)
      · go_wp2_with (at_builtin; refine wpList_append_src31 rfl _ _ 22 rfl w.heap.size 9 i0 (.string ⟨#[]⟩) 1 16 Try.underlying22 hi hz0 hz1 hz2 rfl (by decide) _ _ _ rfl HO3.out (some ⟨b1, o1 + j, none⟩) (L.length - j) (cap - j) (rowS (L.drop j)) rfl LD.out (by simp) (strs_lies (HI.out.below hB3 (Nat.le_refl _))) (row_one _) (by unfold maxLen; omega) (by omega) (by exact z3) ?_; intro v W4 hown hgrow; have hB4 := hB3.grown hgrow (by exact z3) (fun k hk => (HO3.out.lt k hk).1); obtain ⟨a4, c4, rfl⟩ := own_form hown; have HO4 := Lib.hid hown; clear hown hgrow)
        go_ret
        refine ⟨_, L.take j ++ [x] ++ L.drop j, rfl, ?_, HM.out, hB4⟩
        have := HO4.out
        rw [← row_append, ← row_append] at this
        exact own_strs this (by rw [List.length_append, List.length_append, List.length_take, List.length_drop, List.length_singleton]; omega) (by unfold maxLen; omega)

/-- The reference's insert. -/
theorem insert_any (L : List BA) (v : Value) (x : BA) (w : World) (h : IsStrs w v L) (hl : L.length ≤ 100000) (hL : asc L) :
    Calls Try.prog 54 #[v, .string x] w fun e w' => ∃ v' M, e = .returned v' ∧ IsStrs w' v' M ∧ (asc M ∧ M.Perm (x :: L)) ∧ Below w.heap.size w w' := by
  by_cases h0 : L = []
  · subst h0
    refine (insert_nil v x w h).mono ?_
    rintro e w' ⟨v', rfl, h1, h2⟩
    exact ⟨v', [x], rfl, h1, ⟨by simp [asc], List.Perm.refl _⟩, h2⟩
  · exact insert_cons L v x w h hl h0 hL
end Go.Proofs.Ytgnkfikihjjpeaa
