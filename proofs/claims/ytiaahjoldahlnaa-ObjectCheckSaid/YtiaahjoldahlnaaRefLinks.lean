/- The reference's Links, and SameDigests, at this translation. -/
import Derived.Test.YtiaahjoldahlnaaLinks
import Derived.Test.YtiaahjoldahlnaaRefChk
namespace Go.Proofs.Ytiaahjoldahlnaa
open Go.RowKit Go.Great
attribute [local go_sem] eq_arr

theorem own_move {w w' : World} {B m s : Nat} {e : TypeId} {v : Value} {xs : List Value} (h : w.ownsRow B e s v m xs) (hk : ∀ k, B ≤ k → k < w.heap.size → w'.heap[k]? = w.heap[k]?) : w'.ownsRow B e s v m xs := by
  refine ⟨h.1, h.2.imp id ?_⟩
  rintro ⟨g, cap, cur, e, hg, hh, h3⟩
  exact ⟨g, cap, cur, e, hg, (hk g hg (Array.getElem?_eq_some_iff.1 hh).1).trans hh, h3⟩

set_option maxRecDepth 100000 in
set_option maxHeartbeats 4000000 in
theorem rlinks_bad (k : Int) (d : BA) (ve : Value) (t1 t2 : Nat) (vp : Value) (au : BA) (ti : Int) (ms : BA) (w : World) (r : Int) (hr : r ≠ 0)
    (C : ∀ W, Below w.heap.size w W → Calls Try.prog 13 #[.agg #[.int .i64 k, .string d, ve, .int .u64 t1, .int .u64 t2, vp, .string au, .int .i64 ti, .string ms]] W fun e w' => e = .returned (.int .i64 r) ∧ Below W.heap.size W w') :
    Calls Try.prog 16 #[.agg #[.int .i64 k, .string d, ve, .int .u64 t1, .int .u64 t2, vp, .string au, .int .i64 ti, .string ms]] w fun e w' => ∃ u, e = .returned u ∧ IsDigs w' u [] ∧ Below w.heap.size w w' := by
  have HC := Lib.hid C
  have h0 := (Bo.fresh w k d ve t1 t2 vp au ti ms).alloc (.cells #[] 25)
  have hne : (r != 0) = true := by simpa using hr
  clear C hr
  go_enter Try.func16, Try.ntmps16
  go_wp2_with fail
  ((with_reducible refine (HC.out _ h0.b).mono ?_); rintro e w1 ⟨rfl, hb1⟩)
  have hb := (h0.on hb1).b
  clear h0 hb1
  go_wp2
  go_ret
  exact ⟨_, rfl, digs_none _ _ _, hb⟩

set_option maxRecDepth 100000 in
set_option maxHeartbeats 8000000 in
theorem rlinks_ok (k : Int) (d : BA) (L : List Ent) (ve : Value) (t1 t2 : Nat) (P : List Dig) (vp : Value) (au : BA) (ti : Int) (ms : BA) (w : World) (hE : IsEnts w ve L) (hP : IsDigs w vp P) (hl : L.length ≤ 200) (hp : P.length ≤ 8)
    (C : ∀ W, Below w.heap.size w W → Calls Try.prog 13 #[.agg #[.int .i64 k, .string d, ve, .int .u64 t1, .int .u64 t2, vp, .string au, .int .i64 ti, .string ms]] W fun e w' => e = .returned (.int .i64 0) ∧ Below W.heap.size W w') :
    Calls Try.prog 16 #[.agg #[.int .i64 k, .string d, ve, .int .u64 t1, .int .u64 t2, vp, .string au, .int .i64 ti, .string ms]] w fun e w' => ∃ u, e = .returned u ∧ IsDigs w' u (L.map Ent.dig ++ ((if k = 3 then [(t1, t2)] else []) ++ P)) ∧ Below w.heap.size w w' := by
  have HCC := Lib.hid C
  have HP := Lib.hid hP
  obtain ⟨a, c1, rfl, m1, _, hcE⟩ := hE
  obtain ⟨b, c2, rfl, m2, _, _⟩ := hP
  have HC := Lib.hid hcE
  clear hcE C m1 m2
  obtain ⟨i0, hi, hz0, hz1, hz2⟩ := info_parts info25
  have h0 := (Bo.fresh w k d (.slice a L.length c1) t1 t2 (.slice b P.length c2) au ti ms).alloc (.cells #[] 25)
  have o0 := Lib.hid (World.ownsRow_lit (base := w.heap.size + 1) (e := 25) (size := 2) (w.alloc (oc' k d (.slice a L.length c1) t1 t2 (.slice b P.length c2) au ti ms)) #[] 0 (by simp) (Nat.zero_le _) rfl)
  obtain ⟨R, hR⟩ : ∃ R, (if k = 3 then [(t1, t2)] else []) = R := ⟨_, rfl⟩
  rw [hR]
  have HR := Lib.hid hR
  clear hR
  go_enter Try.func16, Try.ntmps16
  go_wp2_with fail
  ((with_reducible refine (HCC.out _ h0.b).mono ?_); rintro e w1 ⟨rfl, hb1⟩)
  have h1 := Lib.hid (h0.on hb1)
  have o1 := Lib.hid (own_move (w' := w1) o0.out fun k _ h => hb1.block k h)
  have l1 : w.heap.size + 1 < w1.heap.size := by have := hb1.size; simp at this; omega
  simp only [World.size_alloc] at o1
  clear h0 hb1 HCC o0
  go_wp2
  go_loopw [3, 4] (fun s3 s4 wr => ∃ j : Nat, j ≤ L.length ∧ s4 = .int .i64 j ∧ Hid (wr.ownsRow (w.heap.size + 1) 25 2 s3 j (rowD ((L.take j).map Ent.dig))) ∧ Hid (Bo w k d (.slice a L.length c1) t1 t2 (.slice b P.length c2) au ti ms wr)) (fun _ i _ => L.length - (intOf i).toNat)
  case atStart => exact ⟨0, Nat.zero_le _, rfl, o1, h1⟩
  case round =>
    obtain ⟨j, hj, rfl, ho, HB⟩ := hrel
    clear l1
    have szr : w.heap.size + 1 ≤ wr.heap.size := HB.out.lt
    have y2 := HB.out.c2
    by_cases hlt : j < L.length
    · obtain ⟨b1, o1, rfl, hb1, hcell⟩ := HC.out.resolve_left (by intro e; rw [e] at hlt; simp at hlt)
      obtain ⟨p0, p1, p2, p3⟩ := (hcell j hlt).below HB.out.b hb1
      have et : rowD ((L.take (j + 1)).map Ent.dig) = rowD ((L.take j).map Ent.dig) ++ [.int .u64 L[j].dig.1, .int .u64 L[j].dig.2] := by
        rw [List.take_succ_eq_append_getElem hlt, List.map_append, rowD_append]; rfl
      have ET := Lib.hid et
      clear hcell et
      generalize L[j] = y at p0 p1 p2 p3 ET
      obtain ⟨nm, dir, d1, d2⟩ := y
      simp only at p0 p1 p2 p3 ET
      go_wp2_with (at_builtin; refine wpList_append_own _ rfl _ _ 26 rfl (w.heap.size + 1) 25 i0 (.agg #[.int .u64 0, .int .u64 0]) 2 16 Try.underlying26 hi hz0 hz1 hz2 rfl (by decide) _ j (rowD ((L.take j).map Ent.dig)) rfl (ho.out.alloc _) ⟨wr.heap.size, 0, none⟩ 1 1 [.int .u64 d1, .int .u64 d2] rfl rfl (two_dig' _ _ rfl (d1, d2) _) (dig_one (d1, d2)) (by unfold maxLen; omega) (by omega) (by simp; omega) ?_)
      intro v' w5 hown hgrow _
      have BA := (Below.refl (w.heap.size + 1) wr).alloc szr (.cells #[.int .u64 d1, .int .u64 d2] 25)
      have BG := BA.trans ((Below.refl (w.heap.size + 1) _).grown hgrow (by simp; omega) (fun k e => (ho.out.lt k e).1))
      have HF := Lib.hid (Go.Proofs.Ytiaahjoldahlnaa.Bo.on1 HB.out BG)
      have OW := Lib.hid hown
      clear hown hgrow
      go_wp2
      go_roundw
      case rel => exact ⟨j + 1, by omega, by go_num, Lib.hid (by rw [ET.out, List.map_take]; exact OW.out), HF⟩
      case measure => simp [intOf]; omega
    · obtain rfl : j = L.length := by omega
      have e0 : (L.take L.length).map Ent.dig = L.map Ent.dig := by rw [List.take_length]
      rw [e0] at ho
      obtain ⟨y0, -, -, y3, y4, y5, -, -, -, ylt, yb⟩ := HB.out
      have HPr := HP.out.below yb (Nat.le_refl _)
      obtain ⟨hbn, -, hbl⟩ := digs_lies HPr
      have HBL := Lib.hid hbl
      have HBN := Lib.hid hbn
      clear hbn hbl HPr e0
      by_cases hk : k = 3
      · subst hk
        have eR : R = [(t1, t2)] := by rw [← HR.out, if_pos rfl]
        have ER := Lib.hid eR
        clear eR
        go_wp2_with (at_builtin; refine wpList_append_own _ rfl _ _ 26 rfl (w.heap.size + 1) 25 i0 (.agg #[.int .u64 0, .int .u64 0]) 2 16 Try.underlying26 hi hz0 hz1 hz2 rfl (by decide) _ L.length (rowD (L.map Ent.dig)) rfl (ho.out.alloc _) ⟨wr.heap.size, 0, none⟩ 1 1 [.int .u64 t1, .int .u64 t2] rfl rfl (two_dig' _ _ rfl (t1, t2) _) (dig_one (t1, t2)) (by unfold maxLen; omega) (by omega) (by simp; omega) ?_)
        intro v' w5 hown hgrow _
        have BA := (Below.refl (w.heap.size + 1) wr).alloc szr (.cells #[.int .u64 t1, .int .u64 t2] 25)
        have BG := BA.trans ((Below.refl (w.heap.size + 1) _).grown hgrow (by simp; omega) (fun k e => (ho.out.lt k e).1))
        have hb5 := Go.Proofs.Ytiaahjoldahlnaa.Bo.on1 HB.out BG
        have z5 := hb5.c5
        have OW := Lib.hid hown
        have sz5 : w.heap.size + 1 ≤ w5.heap.size := hb5.lt
        have HB5 : Hid (∀ ad, b = some ad → ∀ j u, (rowD P)[j]? = some u → w5.cell? (ad.add j) = some u) := Lib.hid (digs_lies (HP.out.below hb5.b (Nat.le_refl _))).2.2
        have yb5 := hb5.b
        clear hown hgrow y0 y2 y3 y4 y5 ylt yb ho HBL HB hb5 BG BA
        go_wp2_with (at_builtin; refine wpList_append_src7 rfl _ _ 26 rfl (w.heap.size + 1) 25 i0 (.agg #[.int .u64 0, .int .u64 0]) 2 16 Try.underlying26 hi hz0 hz1 hz2 rfl (by decide) _ (L.length + 1) _ rfl OW.out b P.length c2 (rowD P) rfl (rowD_length _) HBN.out HB5.out (rowD_one _) (by unfold maxLen; omega) (by omega) (by omega) ?_)
        intro v6 w6 hown hgrow
        have BG6 := (Below.refl (w.heap.size + 1) _).grown hgrow sz5 (fun k e => (OW.out.lt k e).1)
        have b6 := yb5.trans (BG6.mono (Nat.le_succ _))
        have OW6 : Hid (IsDigs w6 v6 (L.map Ent.dig ++ ([(t1, t2)] ++ P))) := Lib.hid (own_digs (B := w.heap.size + 1) (m := L.length + 1 + P.length) (by rw [rowD_append, rowD_append]; exact hown) (by simp; omega) (by unfold maxLen; omega))
        clear hown hgrow
        go_wp2
        go_ret
        exact ⟨_, rfl, by rw [ER.out]; exact OW6.out, b6⟩
      · have eR : R = [] := by rw [← HR.out, if_neg hk]
        have ER := Lib.hid eR
        have ek : (k == 3) = false := by simpa using hk
        clear hk eR
        go_wp2_with (at_builtin; refine wpList_append_src7 rfl _ _ 26 rfl (w.heap.size + 1) 25 i0 (.agg #[.int .u64 0, .int .u64 0]) 2 16 Try.underlying26 hi hz0 hz1 hz2 rfl (by decide) _ L.length _ rfl ho.out b P.length c2 (rowD P) rfl (rowD_length _) HBN.out HBL.out (rowD_one _) (by unfold maxLen; omega) (by omega) (by omega) ?_)
        intro v6 w6 hown hgrow
        have BG6 := (Below.refl (w.heap.size + 1) _).grown hgrow szr (fun k e => (ho.out.lt k e).1)
        have b6 := yb.trans (BG6.mono (Nat.le_succ _))
        have OW6 : Hid (IsDigs w6 v6 (L.map Ent.dig ++ ([] ++ P))) := Lib.hid (own_digs (B := w.heap.size + 1) (m := L.length + P.length) (by rw [List.nil_append, rowD_append]; exact hown) (by simp) (by unfold maxLen; omega))
        clear hown hgrow
        go_wp2
        go_ret
        exact ⟨_, rfl, by rw [ER.out]; exact OW6.out, b6⟩

theorem refLinks_any (o : Ob) (v : Value) (w : World) (hv : IsOb w v o) (hf : o.Fit) (hu : o.Digs64) :
    Calls Try.prog 16 #[v] w fun e w' => ∃ u, e = .returned u ∧ IsDigs w' u (lnk o) ∧ Below w.heap.size w w' := by
  have hv0 := hv
  obtain ⟨ve, vp, rfl, hE, hP⟩ := hv
  have hB := fun (W : World) (hW : Below w.heap.size w W) => hv0.below hW (Nat.le_refl _)
  by_cases h : chk o = 0
  · obtain ⟨l1, l2⟩ := chk_lens h
    rw [lnk, if_pos h]
    exact rlinks_ok o.kind o.data o.ents ve o.tree.1 o.tree.2 o.pars vp o.author o.time o.msg w hE hP l1 l2 (fun W hW => refChk_any o _ W (hB W hW) hf hu 0 h)
  · rw [lnk, if_neg h]
    exact rlinks_bad o.kind o.data ve o.tree.1 o.tree.2 vp o.author o.time o.msg w _ h (fun W hW => refChk_any o _ W (hB W hW) hf hu _ rfl)

set_option maxHeartbeats 2000000 in
theorem sameD_any (L : List Dig) (v1 v2 : Value) (w : World) (h1 : IsDigs w v1 L) (h2 : IsDigs w v2 L) :
    Calls Try.prog 14 #[v1, v2] w fun e w' => e = .returned (.bool true) ∧ Below w.heap.size w w' := by
  obtain ⟨a, cap, rfl, hn, _, hc⟩ := h1
  obtain ⟨b, cap2, rfl, _, _, hc2⟩ := h2
  unfold maxLen at hn
  have HC := Lib.hid hc
  have HC2 := Lib.hid hc2
  clear hc hc2
  go_enter Try.func14, Try.ntmps14
  go_wp2
  go_loopw [5] (fun s5 wr => ∃ j : Nat, j ≤ L.length ∧ s5 = .int .i64 j ∧ Below w.heap.size w wr) (fun i _ => L.length - (intOf i).toNat)
  case atStart => exact ⟨0, Nat.zero_le _, rfl, Below.refl _ _⟩
  case round =>
    obtain ⟨j, hj, rfl, hBr⟩ := hrel
    by_cases hlt : j < L.length
    · obtain ⟨b1, o1, rfl, hb1, hcell⟩ := HC.out.resolve_left (by intro e; rw [e] at hlt; simp at hlt)
      obtain ⟨b2, o2, rfl, hb2, hcell2⟩ := HC2.out.resolve_left (by intro e; rw [e] at hlt; simp at hlt)
      have p0 := (hBr.cell (p := ⟨b1, o1 + j * 2, none⟩) hb1).trans (hcell j hlt).1
      have p1 := (hBr.cell (p := ⟨b1, o1 + j * 2 + 1, none⟩) hb1).trans (hcell j hlt).2
      have p2 := (hBr.cell (p := ⟨b2, o2 + j * 2, none⟩) hb2).trans (hcell2 j hlt).1
      have p3 := (hBr.cell (p := ⟨b2, o2 + j * 2 + 1, none⟩) hb2).trans (hcell2 j hlt).2
      generalize L[j] = x at p0 p1 p2 p3
      clear hcell hcell2
      go_wp2
      go_quiet (fail)
      go_wp2
      go_roundw
      case rel => exact ⟨j + 1, by omega, by go_num, below_drewN hBr nq⟩
      case measure => simp [intOf]; omega
    · go_wp2
      go_ret
      exact ⟨rfl, hBr⟩
end Go.Proofs.Ytiaahjoldahlnaa
