/- object.Links, at this translation. -/
import Derived.Test.YtiaahjoldahlnaaDigs
namespace Go.Proofs.Ytiaahjoldahlnaa
open Go.RowKit Go.Great
attribute [local go_sem] eq_arr

theorem two_dig' (W : World) (n : Nat) (hn : W.heap.size = n) (d : Dig) (t : TypeId) : ∀ j u, [Value.int .u64 d.1, .int .u64 d.2][j]? = some u → (W.alloc (.cells #[.int .u64 d.1, .int .u64 d.2] t)).cell? ((⟨n, 0, none⟩ : Addr).add j) = some u := by
  subst hn
  exact two_dig W d t
/-- The links of an object. -/
def lnk (o : Ob) : List Dig := if chk o = 0 then o.ents.map Ent.dig ++ ((if o.kind = 3 then [o.tree] else []) ++ o.pars) else []

set_option maxRecDepth 100000 in
set_option maxHeartbeats 4000000 in
theorem links_bad (k : Int) (d : BA) (ve : Value) (t1 t2 : Nat) (vp : Value) (au : BA) (ti : Int) (ms : BA) (w : World) (r : Int) (hr : r ≠ 0)
    (C : ∀ W, Below w.heap.size w W → Calls Try.prog 12 #[.agg #[.int .i64 k, .string d, ve, .int .u64 t1, .int .u64 t2, vp, .string au, .int .i64 ti, .string ms]] W fun e w' => e = .returned (.int .i64 r) ∧ Below W.heap.size W w') :
    Calls Try.prog 15 #[.agg #[.int .i64 k, .string d, ve, .int .u64 t1, .int .u64 t2, vp, .string au, .int .i64 ti, .string ms]] w fun e w' => e = .returned (.slice none 0 0) ∧ Below w.heap.size w w' := by
  have HC := Lib.hid C
  have h0 := Bo.fresh w k d ve t1 t2 vp au ti ms
  have hne : (r != 0) = true := by simpa using hr
  clear C hr
  go_enter Try.func15, Try.ntmps15
  go_wp2_with fail
  ((with_reducible refine (HC.out _ h0.b).mono ?_); rintro e w1 ⟨rfl, hb1⟩)
  have hb := (h0.on hb1).b
  clear h0 hb1
  go_wp2
  go_ret
  exact ⟨rfl, hb⟩

set_option maxRecDepth 100000 in
set_option maxHeartbeats 8000000 in
theorem links_ok (k : Int) (d : BA) (L : List Ent) (ve : Value) (t1 t2 : Nat) (P : List Dig) (vp : Value) (au : BA) (ti : Int) (ms : BA) (w : World) (hE : IsEnts w ve L) (hP : IsDigs w vp P) (hl : L.length ≤ 200) (hp : P.length ≤ 8)
    (C : ∀ W, Below w.heap.size w W → Calls Try.prog 12 #[.agg #[.int .i64 k, .string d, ve, .int .u64 t1, .int .u64 t2, vp, .string au, .int .i64 ti, .string ms]] W fun e w' => e = .returned (.int .i64 0) ∧ Below W.heap.size W w') :
    Calls Try.prog 15 #[.agg #[.int .i64 k, .string d, ve, .int .u64 t1, .int .u64 t2, vp, .string au, .int .i64 ti, .string ms]] w fun e w' => ∃ u, e = .returned u ∧ IsDigs w' u (L.map Ent.dig ++ ((if k = 3 then [(t1, t2)] else []) ++ P)) ∧ Below w.heap.size w w' := by
  have HCC := Lib.hid C
  have HP := Lib.hid hP
  obtain ⟨a, c1, rfl, m1, _, hcE⟩ := hE
  obtain ⟨b, c2, rfl, m2, _, _⟩ := hP
  have HC := Lib.hid hcE
  clear hcE C m1 m2
  obtain ⟨i0, hi, hz0, hz1, hz2⟩ := info_parts info25
  have h0 := Bo.fresh w k d (.slice a L.length c1) t1 t2 (.slice b P.length c2) au ti ms
  obtain ⟨R, hR⟩ : ∃ R, (if k = 3 then [(t1, t2)] else []) = R := ⟨_, rfl⟩
  rw [hR]
  have HR := Lib.hid hR
  clear hR
  go_enter Try.func15, Try.ntmps15
  go_wp2_with fail
  ((with_reducible refine (HCC.out _ h0.b).mono ?_); rintro e w1 ⟨rfl, hb1⟩)
  have h1 := h0.on hb1
  have q2 := h1.c2
  have hw1 := h1.b
  have hlt1 := h1.lt
  have H1 := Lib.hid h1
  clear h0 hb1 h1 HCC
  go_wp2
  go_loopw [3, 12] (fun s3 s12 wr => ∃ j : Nat, j ≤ L.length ∧ s12 = .int .i64 j ∧ Hid (wr.ownsRow w1.heap.size 25 2 s3 j (rowD ((L.take j).map Ent.dig))) ∧ Below w1.heap.size w1 wr) (fun _ i _ => L.length - (intOf i).toNat)
  case atStart => exact ⟨0, Nat.zero_le _, rfl, Lib.hid (World.ownsRow_nil _ _ _ _), Below.refl _ _⟩
  case round =>
    obtain ⟨j, hj, rfl, ho, hBr⟩ := hrel
    have szr := hBr.size
    by_cases hlt : j < L.length
    · obtain ⟨b1, o1, rfl, hb1, hcell⟩ := HC.out.resolve_left (by intro e; rw [e] at hlt; simp at hlt)
      obtain ⟨p0, p1, p2, p3⟩ := ((hcell j hlt).below hw1 hb1).below hBr (by omega)
      have et : rowD ((L.take (j + 1)).map Ent.dig) = rowD ((L.take j).map Ent.dig) ++ [.int .u64 L[j].dig.1, .int .u64 L[j].dig.2] := by
        rw [List.take_succ_eq_append_getElem hlt, List.map_append, rowD_append]; rfl
      have ET := Lib.hid et
      clear hcell et
      generalize L[j] = y at p0 p1 p2 p3 ET
      obtain ⟨nm, dir, d1, d2⟩ := y
      simp only at p0 p1 p2 p3 ET
      clear q2
      go_wp2_with (at_builtin; refine wpList_append_own _ rfl _ _ 26 rfl w1.heap.size 25 i0 (.agg #[.int .u64 0, .int .u64 0]) 2 16 Try.underlying26 hi hz0 hz1 hz2 rfl (by decide) _ j (rowD ((L.take j).map Ent.dig)) rfl ((ho.out.alloc _).alloc _) ⟨wr.heap.size + 1, 0, none⟩ 1 1 [.int .u64 d1, .int .u64 d2] rfl rfl (two_dig' _ _ (by simp) (d1, d2) _) (dig_one (d1, d2)) (by unfold maxLen; omega) (by omega) (by simp; omega) ?_)
      intro v' w5 hown hgrow _
      have BA := (hBr.alloc szr (.cells #[.string nm, .bool dir, .int .u64 d1, .int .u64 d2] 45)).alloc (by simp; omega) (.cells #[.int .u64 d1, .int .u64 d2] 25)
      have BG := BA.trans ((Below.refl w1.heap.size _).grown hgrow (by simp; omega) (fun k e => (ho.out.lt k e).1))
      have OW := Lib.hid hown
      clear hown hgrow
      go_wp2
      go_roundw
      case rel => exact ⟨j + 1, by omega, by go_num, Lib.hid (by rw [ET.out, List.map_take]; exact OW.out), BG⟩
      case measure => simp [intOf]; omega
    · obtain rfl : j = L.length := by omega
      have e0 : (L.take L.length).map Ent.dig = L.map Ent.dig := by rw [List.take_length]
      rw [e0] at ho
      have hr := H1.out.on hBr
      obtain ⟨y0, -, -, y3, y4, y5, -, -, -, ylt, yb⟩ := hr
      have HPr := HP.out.below yb (Nat.le_refl _)
      obtain ⟨hbn, -, hbl⟩ := digs_lies HPr
      have HBL := Lib.hid hbl
      have HBN := Lib.hid hbn
      clear hbn hbl HPr q2 e0
      by_cases hk : k = 3
      · subst hk
        have eR : R = [(t1, t2)] := by rw [← HR.out, if_pos rfl]
        have ER := Lib.hid eR
        clear eR
        go_wp2_with (at_builtin; refine wpList_append_own _ rfl _ _ 26 rfl w1.heap.size 25 i0 (.agg #[.int .u64 0, .int .u64 0]) 2 16 Try.underlying26 hi hz0 hz1 hz2 rfl (by decide) _ L.length (rowD (L.map Ent.dig)) rfl (ho.out.alloc _) ⟨wr.heap.size, 0, none⟩ 1 1 [.int .u64 t1, .int .u64 t2] rfl rfl (two_dig' _ _ rfl (t1, t2) _) (dig_one (t1, t2)) (by unfold maxLen; omega) (by omega) (by simp; omega) ?_)
        intro v' w5 hown hgrow _
        have BA := hBr.alloc szr (.cells #[.int .u64 t1, .int .u64 t2] 25)
        have BG := BA.trans ((Below.refl w1.heap.size _).grown hgrow (by simp; omega) (fun k e => (ho.out.lt k e).1))
        have z5 := (H1.out.on BG).c5
        have OW := Lib.hid hown
        have sz5 := BG.size
        have HB5 : Hid (∀ ad, b = some ad → ∀ j u, (rowD P)[j]? = some u → w5.cell? (ad.add j) = some u) := Lib.hid (digs_lies (HP.out.below (H1.out.on BG).b (Nat.le_refl _))).2.2
        have yb5 := (H1.out.on BG).b
        clear hown hgrow y0 y3 y4 y5 ylt yb ho HBL
        go_wp2_with (at_builtin; refine wpList_append_src7 rfl _ _ 26 rfl w1.heap.size 25 i0 (.agg #[.int .u64 0, .int .u64 0]) 2 16 Try.underlying26 hi hz0 hz1 hz2 rfl (by decide) _ (L.length + 1) _ rfl OW.out b P.length c2 (rowD P) rfl (rowD_length _) HBN.out HB5.out (rowD_one _) (by unfold maxLen; omega) (by omega) (by omega) ?_)
        intro v6 w6 hown hgrow
        have BG6 := (Below.refl w1.heap.size _).grown hgrow sz5 (fun k e => (OW.out.lt k e).1)
        have b6 := yb5.trans (BG6.mono (by omega))
        have OW6 : Hid (IsDigs w6 v6 (L.map Ent.dig ++ ([(t1, t2)] ++ P))) := Lib.hid (own_digs (B := w1.heap.size) (m := L.length + 1 + P.length) (by rw [rowD_append, rowD_append]; exact hown) (by simp; omega) (by unfold maxLen; omega))
        clear hown hgrow
        go_wp2
        go_ret
        exact ⟨_, rfl, by rw [ER.out]; exact OW6.out, b6⟩
      · have eR : R = [] := by rw [← HR.out, if_neg hk]
        have ER := Lib.hid eR
        clear eR
        have ek : (k == 3) = false := by simpa using hk
        clear hk
        go_wp2_with (at_builtin; refine wpList_append_src7 rfl _ _ 26 rfl w1.heap.size 25 i0 (.agg #[.int .u64 0, .int .u64 0]) 2 16 Try.underlying26 hi hz0 hz1 hz2 rfl (by decide) _ L.length _ rfl ho.out b P.length c2 (rowD P) rfl (rowD_length _) HBN.out HBL.out (rowD_one _) (by unfold maxLen; omega) (by omega) (by omega) ?_)
        intro v6 w6 hown hgrow
        have BG6 := (Below.refl w1.heap.size _).grown hgrow szr (fun k e => (ho.out.lt k e).1)
        have b6 := yb.trans (BG6.mono (by omega))
        have OW6 : Hid (IsDigs w6 v6 (L.map Ent.dig ++ ([] ++ P))) := Lib.hid (own_digs (B := w1.heap.size) (m := L.length + P.length) (by rw [List.nil_append, rowD_append]; exact hown) (by simp) (by unfold maxLen; omega))
        clear hown hgrow
        go_wp2
        go_ret
        exact ⟨_, rfl, by rw [ER.out]; exact OW6.out, b6⟩

/-- How many entries and parents a valid object has. -/
theorem chk_lens {o : Ob} (h : chk o = 0) : o.ents.length ≤ 200 ∧ o.pars.length ≤ 8 := by
  unfold chk at h
  by_cases h0 : chkFields o = 0
  · rcases chkFields_ok h0 with ⟨_, h2, h3⟩ | ⟨_, h2, _, h4⟩ | ⟨_, _, h3, h4⟩
    · have := ((bare_iff o).1 h2).2.1
      omega
    · have := ((bare_iff o).1 h2).2.1
      have := (chkEnts_ok h4).1
      omega
    · have := (chkCommit_ok h4).2.1
      omega
  · rw [if_pos h0] at h
    exact absurd h h0

theorem links_any (o : Ob) (v : Value) (w : World) (hv : IsOb w v o) (hf : o.Fit) (hd : o.data.size ≤ 2 ^ 60) :
    Calls Try.prog 15 #[v] w fun e w' => ∃ u, e = .returned u ∧ IsDigs w' u (lnk o) ∧ Below w.heap.size w w' := by
  have hv0 := hv
  obtain ⟨ve, vp, rfl, hE, hP⟩ := hv
  have C : ∀ W, Below w.heap.size w W → ∀ r, chk o = r → Calls Try.prog 12 #[.agg #[.int .i64 o.kind, .string o.data, ve, .int .u64 o.tree.1, .int .u64 o.tree.2, vp, .string o.author, .int .i64 o.time, .string o.msg]] W fun e w' => e = .returned (.int .i64 r) ∧ Below W.heap.size W w' :=
    fun W hW r hr => check_any o _ W (hv0.below hW (Nat.le_refl _)) hf hd r hr
  by_cases h : chk o = 0
  · obtain ⟨l1, l2⟩ := chk_lens h
    rw [lnk, if_pos h]
    exact links_ok o.kind o.data o.ents ve o.tree.1 o.tree.2 o.pars vp o.author o.time o.msg w hE hP l1 l2 (fun W hW => C W hW 0 h)
  · rw [lnk, if_neg h]
    refine (links_bad o.kind o.data ve o.tree.1 o.tree.2 vp o.author o.time o.msg w _ h (fun W hW => C W hW _ rfl)).mono ?_
    rintro e w' ⟨rfl, hb⟩
    exact ⟨_, rfl, digs_none _ _ _, hb⟩
end Go.Proofs.Ytiaahjoldahlnaa
