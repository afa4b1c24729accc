/- The reference's fields, at this translation. -/
import Derived.Test.YtiaahjoldahlnaaRefCommit
namespace Go.Proofs.Ytiaahjoldahlnaa
open Go.RowKit Go.Great

set_option maxRecDepth 100000 in
set_option maxHeartbeats 4000000 in
theorem rf_else (k : Int) (hk : k < 1 ∨ 4 < k) (d : BA) (a b : Option Addr) (n1 c1 n2 c2 t1 t2 : Nat) (au : BA) (ti : Int) (ms : BA) (w : World) :
    Calls Try.prog 27 #[.agg #[.int .i64 k, .string d, .slice a n1 c1, .int .u64 t1, .int .u64 t2, .slice b n2 c2, .string au, .int .i64 ti, .string ms]] w fun e w' => e = .returned (.int .i64 9) ∧ Below w.heap.size w w' := by
  have hb := (Bo.fresh w k d (.slice a n1 c1) t1 t2 (.slice b n2 c2) au ti ms).b
  rcases hk with h | h
  · go_enter Try.func27, Try.ntmps27
    go_wp2
    go_ret
    exact ⟨rfl, hb⟩
  · go_enter Try.func27, Try.ntmps27
    go_wp2
    go_ret
    exact ⟨rfl, hb⟩

set_option maxRecDepth 100000 in
set_option maxHeartbeats 4000000 in
theorem rf_no1 (d : BA) (a b : Option Addr) (n1 c1 n2 c2 t1 t2 : Nat) (au : BA) (ti : Int) (ms : BA) (w : World) (R : ∀ W, Calls Try.prog 45 #[.agg #[.int .i64 1, .string d, .slice a n1 c1, .int .u64 t1, .int .u64 t2, .slice b n2 c2, .string au, .int .i64 ti, .string ms]] W fun e w' => e = .returned (.bool false) ∧ Below W.heap.size W w') :
    Calls Try.prog 27 #[.agg #[.int .i64 1, .string d, .slice a n1 c1, .int .u64 t1, .int .u64 t2, .slice b n2 c2, .string au, .int .i64 ti, .string ms]] w fun e w' => e = .returned (.int .i64 1) ∧ Below w.heap.size w w' := by
  have h0 := Bo.fresh w 1 d (.slice a n1 c1) t1 t2 (.slice b n2 c2) au ti ms
  have HR := Lib.hid R
  clear R
  go_enter Try.func27, Try.ntmps27
  go_wp2_with fail
  ((with_reducible refine (HR.out _).mono ?_); rintro e w1 ⟨rfl, hb1⟩)
  have hb := (h0.on hb1).b
  go_wp2
  go_ret
  exact ⟨rfl, hb⟩

set_option maxRecDepth 100000 in
set_option maxHeartbeats 4000000 in
theorem rf_no2 (d : BA) (a b : Option Addr) (n1 c1 n2 c2 t1 t2 : Nat) (au : BA) (ti : Int) (ms : BA) (w : World) (R : ∀ W, Calls Try.prog 45 #[.agg #[.int .i64 2, .string d, .slice a n1 c1, .int .u64 t1, .int .u64 t2, .slice b n2 c2, .string au, .int .i64 ti, .string ms]] W fun e w' => e = .returned (.bool false) ∧ Below W.heap.size W w') :
    Calls Try.prog 27 #[.agg #[.int .i64 2, .string d, .slice a n1 c1, .int .u64 t1, .int .u64 t2, .slice b n2 c2, .string au, .int .i64 ti, .string ms]] w fun e w' => e = .returned (.int .i64 1) ∧ Below w.heap.size w w' := by
  have h0 := Bo.fresh w 2 d (.slice a n1 c1) t1 t2 (.slice b n2 c2) au ti ms
  have HR := Lib.hid R
  clear R
  go_enter Try.func27, Try.ntmps27
  go_wp2_with fail
  ((with_reducible refine (HR.out _).mono ?_); rintro e w1 ⟨rfl, hb1⟩)
  have hb := (h0.on hb1).b
  go_wp2
  go_ret
  exact ⟨rfl, hb⟩

set_option maxRecDepth 100000 in
set_option maxHeartbeats 4000000 in
theorem rf_no3 (d : BA) (a b : Option Addr) (n1 c1 n2 c2 t1 t2 : Nat) (au : BA) (ti : Int) (ms : BA) (w : World) (R : ∀ W, Calls Try.prog 45 #[.agg #[.int .i64 3, .string d, .slice a n1 c1, .int .u64 t1, .int .u64 t2, .slice b n2 c2, .string au, .int .i64 ti, .string ms]] W fun e w' => e = .returned (.bool false) ∧ Below W.heap.size W w') :
    Calls Try.prog 27 #[.agg #[.int .i64 3, .string d, .slice a n1 c1, .int .u64 t1, .int .u64 t2, .slice b n2 c2, .string au, .int .i64 ti, .string ms]] w fun e w' => e = .returned (.int .i64 1) ∧ Below w.heap.size w w' := by
  have h0 := Bo.fresh w 3 d (.slice a n1 c1) t1 t2 (.slice b n2 c2) au ti ms
  have HR := Lib.hid R
  clear R
  go_enter Try.func27, Try.ntmps27
  go_wp2_with fail
  ((with_reducible refine (HR.out _).mono ?_); rintro e w1 ⟨rfl, hb1⟩)
  have hb := (h0.on hb1).b
  go_wp2
  go_ret
  exact ⟨rfl, hb⟩

set_option maxRecDepth 100000 in
set_option maxHeartbeats 4000000 in
theorem rf_no4 (d : BA) (a b : Option Addr) (n1 c1 n2 c2 t1 t2 : Nat) (au : BA) (ti : Int) (ms : BA) (w : World) (R : ∀ W, Calls Try.prog 45 #[.agg #[.int .i64 4, .string d, .slice a n1 c1, .int .u64 t1, .int .u64 t2, .slice b n2 c2, .string au, .int .i64 ti, .string ms]] W fun e w' => e = .returned (.bool false) ∧ Below W.heap.size W w') :
    Calls Try.prog 27 #[.agg #[.int .i64 4, .string d, .slice a n1 c1, .int .u64 t1, .int .u64 t2, .slice b n2 c2, .string au, .int .i64 ti, .string ms]] w fun e w' => e = .returned (.int .i64 1) ∧ Below w.heap.size w w' := by
  have h0 := Bo.fresh w 4 d (.slice a n1 c1) t1 t2 (.slice b n2 c2) au ti ms
  have HR := Lib.hid R
  clear R
  go_enter Try.func27, Try.ntmps27
  go_wp2_with fail
  ((with_reducible refine (HR.out _).mono ?_); rintro e w1 ⟨rfl, hb1⟩)
  have hb := (h0.on hb1).b
  go_wp2
  go_ret
  exact ⟨rfl, hb⟩

set_option maxRecDepth 100000 in
set_option maxHeartbeats 4000000 in
theorem rf_yes1b (d : BA) (a b : Option Addr) (n1 c1 n2 c2 t1 t2 : Nat) (au : BA) (ti : Int) (ms : BA) (w : World) (hd : d.size ≤ maxLen) (hs : 65536 < d.size) (R : ∀ W, Calls Try.prog 45 #[.agg #[.int .i64 1, .string d, .slice a n1 c1, .int .u64 t1, .int .u64 t2, .slice b n2 c2, .string au, .int .i64 ti, .string ms]] W fun e w' => e = .returned (.bool true) ∧ Below W.heap.size W w') :
    Calls Try.prog 27 #[.agg #[.int .i64 1, .string d, .slice a n1 c1, .int .u64 t1, .int .u64 t2, .slice b n2 c2, .string au, .int .i64 ti, .string ms]] w fun e w' => e = .returned (.int .i64 4) ∧ Below w.heap.size w w' := by
  have h0 := Bo.fresh w 1 d (.slice a n1 c1) t1 t2 (.slice b n2 c2) au ti ms
  have HR := Lib.hid R
  unfold maxLen at hd
  clear R
  go_enter Try.func27, Try.ntmps27
  go_wp2_with fail
  ((with_reducible refine (HR.out _).mono ?_); rintro e w1 ⟨rfl, hb1⟩)
  obtain ⟨z0, z1, z2, z3, z4, z5, z6, z7, z8, zl, zb⟩ := h0.on hb1
  clear h0 hb1
  go_wp2
  go_ret
  exact ⟨rfl, zb⟩

set_option maxRecDepth 100000 in
set_option maxHeartbeats 4000000 in
theorem rf_yes1 (d : BA) (a b : Option Addr) (n1 c1 n2 c2 t1 t2 : Nat) (au : BA) (ti : Int) (ms : BA) (w : World) (hs : d.size ≤ 65536) (R : ∀ W, Calls Try.prog 45 #[.agg #[.int .i64 1, .string d, .slice a n1 c1, .int .u64 t1, .int .u64 t2, .slice b n2 c2, .string au, .int .i64 ti, .string ms]] W fun e w' => e = .returned (.bool true) ∧ Below W.heap.size W w') :
    Calls Try.prog 27 #[.agg #[.int .i64 1, .string d, .slice a n1 c1, .int .u64 t1, .int .u64 t2, .slice b n2 c2, .string au, .int .i64 ti, .string ms]] w fun e w' => e = .returned (.int .i64 0) ∧ Below w.heap.size w w' := by
  have h0 := Bo.fresh w 1 d (.slice a n1 c1) t1 t2 (.slice b n2 c2) au ti ms
  have HR := Lib.hid R
  clear R
  go_enter Try.func27, Try.ntmps27
  go_wp2_with fail
  ((with_reducible refine (HR.out _).mono ?_); rintro e w1 ⟨rfl, hb1⟩)
  obtain ⟨z0, z1, z2, z3, z4, z5, z6, z7, z8, zl, zb⟩ := h0.on hb1
  clear h0 hb1
  go_wp2
  go_ret
  exact ⟨rfl, zb⟩

set_option maxRecDepth 100000 in
set_option maxHeartbeats 4000000 in
theorem rf_yes4b (d : BA) (a b : Option Addr) (n1 c1 n2 c2 t1 t2 : Nat) (au : BA) (ti : Int) (ms : BA) (w : World) (hd : d.size ≤ maxLen) (hs : 65536 < d.size) (R : ∀ W, Calls Try.prog 45 #[.agg #[.int .i64 4, .string d, .slice a n1 c1, .int .u64 t1, .int .u64 t2, .slice b n2 c2, .string au, .int .i64 ti, .string ms]] W fun e w' => e = .returned (.bool true) ∧ Below W.heap.size W w') :
    Calls Try.prog 27 #[.agg #[.int .i64 4, .string d, .slice a n1 c1, .int .u64 t1, .int .u64 t2, .slice b n2 c2, .string au, .int .i64 ti, .string ms]] w fun e w' => e = .returned (.int .i64 4) ∧ Below w.heap.size w w' := by
  have h0 := Bo.fresh w 4 d (.slice a n1 c1) t1 t2 (.slice b n2 c2) au ti ms
  have HR := Lib.hid R
  unfold maxLen at hd
  clear R
  go_enter Try.func27, Try.ntmps27
  go_wp2_with fail
  ((with_reducible refine (HR.out _).mono ?_); rintro e w1 ⟨rfl, hb1⟩)
  obtain ⟨z0, z1, z2, z3, z4, z5, z6, z7, z8, zl, zb⟩ := h0.on hb1
  clear h0 hb1
  go_wp2
  go_ret
  exact ⟨rfl, zb⟩

set_option maxRecDepth 100000 in
set_option maxHeartbeats 4000000 in
theorem rf_yes4 (d : BA) (a b : Option Addr) (n1 c1 n2 c2 t1 t2 : Nat) (au : BA) (ti : Int) (ms : BA) (w : World) (hs : d.size ≤ 65536) (R : ∀ W, Calls Try.prog 45 #[.agg #[.int .i64 4, .string d, .slice a n1 c1, .int .u64 t1, .int .u64 t2, .slice b n2 c2, .string au, .int .i64 ti, .string ms]] W fun e w' => e = .returned (.bool true) ∧ Below W.heap.size W w') :
    Calls Try.prog 27 #[.agg #[.int .i64 4, .string d, .slice a n1 c1, .int .u64 t1, .int .u64 t2, .slice b n2 c2, .string au, .int .i64 ti, .string ms]] w fun e w' => e = .returned (.int .i64 0) ∧ Below w.heap.size w w' := by
  have h0 := Bo.fresh w 4 d (.slice a n1 c1) t1 t2 (.slice b n2 c2) au ti ms
  have HR := Lib.hid R
  clear R
  go_enter Try.func27, Try.ntmps27
  go_wp2_with fail
  ((with_reducible refine (HR.out _).mono ?_); rintro e w1 ⟨rfl, hb1⟩)
  obtain ⟨z0, z1, z2, z3, z4, z5, z6, z7, z8, zl, zb⟩ := h0.on hb1
  clear h0 hb1
  go_wp2
  go_ret
  exact ⟨rfl, zb⟩

set_option maxRecDepth 100000 in
set_option maxHeartbeats 4000000 in
theorem rf_tree (L : List Ent) (d : BA) (a b : Option Addr) (c1 n2 c2 t1 t2 : Nat) (au : BA) (ti : Int) (ms : BA) (w : World) (hl : IsEnts w (.slice a L.length c1) L) (hf : ∀ x ∈ L, x.name.size ≤ maxLen) (r : Int) (hr : chkEnts L = r) (R : ∀ W, Calls Try.prog 45 #[.agg #[.int .i64 2, .string d, .slice a L.length c1, .int .u64 t1, .int .u64 t2, .slice b n2 c2, .string au, .int .i64 ti, .string ms]] W fun e w' => e = .returned (.bool true) ∧ Below W.heap.size W w') :
    Calls Try.prog 27 #[.agg #[.int .i64 2, .string d, .slice a L.length c1, .int .u64 t1, .int .u64 t2, .slice b n2 c2, .string au, .int .i64 ti, .string ms]] w fun e w' => e = .returned (.int .i64 r) ∧ Below w.heap.size w w' := by
  have h0 := Bo.fresh w 2 d (.slice a L.length c1) t1 t2 (.slice b n2 c2) au ti ms
  have HR := Lib.hid R
  have HF := Lib.hid hf
  have HE := Lib.hid hr
  clear R hf hr
  go_enter Try.func27, Try.ntmps27
  go_wp2_with fail
  ((with_reducible refine (HR.out _).mono ?_); rintro e w1 ⟨rfl, hb1⟩)
  obtain ⟨z0, z1, z2, z3, z4, z5, z6, z7, z8, zl, zb⟩ := h0.on hb1
  have hl1 := hl.below zb (Nat.le_refl _)
  clear h0 hb1
  go_wp2_with fail
  ((with_reducible refine (refEnts_any L _ _ hl1 HF.out r HE.out).mono ?_); rintro e w2 ⟨rfl, hb2⟩)
  go_wp2
  go_ret
  exact ⟨rfl, zb.trans (hb2.mono zb.size)⟩

set_option maxRecDepth 100000 in
set_option maxHeartbeats 4000000 in
theorem rf_com (L : List Dig) (d : BA) (a b : Option Addr) (n1 c1 c2 t1 t2 : Nat) (au : BA) (ti : Int) (ms : BA) (w : World) (hl : IsDigs w (.slice b L.length c2) L) (hau : au.size ≤ maxLen) (hms : ms.size ≤ maxLen) (r : Int)
    (hr : (if t1 = 0 ∧ t2 = 0 then 1 else if 8 < L.length then 4 else if parsFrom L 0 ≠ 0 then parsFrom L 0 else chkLate au ti ms) = r) (R : ∀ W, Calls Try.prog 45 #[.agg #[.int .i64 3, .string d, .slice a n1 c1, .int .u64 t1, .int .u64 t2, .slice b L.length c2, .string au, .int .i64 ti, .string ms]] W fun e w' => e = .returned (.bool true) ∧ Below W.heap.size W w') :
    Calls Try.prog 27 #[.agg #[.int .i64 3, .string d, .slice a n1 c1, .int .u64 t1, .int .u64 t2, .slice b L.length c2, .string au, .int .i64 ti, .string ms]] w fun e w' => e = .returned (.int .i64 r) ∧ Below w.heap.size w w' := by
  have h0 := Bo.fresh w 3 d (.slice a n1 c1) t1 t2 (.slice b L.length c2) au ti ms
  have HR := Lib.hid R
  have HE := Lib.hid hr
  clear R hr
  go_enter Try.func27, Try.ntmps27
  go_wp2_with fail
  ((with_reducible refine (HR.out _).mono ?_); rintro e w1 ⟨rfl, hb1⟩)
  obtain ⟨z0, z1, z2, z3, z4, z5, z6, z7, z8, zl, zb⟩ := h0.on hb1
  have hl1 := hl.below zb (Nat.le_refl _)
  clear h0 hb1
  go_wp2_with fail
  ((with_reducible refine (refCommit_any 3 d _ t1 t2 L _ au ti ms _ hl1 hau hms r HE.out).mono ?_); rintro e w2 ⟨rfl, hb2⟩)
  go_wp2
  go_ret
  exact ⟨rfl, zb.trans (hb2.mono zb.size)⟩

/-- Why fields are not valid, and data too long by itself. -/
def chkRef (o : Ob) : Int := if chkFields o ≠ 0 then chkFields o else if (o.kind = 1 ∨ o.kind = 4) ∧ 65536 < o.data.size then 4 else 0

theorem refFields_any (o : Ob) (v : Value) (w : World) (hv : IsOb w v o) (hf : o.Fit) (r : Int) (hr : chkRef o = r) :
    Calls Try.prog 27 #[v] w fun e w' => e = .returned (.int .i64 r) ∧ Below w.heap.size w w' := by
  obtain ⟨k, d, E, ⟨t1, t2⟩, P, au, ti, ms⟩ := o
  obtain ⟨ve, vp, rfl, h1, h2⟩ := hv
  obtain ⟨f1, f2, f3, f4⟩ := hf
  have g1 := h1; have g2 := h2
  obtain ⟨a, c1, rfl, m1, _, _⟩ := h1
  obtain ⟨b, c2, rfl, m2, _, _⟩ := h2
  have hbi := bare_iff ⟨k, d, E, (t1, t2), P, au, ti, ms⟩
  have hcc := chkCommit_of ⟨k, d, E, (t1, t2), P, au, ti, ms⟩ t1 t2 rfl
  unfold chkRef chkFields at hr
  simp only at g1 g2 f1 f2 f3 f4 m1 m2 hbi hcc hr ⊢
  have hdec : decide ((t1, t2) = ((0, 0) : Dig) ∧ P.length = 0 ∧ au = ⟨#[]⟩ ∧ ti = 0 ∧ ms = ⟨#[]⟩) = bare ⟨k, d, E, (t1, t2), P, au, ti, ms⟩ := by
    cases hb : bare ⟨k, d, E, (t1, t2), P, au, ti, ms⟩ with
    | true => exact decide_eq_true (hbi.1 hb)
    | false => exact decide_eq_false fun h => by rw [hbi.2 h] at hb; cases hb
  by_cases k1 : k = 1
  · subst k1
    simp only [Int.reduceEq, or_false, if_true] at hr
    by_cases hn : E.length = 0
    · cases hb : bare ⟨1, d, E, (t1, t2), P, au, ti, ms⟩ with
      | false =>
        rw [hb] at hr
        simp at hr
        subst hr
        refine rf_no1 d a b _ c1 _ c2 t1 t2 au ti ms w fun W => ?_
        rw [hn]
        exact only_1 a b c1 _ c2 t1 t2 au ti ms m2 W d false (by rw [hdec, hb])
      | true =>
        rw [hb] at hr
        simp [hn] at hr
        have R := fun W => only_1 a b c1 _ c2 t1 t2 au ti ms m2 W d true (by rw [hdec, hb])
        rw [← hn] at R
        by_cases hs : 65536 < d.size
        · rw [if_pos hs] at hr
          subst hr
          exact rf_yes1b d a b _ c1 _ c2 t1 t2 au ti ms w f1 hs R
        · rw [if_neg hs] at hr
          subst hr
          exact rf_yes1 d a b _ c1 _ c2 t1 t2 au ti ms w (by omega) R
    · simp [hn] at hr
      subst hr
      exact rf_no1 d a b _ c1 _ c2 t1 t2 au ti ms w fun W => only_1n a b c1 _ c2 t1 t2 au ti ms W _ d m1 hn
  by_cases k4 : k = 4
  · subst k4
    simp only [Int.reduceEq, false_or, if_true] at hr
    by_cases hn : E.length = 0
    · cases hb : bare ⟨4, d, E, (t1, t2), P, au, ti, ms⟩ with
      | false =>
        rw [hb] at hr
        simp at hr
        subst hr
        refine rf_no4 d a b _ c1 _ c2 t1 t2 au ti ms w fun W => ?_
        rw [hn]
        exact only_4 a b c1 _ c2 t1 t2 au ti ms m2 W d false (by rw [hdec, hb])
      | true =>
        rw [hb] at hr
        simp [hn] at hr
        have R := fun W => only_4 a b c1 _ c2 t1 t2 au ti ms m2 W d true (by rw [hdec, hb])
        rw [← hn] at R
        by_cases hs : 65536 < d.size
        · rw [if_pos hs] at hr
          subst hr
          exact rf_yes4b d a b _ c1 _ c2 t1 t2 au ti ms w f1 hs R
        · rw [if_neg hs] at hr
          subst hr
          exact rf_yes4 d a b _ c1 _ c2 t1 t2 au ti ms w (by omega) R
    · simp [hn] at hr
      subst hr
      exact rf_no4 d a b _ c1 _ c2 t1 t2 au ti ms w fun W => only_4n a b c1 _ c2 t1 t2 au ti ms W _ d m1 hn
  have hrest : (if (k = 1 ∨ k = 4) ∧ 65536 < d.size then (4 : Int) else 0) = 0 := by simp [k1, k4]
  rw [hrest] at hr
  have hite : ∀ x : Int, (if x ≠ 0 then x else 0) = x := fun x => by by_cases hx : x = 0 <;> simp [hx]
  rw [hite] at hr
  rw [if_neg (by simp [k1, k4])] at hr
  by_cases k2 : k = 2
  · subst k2
    rw [if_pos rfl] at hr
    by_cases hd : d = ⟨#[]⟩
    · subst hd
      cases hb : bare ⟨2, ⟨#[]⟩, E, (t1, t2), P, au, ti, ms⟩ with
      | false =>
        rw [hb] at hr
        simp at hr
        subst hr
        exact rf_no2 _ a b _ c1 _ c2 t1 t2 au ti ms w fun W => only_2 a b c1 _ c2 t1 t2 au ti ms m2 W _ m1 false (by rw [hdec, hb])
      | true =>
        rw [hb] at hr
        simp at hr
        exact rf_tree E _ a b c1 _ c2 t1 t2 au ti ms w g1 f4 r hr fun W => only_2 a b c1 _ c2 t1 t2 au ti ms m2 W _ m1 true (by rw [hdec, hb])
    · rw [if_neg (fun h => hd h.2)] at hr
      subst hr
      exact rf_no2 d a b _ c1 _ c2 t1 t2 au ti ms w fun W => only_2d a b c1 _ c2 t1 t2 au ti ms W _ d hd
  rw [if_neg k2] at hr
  by_cases k3 : k = 3
  · subst k3
    rw [if_pos rfl] at hr
    by_cases hd : d = ⟨#[]⟩
    · subst hd
      by_cases hn : E.length = 0
      · simp only [hn, and_self, if_true] at hr
        refine rf_com P _ a b _ c1 c2 t1 t2 au ti ms w g2 f2 f3 r (by rw [hcc]; exact hr) fun W => ?_
        rw [hn]
        exact only_3 a b c1 _ c2 t1 t2 au ti ms W
      · rw [if_neg (fun h => hn h.2)] at hr
        subst hr
        exact rf_no3 _ a b _ c1 _ c2 t1 t2 au ti ms w fun W => only_3n a b c1 _ c2 t1 t2 au ti ms W _ m1 hn
    · rw [if_neg (fun h => hd h.1)] at hr
      subst hr
      exact rf_no3 d a b _ c1 _ c2 t1 t2 au ti ms w fun W => only_3d a b c1 _ c2 t1 t2 au ti ms W _ d hd
  rw [if_neg k3] at hr
  subst hr
  exact rf_else k (by omega) d a b _ c1 _ c2 t1 t2 au ti ms w
end Go.Proofs.Ytiaahjoldahlnaa
