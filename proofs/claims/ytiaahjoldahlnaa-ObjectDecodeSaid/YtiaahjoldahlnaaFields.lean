/- object.checkFields, at this translation. -/
import Derived.Test.YtiaahjoldahlnaaCommit
namespace Go.Proofs.Ytiaahjoldahlnaa
open Go.RowKit Go.Great
attribute [local go_sem] eq_arr

theorem bare_iff (o : Ob) : bare o = true ↔ o.tree = (0, 0) ∧ o.pars.length = 0 ∧ o.author = ⟨#[]⟩ ∧ o.time = 0 ∧ o.msg = ⟨#[]⟩ := by
  unfold bare
  simp only [Bool.and_eq_true, decide_eq_true_eq, and_assoc]

theorem rest_ok' (k : Int) (d : BA) (a b : Option Addr) (n1 c1 n2 c2 t1 t2 : Nat) (au : BA) (ti : Int) (ms : BA) (h : restOk d n1 (t1, t2) n2 au ti ms) (w : World) :
    Calls Try.prog 41 #[.agg #[.int .i64 k, .string d, .slice a n1 c1, .int .u64 t1, .int .u64 t2, .slice b n2 c2, .string au, .int .i64 ti, .string ms]] w fun e w' => e = .returned (.int .i64 0) ∧ Below w.heap.size w w' := by
  obtain ⟨e1, rfl, rfl, rfl, rfl, rfl, rfl⟩ := h
  obtain ⟨rfl, rfl⟩ : t1 = 0 ∧ t2 = 0 := by simpa using e1
  exact rest_ok k a b c1 c2 w
theorem rest_bad' (k : Int) (d : BA) (a b : Option Addr) (n1 c1 n2 c2 t1 t2 : Nat) (au : BA) (ti : Int) (ms : BA) (hn1 : n1 ≤ maxLen) (hn2 : n2 ≤ maxLen) (h : ¬ restOk d n1 (t1, t2) n2 au ti ms) (w : World) :
    Calls Try.prog 41 #[.agg #[.int .i64 k, .string d, .slice a n1 c1, .int .u64 t1, .int .u64 t2, .slice b n2 c2, .string au, .int .i64 ti, .string ms]] w fun e w' => e = .returned (.int .i64 1) ∧ Below w.heap.size w w' :=
  rest_bad k d a b n1 c1 n2 c2 (t1, t2) au ti ms hn1 hn2 h w

set_option maxRecDepth 100000 in
set_option maxHeartbeats 4000000 in
theorem fields_blob (k : Int) (hk : k = 1 ∨ k = 4) (d : BA) (a b : Option Addr) (n1 c1 n2 c2 : Nat) (t1 t2 : Nat) (au : BA) (ti : Int) (ms : BA) (w : World) (r : Int)
    (R : ∀ W, Calls Try.prog 41 #[.agg #[.int .i64 0, .string ⟨#[]⟩, .slice a n1 c1, .int .u64 t1, .int .u64 t2, .slice b n2 c2, .string au, .int .i64 ti, .string ms]] W fun e w' => e = .returned (.int .i64 r) ∧ Below W.heap.size W w') :
    Calls Try.prog 25 #[.agg #[.int .i64 k, .string d, .slice a n1 c1, .int .u64 t1, .int .u64 t2, .slice b n2 c2, .string au, .int .i64 ti, .string ms]] w fun e w' => e = .returned (.int .i64 r) ∧ Below w.heap.size w w' := by
  have HR := Lib.hid R
  clear R
  have hb := ((Below.refl w.heap.size w).alloc (Nat.le_refl _) (oc' k d (.slice a n1 c1) t1 t2 (.slice b n2 c2) au ti ms)).alloc (by simp) (oc' 0 ⟨#[]⟩ (.slice a n1 c1) t1 t2 (.slice b n2 c2) au ti ms)
  rcases hk with rfl | rfl
  · go_enter Try.func25, Try.ntmps25
    go_wp2_with fail
    ((with_reducible refine (HR.out _).mono ?_); rintro e w1 ⟨rfl, hb1⟩)
    go_wp2
    go_ret
    exact ⟨rfl, hb.trans (hb1.mono hb.size)⟩
  · go_enter Try.func25, Try.ntmps25
    go_wp2_with fail
    ((with_reducible refine (HR.out _).mono ?_); rintro e w1 ⟨rfl, hb1⟩)
    go_wp2
    go_ret
    exact ⟨rfl, hb.trans (hb1.mono hb.size)⟩

set_option maxRecDepth 100000 in
set_option maxHeartbeats 4000000 in
theorem fields_else (k : Int) (h1 : k ≠ 1) (h2 : k ≠ 2) (h3 : k ≠ 3) (h4 : k ≠ 4) (d : BA) (a b : Option Addr) (n1 c1 n2 c2 : Nat) (t1 t2 : Nat) (au : BA) (ti : Int) (ms : BA) (w : World) :
    Calls Try.prog 25 #[.agg #[.int .i64 k, .string d, .slice a n1 c1, .int .u64 t1, .int .u64 t2, .slice b n2 c2, .string au, .int .i64 ti, .string ms]] w fun e w' => e = .returned (.int .i64 9) ∧ Below w.heap.size w w' := by
  have hb := ((Below.refl w.heap.size w).alloc (Nat.le_refl _) (oc' k d (.slice a n1 c1) t1 t2 (.slice b n2 c2) au ti ms)).alloc (by simp) (oc' 0 d (.slice a n1 c1) t1 t2 (.slice b n2 c2) au ti ms)
  have e1 : (k == 1) = false := by simpa using h1
  have e2 : (k == 2) = false := by simpa using h2
  have e3 : (k == 3) = false := by simpa using h3
  have e4 : (k == 4) = false := by simpa using h4
  clear h1 h2 h3 h4
  go_enter Try.func25, Try.ntmps25
  go_wp2
  go_ret
  exact ⟨rfl, hb⟩

set_option maxRecDepth 100000 in
set_option maxHeartbeats 4000000 in
theorem fields_tree_bad (d : BA) (a b : Option Addr) (n1 c1 n2 c2 : Nat) (t1 t2 : Nat) (au : BA) (ti : Int) (ms : BA) (hn2 : n2 ≤ maxLen) (h : ¬ restOk d 0 (t1, t2) n2 au ti ms) (w : World) :
    Calls Try.prog 25 #[.agg #[.int .i64 2, .string d, .slice a n1 c1, .int .u64 t1, .int .u64 t2, .slice b n2 c2, .string au, .int .i64 ti, .string ms]] w fun e w' => e = .returned (.int .i64 1) ∧ Below w.heap.size w w' := by
  have HR := Lib.hid h
  clear h
  have hb := ((Below.refl w.heap.size w).alloc (Nat.le_refl _) (oc' 2 d (.slice a n1 c1) t1 t2 (.slice b n2 c2) au ti ms)).alloc (by simp) (oc' 0 d (.slice none 0 0) t1 t2 (.slice b n2 c2) au ti ms)
  go_enter Try.func25, Try.ntmps25
  go_wp2_with fail
  ((with_reducible refine (rest_bad' 0 d none b 0 0 n2 c2 t1 t2 au ti ms (Nat.zero_le _) hn2 HR.out _).mono ?_); rintro e w1 ⟨rfl, hb1⟩)
  go_wp2
  go_ret
  exact ⟨rfl, hb.trans (hb1.mono hb.size)⟩

set_option maxRecDepth 100000 in
set_option maxHeartbeats 4000000 in
theorem fields_tree (d : BA) (a b : Option Addr) (c1 n2 c2 : Nat) (t1 t2 : Nat) (au : BA) (ti : Int) (ms : BA) (L : List Ent) (w : World) (hl : IsEnts w (.slice a L.length c1) L) (hf : ∀ x ∈ L, x.name.size ≤ maxLen) (r : Int) (hr : chkEnts L = r) (h : restOk d 0 (t1, t2) n2 au ti ms) :
    Calls Try.prog 25 #[.agg #[.int .i64 2, .string d, .slice a L.length c1, .int .u64 t1, .int .u64 t2, .slice b n2 c2, .string au, .int .i64 ti, .string ms]] w fun e w' => e = .returned (.int .i64 r) ∧ Below w.heap.size w w' := by
  have HR := Lib.hid h
  have HE := Lib.hid hr
  have HF := Lib.hid hf
  clear h hr hf
  have h0 := (Bo.fresh w 2 d (.slice a L.length c1) t1 t2 (.slice b n2 c2) au ti ms).alloc (oc' 0 d (.slice none 0 0) t1 t2 (.slice b n2 c2) au ti ms)
  go_enter Try.func25, Try.ntmps25
  go_wp2_with fail
  ((with_reducible refine (rest_ok' 0 d none b 0 0 n2 c2 t1 t2 au ti ms HR.out _).mono ?_); rintro e w1 ⟨rfl, hb1⟩)
  have h1 := h0.on hb1
  clear h0 hb1
  have cc2 := h1.c2
  have hl1 := hl.below h1.b (Nat.le_refl _)
  have H1 := Lib.hid h1
  clear h1
  go_wp2_with fail
  ((with_reducible refine (ents_any L _ _ hl1 HF.out r HE.out).mono ?_); rintro e w2 ⟨rfl, hb2⟩)
  have hb := (H1.out.on hb2).b
  go_wp2
  go_ret
  exact ⟨rfl, hb⟩

set_option maxRecDepth 100000 in
set_option maxHeartbeats 4000000 in
theorem fields_com_bad (d : BA) (a b : Option Addr) (n1 c1 n2 c2 : Nat) (t1 t2 : Nat) (au : BA) (ti : Int) (ms : BA) (hn1 : n1 ≤ maxLen) (h : ¬ restOk d n1 (0, 0) 0 ⟨#[]⟩ 0 ⟨#[]⟩) (w : World) :
    Calls Try.prog 25 #[.agg #[.int .i64 3, .string d, .slice a n1 c1, .int .u64 t1, .int .u64 t2, .slice b n2 c2, .string au, .int .i64 ti, .string ms]] w fun e w' => e = .returned (.int .i64 1) ∧ Below w.heap.size w w' := by
  have HR := Lib.hid h
  clear h
  have hb := ((Below.refl w.heap.size w).alloc (Nat.le_refl _) (oc' 3 d (.slice a n1 c1) t1 t2 (.slice b n2 c2) au ti ms)).alloc (by simp) (oc' 0 d (.slice a n1 c1) 0 0 (.slice none 0 0) ⟨#[]⟩ 0 ⟨#[]⟩)
  have hrb := rest_bad' 0 d a none n1 c1 0 0 0 0 ⟨#[]⟩ 0 ⟨#[]⟩ hn1 (Nat.zero_le _) HR.out
  simp only [Int.natCast_zero] at hrb
  have HB := Lib.hid hrb
  clear hrb
  go_enter Try.func25, Try.ntmps25
  go_wp2_with fail
  ((with_reducible refine (HB.out _).mono ?_); rintro e w1 ⟨rfl, hb1⟩)
  go_wp2
  go_ret
  exact ⟨rfl, hb.trans (hb1.mono hb.size)⟩

set_option maxRecDepth 100000 in
set_option maxHeartbeats 4000000 in
theorem fields_com (d : BA) (a : Option Addr) (n1 c1 : Nat) (t1 t2 : Nat) (vp : Value) (au : BA) (ti : Int) (ms : BA) (L : List Dig) (w : World) (hl : IsDigs w vp L) (hau : au.size ≤ maxLen) (hms : ms.size ≤ maxLen) (r : Int)
    (hr : (if t1 = 0 ∧ t2 = 0 then 1 else if 8 < L.length then 4 else if parsFrom L 0 ≠ 0 then parsFrom L 0 else chkLate au ti ms) = r) (h : restOk d n1 (0, 0) 0 ⟨#[]⟩ 0 ⟨#[]⟩) :
    Calls Try.prog 25 #[.agg #[.int .i64 3, .string d, .slice a n1 c1, .int .u64 t1, .int .u64 t2, vp, .string au, .int .i64 ti, .string ms]] w fun e w' => e = .returned (.int .i64 r) ∧ Below w.heap.size w w' := by
  have HR := Lib.hid h
  have HE := Lib.hid hr
  have HL := Lib.hid hl
  obtain ⟨b, c2, rfl, _, _, _⟩ := hl
  clear h hr
  have h0 := (Bo.fresh w 3 d (.slice a n1 c1) t1 t2 (.slice b L.length c2) au ti ms).alloc (oc' 0 d (.slice a n1 c1) 0 0 (.slice none 0 0) ⟨#[]⟩ 0 ⟨#[]⟩)
  have hrb := rest_ok' 0 d a none n1 c1 0 0 0 0 ⟨#[]⟩ 0 ⟨#[]⟩ HR.out
  simp only [Int.natCast_zero] at hrb
  have HB := Lib.hid hrb
  clear hrb
  go_enter Try.func25, Try.ntmps25
  go_wp2_with fail
  ((with_reducible refine (HB.out _).mono ?_); rintro e w1 ⟨rfl, hb1⟩)
  have h1 := h0.on hb1
  clear h0 hb1
  obtain ⟨z0, z1, z2, z3, z4, z5, z6, z7, z8, zl, zb⟩ := h1
  have hl1 := HL.out.below zb (Nat.le_refl _)
  go_wp2_with fail
  ((with_reducible refine (commit_any 3 d _ t1 t2 L _ au ti ms _ hl1 hau hms r HE.out).mono ?_); rintro e w2 ⟨rfl, hb2⟩)
  go_wp2
  go_ret
  exact ⟨rfl, zb.trans (hb2.mono zb.size)⟩

theorem chkCommit_of (o : Ob) (t1 t2 : Nat) (h : o.tree = (t1, t2)) : (if t1 = 0 ∧ t2 = 0 then 1 else if 8 < o.pars.length then 4 else if parsFrom o.pars 0 ≠ 0 then parsFrom o.pars 0 else chkLate o.author o.time o.msg) = chkCommit o := by
  unfold chkCommit chkLate
  rw [h]
  simp only [Prod.mk.injEq]

theorem fields_any (o : Ob) (v : Value) (w : World) (hv : IsOb w v o) (hf : o.Fit) (r : Int) (hr : chkFields o = r) :
    Calls Try.prog 25 #[v] w fun e w' => e = .returned (.int .i64 r) ∧ Below w.heap.size w w' := by
  obtain ⟨ve, vp, rfl, h1, h2⟩ := hv
  obtain ⟨f1, f2, f3, f4⟩ := hf
  have g1 := h1; have g2 := h2
  obtain ⟨a, c1, rfl, m1, _, _⟩ := h1
  obtain ⟨b, c2, rfl, m2, _, _⟩ := h2
  have hbi := bare_iff o
  have hcc := chkCommit_of o o.tree.1 o.tree.2 rfl
  unfold chkFields at hr
  by_cases k1 : o.kind = 1 ∨ o.kind = 4
  · rw [if_pos k1] at hr
    refine fields_blob o.kind k1 o.data a b _ c1 _ c2 o.tree.1 o.tree.2 o.author o.time o.msg w r ?_
    intro W
    by_cases hb : bare o = true ∧ o.ents.length = 0
    · rw [if_pos hb] at hr
      subst hr
      obtain ⟨q1, q2, q3, q4, q5⟩ := hbi.1 hb.1
      exact rest_ok' 0 _ a b _ c1 _ c2 _ _ _ _ _ ⟨q1, q2, q3, q4, q5, rfl, hb.2⟩ W
    · rw [if_neg hb] at hr
      subst hr
      refine rest_bad' 0 _ a b _ c1 _ c2 _ _ _ _ _ m1 m2 ?_ W
      rintro ⟨q1, q2, q3, q4, q5, _, q7⟩
      exact hb ⟨hbi.2 ⟨q1, q2, q3, q4, q5⟩, q7⟩
  rw [if_neg k1] at hr
  by_cases k2 : o.kind = 2
  · rw [if_pos k2] at hr
    rw [k2]
    by_cases hb : bare o = true ∧ o.data = ⟨#[]⟩
    · rw [if_pos hb] at hr
      obtain ⟨q1, q2, q3, q4, q5⟩ := hbi.1 hb.1
      exact fields_tree _ a b c1 _ c2 _ _ _ _ _ o.ents w g1 (fun x hx => f4 x hx) r hr ⟨q1, q2, q3, q4, q5, hb.2, rfl⟩
    · rw [if_neg hb] at hr
      subst hr
      refine fields_tree_bad _ a b _ c1 _ c2 _ _ _ _ _ m2 ?_ w
      rintro ⟨q1, q2, q3, q4, q5, q6, _⟩
      exact hb ⟨hbi.2 ⟨q1, q2, q3, q4, q5⟩, q6⟩
  rw [if_neg k2] at hr
  by_cases k3 : o.kind = 3
  · rw [if_pos k3] at hr
    rw [k3]
    by_cases hb : o.data = ⟨#[]⟩ ∧ o.ents.length = 0
    · rw [if_pos hb] at hr
      exact fields_com _ a _ c1 _ _ _ _ _ _ o.pars w g2 f2 f3 r (by rw [hcc]; exact hr) ⟨rfl, rfl, rfl, rfl, rfl, hb.1, hb.2⟩
    · rw [if_neg hb] at hr
      subst hr
      refine fields_com_bad _ a b _ c1 _ c2 _ _ _ _ _ m1 ?_ w
      rintro ⟨_, _, _, _, _, q6, q7⟩
      exact hb ⟨q6, q7⟩
  rw [if_neg k3] at hr
  subst hr
  exact fields_else o.kind (fun e => k1 (.inl e)) k2 k3 (fun e => k1 (.inr e)) _ a b _ c1 _ c2 _ _ _ _ _ w
end Go.Proofs.Ytiaahjoldahlnaa
