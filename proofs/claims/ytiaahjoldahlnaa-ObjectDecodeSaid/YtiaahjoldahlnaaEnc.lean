/- object.Encode, at this translation. -/
import Derived.Test.YtiaahjoldahlnaaWriteC
namespace Go.Proofs.Ytiaahjoldahlnaa
open Go.RowKit Go.Great
attribute [local go_sem] eq_arr

theorem write_any (o : Ob) (v : Value) (w : World) (hv : IsOb w v o) (hc : chkFields o = 0) (hd : o.data.size ≤ 65536) (s : BA) (hs : encS o = s) :
    Calls Try.prog 29 #[v] w fun e w' => e = .returned (.string s) ∧ Below w.heap.size w w' := by
  obtain ⟨ve, vp, rfl, hE, hP⟩ := hv
  subst hs
  rcases chkFields_ok hc with ⟨h1, _, _⟩ | ⟨h1, _, _, h4⟩ | ⟨h1, _, _, h4⟩
  · have e : encS o = numS o.kind.toNat ++ txtS o.data := by
      unfold encS
      rw [if_neg (by omega), if_neg (by omega)]
    rw [e]
    rcases h1 with h1 | h1
    · rw [h1]
      exact write_blob1 o.data ve o.tree.1 o.tree.2 vp o.author o.time o.msg hd w
    · rw [h1]
      exact write_blob4 o.data ve o.tree.1 o.tree.2 vp o.author o.time o.msg hd w
  · have e : encS o = numS 2 ++ numS o.ents.length ++ catS (o.ents.map entS) := by
      unfold encS
      rw [if_pos h1]
    obtain ⟨l1, l2⟩ := chkEnts_ok h4
    rw [e, h1]
    exact write_tree o.data o.ents ve o.tree.1 o.tree.2 vp o.author o.time o.msg l1 l2 w hE
  · obtain ⟨_, c2, _, c4, c5, c6, c7⟩ := chkCommit_ok h4
    obtain ⟨m, hm⟩ : ∃ m : Nat, o.time = m := ⟨o.time.toNat, by omega⟩
    have e : encS o = numS 3 ++ (dgS o.tree.1 o.tree.2 ++ numS o.pars.length) ++ catS (o.pars.map digS) ++ (txtS o.author ++ numS m ++ txtS o.msg) := by
      unfold encS
      rw [if_neg (by omega), if_pos h1, hm]
      rfl
    rw [e, h1, hm]
    exact write_com o.data ve o.tree.1 o.tree.2 o.pars vp o.author m o.msg c2 (isName_le c4) (by omega) c7 w hP

/-- What is encoded. -/
def encD (o : Ob) : BA := if chk o = 0 then encS o else ⟨#[]⟩
theorem chk_fields {o : Ob} (h : chk o = 0) : chkFields o = 0 ∧ o.data.size ≤ 65536 := by
  unfold chk at h
  by_cases h0 : chkFields o = 0
  · refine ⟨h0, ?_⟩
    rw [if_neg (by omega)] at h
    split at h
    · cases h
    · omega
  · rw [if_pos h0] at h
    exact absurd h h0

set_option maxRecDepth 100000 in
set_option maxHeartbeats 4000000 in
theorem encode_bad (k : Int) (d : BA) (ve : Value) (t1 t2 : Nat) (vp : Value) (au : BA) (ti : Int) (ms : BA) (w : World) (r : Int) (hr : r ≠ 0)
    (C : ∀ W, Below w.heap.size w W → Calls Try.prog 12 #[.agg #[.int .i64 k, .string d, ve, .int .u64 t1, .int .u64 t2, vp, .string au, .int .i64 ti, .string ms]] W fun e w' => e = .returned (.int .i64 r) ∧ Below W.heap.size W w') :
    Calls Try.prog 17 #[.agg #[.int .i64 k, .string d, ve, .int .u64 t1, .int .u64 t2, vp, .string au, .int .i64 ti, .string ms]] w fun e w' => e = .returned (.tuple #[.string ⟨#[]⟩, .int .i64 r]) ∧ Below w.heap.size w w' := by
  have HC := Lib.hid C
  have h0 := Bo.fresh w k d ve t1 t2 vp au ti ms
  have hne : (r != 0) = true := by simpa using hr
  clear C hr
  go_enter Try.func17, Try.ntmps17
  go_wp2_with fail
  ((with_reducible refine (HC.out _ h0.b).mono ?_); rintro e w1 ⟨rfl, hb1⟩)
  have hb := (h0.on hb1).b
  clear h0 hb1
  go_wp2
  go_ret2
  exact ⟨rfl, hb⟩

set_option maxRecDepth 100000 in
set_option maxHeartbeats 4000000 in
theorem encode_ok (k : Int) (d : BA) (ve : Value) (t1 t2 : Nat) (vp : Value) (au : BA) (ti : Int) (ms : BA) (w : World) (s : BA)
    (C : ∀ W, Below w.heap.size w W → Calls Try.prog 12 #[.agg #[.int .i64 k, .string d, ve, .int .u64 t1, .int .u64 t2, vp, .string au, .int .i64 ti, .string ms]] W fun e w' => e = .returned (.int .i64 0) ∧ Below W.heap.size W w')
    (D : ∀ W, Below w.heap.size w W → Calls Try.prog 29 #[.agg #[.int .i64 k, .string d, ve, .int .u64 t1, .int .u64 t2, vp, .string au, .int .i64 ti, .string ms]] W fun e w' => e = .returned (.string s) ∧ Below W.heap.size W w') :
    Calls Try.prog 17 #[.agg #[.int .i64 k, .string d, ve, .int .u64 t1, .int .u64 t2, vp, .string au, .int .i64 ti, .string ms]] w fun e w' => e = .returned (.tuple #[.string s, .int .i64 0]) ∧ Below w.heap.size w w' := by
  have HC := Lib.hid C
  have HD := Lib.hid D
  have h0 := Bo.fresh w k d ve t1 t2 vp au ti ms
  clear C D
  go_enter Try.func17, Try.ntmps17
  go_wp2_with fail
  ((with_reducible refine (HC.out _ h0.b).mono ?_); rintro e w1 ⟨rfl, hb1⟩)
  have h1 := h0.on hb1
  have hb := h1.b
  have H1 := Lib.hid h1
  obtain ⟨y0, y1, y2, y3, y4, y5, y6, y7, y8, -, -⟩ := h1
  clear h0 hb1
  go_wp2_with fail
  ((with_reducible refine (HD.out _ hb).mono ?_); rintro e w2 ⟨rfl, hb2⟩)
  have hb' := (H1.out.on hb2).b
  clear hb H1 hb2 y0 y1 y2 y3 y4 y5 y6 y7 y8
  go_wp2
  go_ret2
  exact ⟨rfl, hb'⟩

theorem encode_any (o : Ob) (v : Value) (w : World) (hv : IsOb w v o) (hf : o.Fit) (hd : o.data.size ≤ 2 ^ 60) (s : BA) (hs : encD o = s) (r : Int) (hr : chk o = r) :
    Calls Try.prog 17 #[v] w fun e w' => e = .returned (.tuple #[.string s, .int .i64 r]) ∧ Below w.heap.size w w' := by
  have hv0 := hv
  obtain ⟨ve, vp, rfl, hE, hP⟩ := hv
  have C : ∀ W, Below w.heap.size w W → Calls Try.prog 12 #[.agg #[.int .i64 o.kind, .string o.data, ve, .int .u64 o.tree.1, .int .u64 o.tree.2, vp, .string o.author, .int .i64 o.time, .string o.msg]] W fun e w' => e = .returned (.int .i64 r) ∧ Below W.heap.size W w' :=
    fun W hW => check_any o _ W (hv0.below hW (Nat.le_refl _)) hf hd r hr
  by_cases h : chk o = 0
  · obtain rfl : r = 0 := by rw [← hr]; exact h
    rw [encD, if_pos h] at hs
    obtain ⟨h1, h2⟩ := chk_fields h
    exact encode_ok o.kind o.data ve o.tree.1 o.tree.2 vp o.author o.time o.msg w s C (fun W hW => write_any o _ W (hv0.below hW (Nat.le_refl _)) h1 h2 s hs)
  · rw [encD, if_neg h] at hs
    subst hs
    exact encode_bad o.kind o.data ve o.tree.1 o.tree.2 vp o.author o.time o.msg w r (by rw [← hr]; exact h) C
end Go.Proofs.Ytiaahjoldahlnaa
