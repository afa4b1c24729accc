/- Numbers and texts, of program and reference, and codec.Size, at this translation. -/
import Derived.Test.YtiaahjoldahlnaaCdText
import Derived.Test.YtiaahjoldahlnaaCdBack
import Derived.Test.YtiaahjoldahlnaaFields
namespace Go.Proofs.Ytiaahjoldahlnaa
open Go.RowKit Go.Great

/-- A number's bytes, a text's. -/
def numS (n : Nat) : BA := Cd.strN (Cd.enc7 n)
def txtS (s : BA) : BA := Cd.strN (Cd.encT s)
theorem numS_size (n : Nat) : (numS n).size = (Cd.enc7 n).length := Cd.strN_size _
theorem numS_le (n : Nat) (h : n ≤ 1099511627776) : (numS n).size ≤ 6 := by rw [numS_size]; exact Cd.enc6 n h
theorem txtS_size (s : BA) : (txtS s).size = (Cd.enc7 s.size).length + s.size := by
  rw [txtS, Cd.strN_size, Cd.encT, List.length_append, Cd.nats_length]

set_option maxHeartbeats 1000000 in
theorem refPutInt_any (m : Nat) (hm : m ≤ 1099511627776) (w : World) :
    Calls Try.prog 74 #[.int .i64 m] w fun e w' => e = .returned (.tuple #[.string (numS m), .int .i64 0]) ∧ Below w.heap.size w w' := by
  go_enter Try.func74, Try.ntmps74
  go_wp2_with fail
  ((with_reducible refine (Cd.refPut_any m hm _).mono ?_); rintro e w1 ⟨rfl, hb1⟩)
  go_wp2
  go_ret2
  exact ⟨rfl, hb1⟩
theorem number_any (m : Nat) (hm : m ≤ 1099511627776) (w : World) :
    Calls Try.prog 48 #[.int .i64 m] w fun e w' => e = .returned (.string (numS m)) ∧ Below w.heap.size w w' := by
  go_enter Try.func48, Try.ntmps48
  go_wp2_with fail
  ((with_reducible refine (refPutInt_any m hm _).mono ?_); rintro e w1 ⟨rfl, hb1⟩)
  go_wp2
  go_ret
  exact ⟨rfl, hb1⟩
theorem text_any (s : BA) (hs : s.size ≤ 65536) (w : World) :
    Calls Try.prog 49 #[.string s] w fun e w' => e = .returned (.string (txtS s)) ∧ Below w.heap.size w w' := by
  go_enter Try.func49, Try.ntmps49
  go_wp2_with fail
  ((with_reducible refine (Cd.refPutText_good s hs _).mono ?_); rintro e w1 ⟨rfl, hb1⟩)
  go_wp2
  go_ret
  exact ⟨rfl, hb1⟩
theorem pInt_any (m : Nat) (hm : m ≤ 1099511627776) (w : World) :
    Calls Try.prog 52 #[.int .i64 m] w fun e w' => e = .returned (.string (numS m)) ∧ Below w.heap.size w w' := by
  go_enter Try.func52, Try.ntmps52
  go_wp2_with fail
  ((with_reducible refine (Cd.putInt_good m m rfl hm _).mono ?_); rintro e w1 ⟨rfl, hb1⟩)
  go_wp2
  go_ret
  exact ⟨rfl, hb1⟩
theorem pText_any (s : BA) (hs : s.size ≤ 65536) (w : World) :
    Calls Try.prog 53 #[.string s] w fun e w' => e = .returned (.string (txtS s)) ∧ Below w.heap.size w w' := by
  go_enter Try.func53, Try.ntmps53
  go_wp2_with fail
  ((with_reducible refine (Cd.putText_good s hs _).mono ?_); rintro e w1 ⟨rfl, hb1⟩)
  go_wp2
  go_ret
  exact ⟨rfl, hb1⟩
/-- The number of a truth value. -/
def b01 (b : Bool) : Nat := if b then 1 else 0
theorem pBool_any (b : Bool) (w : World) :
    Calls Try.prog 54 #[.bool b] w fun e w' => e = .returned (.int .i64 (b01 b : Nat)) ∧ w' = w := by
  cases b with
  | true =>
    go_enter Try.func54, Try.ntmps54
    go_wp2
    go_ret
    exact ⟨rfl, rfl⟩
  | false =>
    go_enter Try.func54, Try.ntmps54
    go_wp2
    go_ret
    exact ⟨rfl, rfl⟩
/-- The bytes of a length, none where it is too long. -/
def szD (n : Nat) : Nat := if n ≤ 1099511627776 then (Cd.enc7 n).length else 0
theorem size_any (n : Nat) (w : World) :
    Calls Try.prog 26 #[.int .i64 n] w fun e w' => e = .returned (.int .i64 (szD n : Nat)) ∧ Below w.heap.size w w' := by
  by_cases h : n ≤ 1099511627776
  · have e : ((szD n : Nat) : Int) = ((numS n).size : Nat) := by rw [numS_size, szD, if_pos h]
    rw [e]
    go_enter Try.func26, Try.ntmps26
    go_wp2_with fail
    ((with_reducible refine (Cd.putInt_good n n rfl h _).mono ?_); rintro e w1 ⟨rfl, hb1⟩)
    go_wp2
    go_ret
    exact ⟨rfl, hb1⟩
  · rw [szD, if_neg h]
    go_enter Try.func26, Try.ntmps26
    go_wp2_with fail
    ((with_reducible refine (Cd.putInt_bad n (.inr (by omega)) _).mono ?_); rintro e w1 ⟨rfl, hb1⟩)
    go_wp2
    go_ret
    exact ⟨rfl, hb1⟩

/-- Why an object is not valid. -/
def chk (o : Ob) : Int := if chkFields o ≠ 0 then chkFields o else if 65536 < 1 + szD o.data.size + o.data.size then 4 else 0

set_option maxRecDepth 100000 in
set_option maxHeartbeats 4000000 in
theorem check_any (o : Ob) (v : Value) (w : World) (hv : IsOb w v o) (hf : o.Fit) (hd : o.data.size ≤ 2 ^ 60) (r : Int) (hr : chk o = r) :
    Calls Try.prog 12 #[v] w fun e w' => e = .returned (.int .i64 r) ∧ Below w.heap.size w w' := by
  have HV := Lib.hid hv
  have HF := Lib.hid hf
  obtain ⟨ve, vp, e, -, -⟩ := hv
  have hs1 : szD o.data.size ≤ 6 := by unfold szD; split
                                       · exact Cd.enc6 _ (by omega)
                                       · omega
  have h0 := Bo.fresh w o.kind o.data ve o.tree.1 o.tree.2 vp o.author o.time o.msg
  have hv1 := HV.out.below h0.b (Nat.le_refl _)
  rw [e] at hv1 ⊢
  unfold chk at hr
  obtain ⟨r0, hr0⟩ : ∃ r0, chkFields o = r0 := ⟨_, rfl⟩
  rw [hr0] at hr
  have HR0 := Lib.hid hr0
  have S := fun W => size_any o.data.size W
  generalize szD o.data.size = z at hr hs1 S
  have HS := Lib.hid S
  clear HV e hf hr0 S
  by_cases hz : r0 = 0
  · subst hz
    simp only [ne_eq, not_true_eq_false, if_false] at hr
    by_cases hb : 65536 < 1 + z + o.data.size
    · rw [if_pos hb] at hr
      subst hr
      have w1 : IntKind.i64.wrap (1 + (z : Int)) = 1 + z := IntWalk.i64_in _ (by omega)
      have w2 : IntKind.i64.wrap (1 + (z : Int) + (o.data.size : Nat)) = 1 + z + (o.data.size : Nat) := IntWalk.i64_in _ (by omega)
      go_enter Try.func12, Try.ntmps12
      go_wp2_with fail
      ((with_reducible refine (fields_any o _ _ hv1 HF.out 0 HR0.out).mono ?_); rintro e w1 ⟨rfl, hb1⟩)
      have start := (h0.on hb1).drew
      clear h0 hb1
      go_upto_region 4 with fail
      go_region_held3 (fun V => V.cell? ⟨w.heap.size, 1, none⟩ = some (.string o.data)) (first | with_reducible exact hh.c1 | with_reducible exact start.c1) (first | ((with_reducible refine (HS.out _).mono ?_); rintro e w5 ⟨rfl, hb5⟩; have hh := start.on hb5; clear hb5))
      go_wp2
      go_ret
      exact ⟨rfl, hh.b⟩
    · rw [if_neg hb] at hr
      subst hr
      have w1 : IntKind.i64.wrap (1 + (z : Int)) = 1 + z := IntWalk.i64_in _ (by omega)
      have w2 : IntKind.i64.wrap (1 + (z : Int) + (o.data.size : Nat)) = 1 + z + (o.data.size : Nat) := IntWalk.i64_in _ (by omega)
      go_enter Try.func12, Try.ntmps12
      go_wp2_with fail
      ((with_reducible refine (fields_any o _ _ hv1 HF.out 0 HR0.out).mono ?_); rintro e w1 ⟨rfl, hb1⟩)
      have start := (h0.on hb1).drew
      clear h0 hb1
      go_upto_region 4 with fail
      go_region_held3 (fun V => V.cell? ⟨w.heap.size, 1, none⟩ = some (.string o.data)) (first | with_reducible exact hh.c1 | with_reducible exact start.c1) (first | ((with_reducible refine (HS.out _).mono ?_); rintro e w5 ⟨rfl, hb5⟩; have hh := start.on hb5; clear hb5))
      go_wp2
      go_ret
      exact ⟨rfl, hh.b⟩
  · rw [if_pos hz] at hr
    subst hr
    have hne : (r0 != 0) = true := by simpa using hz
    clear hz
    go_enter Try.func12, Try.ntmps12
    go_wp2_with fail
    ((with_reducible refine (fields_any o _ _ hv1 HF.out r0 HR0.out).mono ?_); rintro e w1 ⟨rfl, hb1⟩)
    have hb := (h0.on hb1).b
    clear h0 hb1
    go_wp2
    go_ret
    exact ⟨rfl, hb⟩
end Go.Proofs.Ytiaahjoldahlnaa
