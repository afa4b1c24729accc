/- object.reader's methods that read one part, at this translation. -/
import Derived.Test.YtiaahjoldahlnaaReader3
namespace Go.Proofs.Ytiaahjoldahlnaa
open Go.RowKit Go.Great
attribute [local go_sem] eq_arr

/-- Only two blocks may have changed, among those that were there. -/
structure Only2 (N : Nat) (w w' : World) : Prop where
  b : Below N w w'
  k : ∀ j, N + 1 < j → j < w.heap.size → w'.heap[j]? = w.heap[j]?
theorem Only2.refl (N : Nat) (w : World) : Only2 N w w := ⟨Below.refl _ _, fun _ _ _ => rfl⟩
theorem Only2.trans {N : Nat} {a b c : World} (h : Only2 N a b) (k : Only2 N b c) : Only2 N a c :=
  ⟨h.b.trans k.b, fun j h1 h2 => (k.k j h1 (Nat.lt_of_lt_of_le h2 h.b.size)).trans (h.k j h1 h2)⟩
theorem Only2.one {N : Nat} {w w' : World} (h : Only1 N w w') : Only2 N w w' := ⟨h.b, fun j h1 h2 => h.k j (by omega) h2⟩
theorem Only2.two {N : Nat} {w w' : World} (h : Only1 (N + 1) w w') : Only2 N w w' := ⟨h.b.mono (Nat.le_succ _), fun j h1 h2 => h.k j h1 h2⟩
/-- An object reader's cells. -/
def roC (N : Nat) (k : Int) (d : BA) (ve : Value) (t1 t2 : Nat) (vp : Value) (au : BA) (ti : Int) (ms : BA) : Obj := .cells #[.pointer (some ⟨N, 0, none⟩), .int .i64 k, .string d, ve, .int .u64 t1, .int .u64 t2, vp, .string au, .int .i64 ti, .string ms] 52 (0, 0)
/-- A reader and, behind it, an object reader. -/
structure Ro (N : Nat) (r : Rd) (k : Int) (d : BA) (ve : Value) (t1 t2 : Nat) (vp : Value) (au : BA) (ti : Int) (ms : BA) (W : World) : Prop where
  rd : RdAt W N r
  ro : W.heap[N + 1]? = some (roC N k d ve t1 t2 vp au ti ms)
theorem Ro.lt {N : Nat} {r : Rd} {k : Int} {d : BA} {ve : Value} {t1 t2 : Nat} {vp : Value} {au : BA} {ti : Int} {ms : BA} {W : World} (h : Ro N r k d ve t1 t2 vp au ti ms W) : N + 1 < W.heap.size := (Array.getElem?_eq_some_iff.1 h.ro).1
theorem Ro.at {N : Nat} {r : Rd} {k : Int} {d : BA} {ve : Value} {t1 t2 : Nat} {vp : Value} {au : BA} {ti : Int} {ms : BA} {W : World} (h : Ro N r k d ve t1 t2 vp au ti ms W) :
    W.cell? ⟨N + 1, 0, none⟩ = some (.pointer (some ⟨N, 0, none⟩)) ∧ W.cell? ⟨N + 1, 1, none⟩ = some (.int .i64 k) ∧ W.cell? ⟨N + 1, 2, none⟩ = some (.string d) ∧ W.cell? ⟨N + 1, 3, none⟩ = some ve ∧ W.cell? ⟨N + 1, 4, none⟩ = some (.int .u64 t1) ∧ W.cell? ⟨N + 1, 5, none⟩ = some (.int .u64 t2) ∧ W.cell? ⟨N + 1, 6, none⟩ = some vp ∧ W.cell? ⟨N + 1, 7, none⟩ = some (.string au) ∧ W.cell? ⟨N + 1, 8, none⟩ = some (.int .i64 ti) ∧ W.cell? ⟨N + 1, 9, none⟩ = some (.string ms) := by
  have e := h.ro
  unfold roC at e
  refine ⟨?_, ?_, ?_, ?_, ?_, ?_, ?_, ?_, ?_, ?_⟩ <;> rw [Lib.cell_of_heap e] <;> rfl
theorem Ro.f {N : Nat} {r : Rd} {k : Int} {d : BA} {ve : Value} {t1 t2 : Nat} {vp : Value} {au : BA} {ti : Int} {ms : BA} {W : World} (h : Ro N r k d ve t1 t2 vp au ti ms W) (o : Nat) : W.frozen? ⟨N + 1, o, none⟩ = false := Lib.frozen_of_heap h.ro o
theorem Ro.on {N : Nat} {r : Rd} {k : Int} {d : BA} {ve : Value} {t1 t2 : Nat} {vp : Value} {au : BA} {ti : Int} {ms : BA} {W W' : World} (h : Ro N r k d ve t1 t2 vp au ti ms W) (hB : Below W.heap.size W W') : Ro N r k d ve t1 t2 vp au ti ms W' :=
  ⟨h.rd.on hB, (hB.block _ h.lt).trans h.ro⟩
/-- Behind a call that reads. -/
theorem Ro.read {N : Nat} {r r' : Rd} {k : Int} {d : BA} {ve : Value} {t1 t2 : Nat} {vp : Value} {au : BA} {ti : Int} {ms : BA} {W W' : World} (h : Ro N r k d ve t1 t2 vp au ti ms W) (hr : RdAt W' N r') (ho : Only1 N W W') : Ro N r' k d ve t1 t2 vp au ti ms W' :=
  ⟨hr, ho.at h.ro (by omega)⟩
theorem Ro.setK {N : Nat} {r : Rd} {k : Int} {d : BA} {ve : Value} {t1 t2 : Nat} {vp : Value} {au : BA} {ti : Int} {ms : BA} {W : World} (h : Ro N r k d ve t1 t2 vp au ti ms W) (x : Int) : Ro N r x d ve t1 t2 vp au ti ms (W.setCell ⟨N + 1, 1, none⟩ (.int .i64 x)) := by
  refine ⟨(Below.heap_setCell W ⟨N + 1, 1, none⟩ _ N (by show N ≠ N + 1; omega)).trans h.rd, ?_⟩
  have e := h.ro
  unfold roC at e ⊢
  simp [World.setCell, Array.getElem?_modify, e]
theorem Ro.setD {N : Nat} {r : Rd} {k : Int} {d : BA} {ve : Value} {t1 t2 : Nat} {vp : Value} {au : BA} {ti : Int} {ms : BA} {W : World} (h : Ro N r k d ve t1 t2 vp au ti ms W) (x : BA) : Ro N r k x ve t1 t2 vp au ti ms (W.setCell ⟨N + 1, 2, none⟩ (.string x)) := by
  refine ⟨(Below.heap_setCell W ⟨N + 1, 2, none⟩ _ N (by show N ≠ N + 1; omega)).trans h.rd, ?_⟩
  have e := h.ro
  unfold roC at e ⊢
  simp [World.setCell, Array.getElem?_modify, e]
theorem Ro.setE {N : Nat} {r : Rd} {k : Int} {d : BA} {ve : Value} {t1 t2 : Nat} {vp : Value} {au : BA} {ti : Int} {ms : BA} {W : World} (h : Ro N r k d ve t1 t2 vp au ti ms W) (x : Value) : Ro N r k d x t1 t2 vp au ti ms (W.setCell ⟨N + 1, 3, none⟩ (x)) := by
  refine ⟨(Below.heap_setCell W ⟨N + 1, 3, none⟩ _ N (by show N ≠ N + 1; omega)).trans h.rd, ?_⟩
  have e := h.ro
  unfold roC at e ⊢
  simp [World.setCell, Array.getElem?_modify, e]
theorem Ro.setT {N : Nat} {r : Rd} {k : Int} {d : BA} {ve : Value} {t1 t2 : Nat} {vp : Value} {au : BA} {ti : Int} {ms : BA} {W : World} (h : Ro N r k d ve t1 t2 vp au ti ms W) (x y : Nat) : Ro N r k d ve x y vp au ti ms ((W.setCell ⟨N + 1, 4, none⟩ (.int .u64 x)).setCell ⟨N + 1, 5, none⟩ (.int .u64 y)) := by
  refine ⟨(Below.heap_setCell _ ⟨N + 1, 5, none⟩ _ N (by show N ≠ N + 1; omega)).trans ((Below.heap_setCell W ⟨N + 1, 4, none⟩ _ N (by show N ≠ N + 1; omega)).trans h.rd), ?_⟩
  have e := h.ro
  unfold roC at e ⊢
  simp [World.setCell, Array.getElem?_modify, e]
theorem Ro.setP {N : Nat} {r : Rd} {k : Int} {d : BA} {ve : Value} {t1 t2 : Nat} {vp : Value} {au : BA} {ti : Int} {ms : BA} {W : World} (h : Ro N r k d ve t1 t2 vp au ti ms W) (x : Value) : Ro N r k d ve t1 t2 x au ti ms (W.setCell ⟨N + 1, 6, none⟩ (x)) := by
  refine ⟨(Below.heap_setCell W ⟨N + 1, 6, none⟩ _ N (by show N ≠ N + 1; omega)).trans h.rd, ?_⟩
  have e := h.ro
  unfold roC at e ⊢
  simp [World.setCell, Array.getElem?_modify, e]
theorem Ro.setA {N : Nat} {r : Rd} {k : Int} {d : BA} {ve : Value} {t1 t2 : Nat} {vp : Value} {au : BA} {ti : Int} {ms : BA} {W : World} (h : Ro N r k d ve t1 t2 vp au ti ms W) (x : BA) : Ro N r k d ve t1 t2 vp x ti ms (W.setCell ⟨N + 1, 7, none⟩ (.string x)) := by
  refine ⟨(Below.heap_setCell W ⟨N + 1, 7, none⟩ _ N (by show N ≠ N + 1; omega)).trans h.rd, ?_⟩
  have e := h.ro
  unfold roC at e ⊢
  simp [World.setCell, Array.getElem?_modify, e]
theorem Ro.setI {N : Nat} {r : Rd} {k : Int} {d : BA} {ve : Value} {t1 t2 : Nat} {vp : Value} {au : BA} {ti : Int} {ms : BA} {W : World} (h : Ro N r k d ve t1 t2 vp au ti ms W) (x : Int) : Ro N r k d ve t1 t2 vp au x ms (W.setCell ⟨N + 1, 8, none⟩ (.int .i64 x)) := by
  refine ⟨(Below.heap_setCell W ⟨N + 1, 8, none⟩ _ N (by show N ≠ N + 1; omega)).trans h.rd, ?_⟩
  have e := h.ro
  unfold roC at e ⊢
  simp [World.setCell, Array.getElem?_modify, e]
theorem Ro.setM {N : Nat} {r : Rd} {k : Int} {d : BA} {ve : Value} {t1 t2 : Nat} {vp : Value} {au : BA} {ti : Int} {ms : BA} {W : World} (h : Ro N r k d ve t1 t2 vp au ti ms W) (x : BA) : Ro N r k d ve t1 t2 vp au ti x (W.setCell ⟨N + 1, 9, none⟩ (.string x)) := by
  refine ⟨(Below.heap_setCell W ⟨N + 1, 9, none⟩ _ N (by show N ≠ N + 1; omega)).trans h.rd, ?_⟩
  have e := h.ro
  unfold roC at e ⊢
  simp [World.setCell, Array.getElem?_modify, e]

set_option maxHeartbeats 2000000 in
theorem dataM_any (N : Nat) (r : Rd) (k : Int) (d : BA) (ve : Value) (t1 t2 : Nat) (vp : Value) (au : BA) (ti : Int) (ms : BA) (w : World) (h : Ro N r k d ve t1 t2 vp au ti ms w) (hm : r.1.size ≤ maxLen) (v : BA) (r' : Rd) (hv : rdT r = (v, r')) :
    Calls Try.prog 60 #[.pointer (some ⟨N + 1, 0, none⟩)] w fun e w' => e = .returned (.tuple #[]) ∧ Ro N r' k v ve t1 t2 vp au ti ms w' ∧ Only2 N w w' := by
  have C := Lib.hid (fun W (hW : RdAt W N r) => textR_any N r W hW hm v r' hv)
  unfold Reads at C
  obtain ⟨q0, -, -, -, -, -, -, -, -, -⟩ := h.at
  go_enter Try.func60, Try.ntmps60
  go_wp2_with fail
  ((with_reducible refine (C.out _ h.rd).mono ?_); rintro e w1 ⟨rfl, hr1, ho1⟩)
  have s1 := h.read hr1 ho1
  have o1 := Only2.one ho1
  clear h hr1 ho1 q0
  obtain ⟨-, -, q2, -, -, -, -, -, -, -⟩ := s1.at
  have f2 := s1.f 2
  have s2 := Lib.hid (s1.setD v)
  have o2 := o1.trans (Only2.two (Only1.set (N := N + 1) w1 2 (.string v)))
  clear s1 o1
  go_wp2
  go_end0
  exact ⟨rfl, s2.out, o2⟩

set_option maxHeartbeats 2000000 in
theorem authorM_any (N : Nat) (r : Rd) (k : Int) (d : BA) (ve : Value) (t1 t2 : Nat) (vp : Value) (au : BA) (ti : Int) (ms : BA) (w : World) (h : Ro N r k d ve t1 t2 vp au ti ms w) (hm : r.1.size ≤ maxLen) (v : BA) (r' : Rd) (hv : rdT r = (v, r')) :
    Calls Try.prog 64 #[.pointer (some ⟨N + 1, 0, none⟩)] w fun e w' => e = .returned (.tuple #[]) ∧ Ro N r' k d ve t1 t2 vp v ti ms w' ∧ Only2 N w w' := by
  have C := Lib.hid (fun W (hW : RdAt W N r) => textR_any N r W hW hm v r' hv)
  unfold Reads at C
  obtain ⟨q0, -, -, -, -, -, -, -, -, -⟩ := h.at
  go_enter Try.func64, Try.ntmps64
  go_wp2_with fail
  ((with_reducible refine (C.out _ h.rd).mono ?_); rintro e w1 ⟨rfl, hr1, ho1⟩)
  have s1 := h.read hr1 ho1
  have o1 := Only2.one ho1
  clear h hr1 ho1 q0
  obtain ⟨-, -, -, -, -, -, -, q7, -, -⟩ := s1.at
  have f7 := s1.f 7
  have s2 := Lib.hid (s1.setA v)
  have o2 := o1.trans (Only2.two (Only1.set (N := N + 1) w1 7 (.string v)))
  clear s1 o1
  go_wp2
  go_end0
  exact ⟨rfl, s2.out, o2⟩

set_option maxHeartbeats 2000000 in
theorem timeM_any (N : Nat) (r : Rd) (k : Int) (d : BA) (ve : Value) (t1 t2 : Nat) (vp : Value) (au : BA) (ti : Int) (ms : BA) (w : World) (h : Ro N r k d ve t1 t2 vp au ti ms w) (hm : r.1.size ≤ maxLen) (v : Nat) (r' : Rd) (hv : rdI r = (v, r')) :
    Calls Try.prog 65 #[.pointer (some ⟨N + 1, 0, none⟩)] w fun e w' => e = .returned (.tuple #[]) ∧ Ro N r' k d ve t1 t2 vp au v ms w' ∧ Only2 N w w' := by
  have C := Lib.hid (fun W (hW : RdAt W N r) => intR_any N r W hW hm v r' hv)
  unfold Reads at C
  obtain ⟨q0, -, -, -, -, -, -, -, -, -⟩ := h.at
  go_enter Try.func65, Try.ntmps65
  go_wp2_with fail
  ((with_reducible refine (C.out _ h.rd).mono ?_); rintro e w1 ⟨rfl, hr1, ho1⟩)
  have s1 := h.read hr1 ho1
  have o1 := Only2.one ho1
  clear h hr1 ho1 q0
  obtain ⟨-, -, -, -, -, -, -, -, q8, -⟩ := s1.at
  have f8 := s1.f 8
  have s2 := Lib.hid (s1.setI v)
  have o2 := o1.trans (Only2.two (Only1.set (N := N + 1) w1 8 (.int .i64 v)))
  clear s1 o1
  go_wp2
  go_end0
  exact ⟨rfl, s2.out, o2⟩

set_option maxHeartbeats 2000000 in
theorem messageM_any (N : Nat) (r : Rd) (k : Int) (d : BA) (ve : Value) (t1 t2 : Nat) (vp : Value) (au : BA) (ti : Int) (ms : BA) (w : World) (h : Ro N r k d ve t1 t2 vp au ti ms w) (hm : r.1.size ≤ maxLen) (v : BA) (r' : Rd) (hv : rdT r = (v, r')) :
    Calls Try.prog 66 #[.pointer (some ⟨N + 1, 0, none⟩)] w fun e w' => e = .returned (.tuple #[]) ∧ Ro N r' k d ve t1 t2 vp au ti v w' ∧ Only2 N w w' := by
  have C := Lib.hid (fun W (hW : RdAt W N r) => textR_any N r W hW hm v r' hv)
  unfold Reads at C
  obtain ⟨q0, -, -, -, -, -, -, -, -, -⟩ := h.at
  go_enter Try.func66, Try.ntmps66
  go_wp2_with fail
  ((with_reducible refine (C.out _ h.rd).mono ?_); rintro e w1 ⟨rfl, hr1, ho1⟩)
  have s1 := h.read hr1 ho1
  have o1 := Only2.one ho1
  clear h hr1 ho1 q0
  obtain ⟨-, -, -, -, -, -, -, -, -, q9⟩ := s1.at
  have f9 := s1.f 9
  have s2 := Lib.hid (s1.setM v)
  have o2 := o1.trans (Only2.two (Only1.set (N := N + 1) w1 9 (.string v)))
  clear s1 o1
  go_wp2
  go_end0
  exact ⟨rfl, s2.out, o2⟩

set_option maxHeartbeats 2000000 in
theorem treeM_any (N : Nat) (r : Rd) (k : Int) (d : BA) (ve : Value) (t1 t2 : Nat) (vp : Value) (au : BA) (ti : Int) (ms : BA) (w : World) (h : Ro N r k d ve t1 t2 vp au ti ms w) (hm : r.1.size ≤ maxLen) (x y : Nat) (r' : Rd) (hv : rdD r = ((x, y), r')) :
    Calls Try.prog 62 #[.pointer (some ⟨N + 1, 0, none⟩)] w fun e w' => e = .returned (.tuple #[]) ∧ Ro N r' k d ve x y vp au ti ms w' ∧ Only2 N w w' := by
  have C := Lib.hid (fun W (hW : RdAt W N r) => digR_any N r W hW hm x y r' hv)
  unfold Reads at C
  obtain ⟨q0, -, -, -, -, -, -, -, -, -⟩ := h.at
  go_enter Try.func62, Try.ntmps62
  go_wp2_with fail
  ((with_reducible refine (C.out _ h.rd).mono ?_); rintro e w1 ⟨rfl, hr1, ho1⟩)
  have s1 := h.read hr1 ho1
  have o1 := Only2.one ho1
  clear h hr1 ho1 q0
  obtain ⟨-, -, -, -, q4, q5, -, -, -, -⟩ := s1.at
  have f4 := s1.f 4
  have f5 := s1.f 5
  have s2 := Lib.hid (s1.setT x y)
  have o2 := (o1.trans (Only2.two (Only1.set (N := N + 1) w1 4 (.int .u64 x)))).trans (Only2.two (Only1.set (N := N + 1) _ 5 (.int .u64 y)))
  clear s1 o1
  go_wp2
  go_end0
  exact ⟨rfl, s2.out, o2⟩
end Go.Proofs.Ytiaahjoldahlnaa
