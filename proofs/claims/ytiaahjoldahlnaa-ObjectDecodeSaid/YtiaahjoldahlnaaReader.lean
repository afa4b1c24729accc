/- parts.Reader: what its methods read, and what they leave as it was, at this translation. -/
import Derived.Test.YtiaahjoldahlnaaDecM
import Derived.Test.YtiaahjoldahlnaaCdGetInt
import Derived.Test.YtiaahjoldahlnaaCdText
import Derived.LoopTactic
namespace Go.Proofs.Ytiaahjoldahlnaa
open Go.RowKit Go.Great
attribute [local go_sem] eq_arr

/-- Only block N may have changed, among those that were there. -/
structure Only1 (N : Nat) (w w' : World) : Prop where
  b : Below N w w'
  k : ∀ j, N < j → j < w.heap.size → w'.heap[j]? = w.heap[j]?
theorem Only1.refl (N : Nat) (w : World) : Only1 N w w := ⟨Below.refl _ _, fun _ _ _ => rfl⟩
theorem Only1.trans {N : Nat} {a b c : World} (h : Only1 N a b) (k : Only1 N b c) : Only1 N a c :=
  ⟨h.b.trans k.b, fun j h1 h2 => (k.k j h1 (Nat.lt_of_lt_of_le h2 h.b.size)).trans (h.k j h1 h2)⟩
theorem Only1.below {N : Nat} {w w' : World} (h : Below w.heap.size w w') (hN : N < w.heap.size) : Only1 N w w' := ⟨h.mono (Nat.le_of_lt hN), fun j _ h2 => h.block j h2⟩
theorem Only1.set {N : Nat} (w : World) (o : Nat) (v : Value) : Only1 N w (w.setCell ⟨N, o, none⟩ v) :=
  ⟨(Below.refl N w).setCell (p := ⟨N, o, none⟩) (Nat.le_refl _) v, fun j h1 _ => Below.heap_setCell w ⟨N, o, none⟩ v j (by show j ≠ N; omega)⟩
theorem Only1.at {N : Nat} {w w' : World} (h : Only1 N w w') {j : Nat} {o : Obj} (hj : w.heap[j]? = some o) (hne : j ≠ N) : w'.heap[j]? = some o := by
  have hlt := (Array.getElem?_eq_some_iff.1 hj).1
  rcases Nat.lt_or_ge j N with h1 | h1
  · exact (h.b.block j h1).trans hj
  · exact (h.k j (by omega) hlt).trans hj
/-- A reader's box. -/
def RdAt (w : World) (N : Nat) (r : Rd) : Prop := w.heap[N]? = some (.cells #[.string r.1, .bool r.2] 78 (0, 0))
theorem RdAt.lt {w : World} {N : Nat} {r : Rd} (h : RdAt w N r) : N < w.heap.size := (Array.getElem?_eq_some_iff.1 h).1
theorem RdAt.c0 {w : World} {N : Nat} {r : Rd} (h : RdAt w N r) : w.cell? ⟨N, 0, none⟩ = some (.string r.1) := by rw [Lib.cell_of_heap h]; rfl
theorem RdAt.c1 {w : World} {N : Nat} {r : Rd} (h : RdAt w N r) : w.cell? ⟨N, 1, none⟩ = some (.bool r.2) := by rw [Lib.cell_of_heap h]; rfl
theorem RdAt.f {w : World} {N : Nat} {r : Rd} (h : RdAt w N r) (o : Nat) : w.frozen? ⟨N, o, none⟩ = false := Lib.frozen_of_heap h o
theorem RdAt.on {w w' : World} {N : Nat} {r : Rd} (h : RdAt w N r) (hB : Below w.heap.size w w') : RdAt w' N r := (hB.block N h.lt).trans h
theorem RdAt.set0 {w : World} {N : Nat} {r : Rd} (h : RdAt w N r) (s : BA) : RdAt (w.setCell ⟨N, 0, none⟩ (.string s)) N (s, r.2) := by
  unfold RdAt at h ⊢
  simp [World.setCell, Array.getElem?_modify, h]
theorem RdAt.set1 {w : World} {N : Nat} {r : Rd} (h : RdAt w N r) (b : Bool) : RdAt (w.setCell ⟨N, 1, none⟩ (.bool b)) N (r.1, b) := by
  unfold RdAt at h ⊢
  simp [World.setCell, Array.getElem?_modify, h]

/-- A call that reads: the value, what remains, and nothing else has changed. -/
def Reads (f : Nat) (args : Array Value) (N : Nat) (w : World) (v : Value) (r' : Rd) : Prop :=
  Calls Try.prog f args w fun e w' => e = .returned v ∧ RdAt w' N r' ∧ Only1 N w w'

set_option maxHeartbeats 1000000 in
theorem fail_any (N : Nat) (r : Rd) (w : World) (h : RdAt w N r) : Reads 58 #[.pointer (some ⟨N, 0, none⟩)] N w (.tuple #[]) rdBad := by
  have h2 := (h.set0 ⟨#[]⟩).set1 true
  have hk := (Only1.set (N := N) w 0 (.string ⟨#[]⟩)).trans (Only1.set _ 1 (.bool true))
  have c0 := h.c0
  have c1 := h.c1
  have f0 := h.f 0
  have f1 := h.f 1
  clear h
  unfold Reads
  go_enter Try.func58, Try.ntmps58
  go_wp2
  go_end0
  exact ⟨rfl, h2, hk⟩

set_option maxHeartbeats 2000000 in
theorem bytes_any (k N : Nat) (r : Rd) (w : World) (h : RdAt w N r) (hm : r.1.size ≤ maxLen) : Reads 59 #[.pointer (some ⟨N, 0, none⟩), .int .i64 k] N w (.string (rdY k r).1) (rdY k r).2 := by
  obtain ⟨s, b⟩ := r
  have h0 := Lib.hid h
  have c0 := h.c0
  have f0 := h.f 0
  simp only at c0 hm
  unfold maxLen at hm
  unfold rdY Reads
  by_cases hk : k ≤ s.size
  · rw [if_pos hk]
    have h2 := Lib.hid (h.set0 (s.extract k s.size))
    have h3 := Lib.hid (Only1.set (N := N) w 0 (.string (s.extract k s.size)))
    have k1 : ¬ (s.size : Int) < k := by omega
    have k2 : ¬ (k : Int) < 0 := by omega
    clear h
    go_enter Try.func59, Try.ntmps59
    go_wp2
    go_ret
    exact ⟨rfl, h2.out, h3.out⟩
  · rw [if_neg hk]
    have k1 : (s.size : Int) < k := by omega
    have k2 : ¬ (k : Int) < 0 := by omega
    have H := Lib.hid (fail_any N (s, b) w h)
    clear h hk
    unfold Reads at H
    go_enter Try.func59, Try.ntmps59
    go_wp2_with fail
    ((with_reducible refine H.out.mono ?_); rintro e w1 ⟨rfl, hr, ho⟩)
    go_wp2
    go_ret
    exact ⟨rfl, hr, ho⟩
end Go.Proofs.Ytiaahjoldahlnaa
