/- An array of 32 integers in a box of its own: how it is made, read, written. -/
import Derived.Test.YtldpdoakfacdbaaEnds
import Derived.Great.Walk
import Derived.Great.BuildSlice
namespace Go.Proofs.Ytldpdoakfacdbaa
open Go.RowKit Go.Shelf Go.Great

/-- The 32 cells of a row. -/
def rowA (r : Nat → Nat) : Array Value := ((List.range 32).map fun j => Value.int .i64 (r j)).toArray
theorem rowA_size (r : Nat → Nat) : (rowA r).size = 32 := by simp [rowA]
theorem rowA_one (r : Nat → Nat) : (rowA r).all (·.oneCell') = true := by simp [rowA, Value.oneCell']
theorem rowA_get (r : Nat → Nat) (j : Nat) (h : j < 32) : (rowA r)[j]? = some (.int .i64 (r j)) := by simp [rowA, h]
theorem rowA_none (r : Nat → Nat) (j : Nat) (h : ¬ j < 32) : (rowA r)[j]? = none := by rw [Array.getElem?_eq_none]; rw [rowA_size]; omega
theorem rowA_set (r : Nat → Nat) (j x : Nat) : (rowA r).setIfInBounds j (.int .i64 x) = rowA fun i => if i = j then x else r i := by
  apply Array.ext_getElem?
  intro i
  rw [Array.getElem?_setIfInBounds]
  by_cases h32 : i < 32
  · rw [rowA_get _ i h32, rowA_get _ i h32]
    by_cases h : j = i
    · subst h; rw [if_pos rfl, if_pos (by rw [rowA_size]; exact h32), if_pos rfl]
    · rw [if_neg h, if_neg (fun e => h e.symm)]
  · rw [rowA_none _ i h32, rowA_none _ i h32]
    by_cases h : j = i
    · subst h; rw [if_pos rfl, if_neg (by rw [rowA_size]; exact h32)]
    · rw [if_neg h]
theorem built_first : Try.prog.built 53 [(0, .int .i64 1)] = some (rowA fun j => if j = 0 then 1 else 0) := by kernel_rfl
theorem built_none : Try.prog.built 53 [] = some (rowA fun _ => 0) := by kernel_rfl
theorem info53 : (Try.prog.info? 53).map (·.size) = some 32 := by kernel_rfl
theorem zero53 : ((Try.prog.info? 53).bind (·.zero)) = some (.agg (rowA fun _ => 0)) := by kernel_rfl
theorem run_alloc53 (ρ : Operand → Value) (o : Oper) (W : World) (ho : o.op = .alloc 53) : (execOp ρ o).run Try.prog W = .ok (.value (.pointer (some ⟨W.heap.size, 0, none⟩))) (W.alloc (.cells (rowA fun _ => 0) 53)) := by
  have hz := zero53
  cases hq : Try.prog.info? 53 with
  | none => rw [hq] at hz; simp at hz
  | some i =>
    rw [hq] at hz
    have hz2 : i.zero = some (.agg (rowA fun _ => 0)) := by simpa using hz
    unfold execOp
    rw [ho]
    simp [Instr.alloc, zeroValue, typeInfo, hq, hz2, go_sem]

/-- The block G is a row. -/
def IsRow (W : World) (G : Nat) (r : Nat → Nat) : Prop := W.heap[G]? = some (.cells (rowA r) 53 (0, 0))
theorem IsRow.lt {W : World} {G : Nat} {r : Nat → Nat} (h : IsRow W G r) : G < W.heap.size := (Array.getElem?_eq_some_iff.1 h).1
theorem IsRow.cell {W : World} {G : Nat} {r : Nat → Nat} (h : IsRow W G r) (j : Nat) (hj : j < 32) : W.cell? ⟨G, j, none⟩ = some (.int .i64 (r j)) := by
  unfold IsRow at h
  simp only [World.cell?, h]
  exact rowA_get r j hj
theorem IsRow.free {W : World} {G : Nat} {r : Nat → Nat} (h : IsRow W G r) (j : Nat) : W.frozen? ⟨G, j, none⟩ = false := by
  unfold IsRow at h
  simp [World.frozen?, h]
theorem IsRow.below {W W' : World} {G B : Nat} {r : Nat → Nat} (h : IsRow W G r) (hB : Below B W W') (hG : G < B) : IsRow W' G r := (hB.block G hG).trans h
theorem IsRow.drew {W : World} {G : Nat} {r : Nat → Nat} (h : IsRow W G r) : IsRow W.drew G r := h
theorem IsRow.alloc {W : World} {G : Nat} {r : Nat → Nat} (h : IsRow W G r) (o : Obj) : IsRow (W.alloc o) G r := (Below.heap_alloc W o G h.lt).trans h
theorem IsRow.set {W : World} {G : Nat} {r : Nat → Nat} (h : IsRow W G r) (j x : Nat) : IsRow (W.setCell ⟨G, j, none⟩ (.int .i64 x)) G (fun i => if i = j then x else r i) := by
  unfold IsRow at h ⊢
  rw [setCell_eq_setRow W G j (rowA r) 53 (0, 0) _ h, rowA_set]
  exact setRow_heap W G (rowA r) _ 53 _ h
theorem IsRow.other {W : World} {G : Nat} {r : Nat → Nat} (h : IsRow W G r) {g : Nat} (hne : G ≠ g) (o : Nat) (v : Value) : IsRow (W.setCell ⟨g, o, none⟩ v) G r := (Below.heap_setCell W ⟨g, o, none⟩ v G hne).trans h
theorem IsRow.put {W : World} {G : Nat} {r : Nat → Nat} (h : IsRow W G r) (r' : Nat → Nat) : IsRow (W.setRow G (rowA r')) G r' := setRow_heap W G (rowA r) _ 53 _ h
theorem isRow_made (W : World) (r : Nat → Nat) : IsRow (W.alloc (.cells (rowA r) 53)) W.heap.size r := heap_alloc_new _ _
theorem IsRow.ext {W : World} {G : Nat} {r r' : Nat → Nat} (h : IsRow W G r) (e : ∀ j, j < 32 → r j = r' j) : IsRow W G r' := by
  have : rowA r = rowA r' := by
    apply Array.ext
    · simp [rowA]
    · intro i h1 h2
      simp only [rowA, List.getElem_toArray, List.getElem_map, List.getElem_range]
      rw [e i (by simpa [rowA] using h1)]
  unfold IsRow at h ⊢
  rw [← this]; exact h
end Go.Proofs.Ytldpdoakfacdbaa
