/- A disk in memory, at this translation: its two slices, its box. -/
import Derived.Test.YtgdfdelggihceaaMath
import Derived.Test.YtgdfdelggihceaaProg
import Derived.WalkKit
import Derived.Below
import Derived.Lib.Hide
import Derived.OwnWalkIn
import Derived.Maps.AppendAt
import Derived.Great.Walk
namespace Go.Proofs.Ytgdfdelggihceaa
open Go.RowKit

/-- A slice whose cells are these strings. -/
def IsStrs (w : World) (v : Value) (L : List ByteArray) : Prop :=
  ∃ a cap, v = .slice a L.length cap ∧ L.length ≤ maxLen ∧ L.length ≤ cap ∧ (L = [] ∨ ∃ b off, a = some ⟨b, off, none⟩ ∧ b < w.heap.size ∧ ∀ j (h : j < L.length), w.cell? ⟨b, off + j, none⟩ = some (.string L[j]))
theorem IsStrs.below {w w' : World} {v : Value} {L : List ByteArray} {B : Nat} (h : IsStrs w v L) (hB : Below B w w') (hz : w.heap.size ≤ B) : IsStrs w' v L := by
  obtain ⟨a, cap, e, h1, h2, h3⟩ := h
  refine ⟨a, cap, e, h1, h2, h3.imp id ?_⟩
  rintro ⟨b, off, e2, hb, hj⟩
  exact ⟨b, off, e2, Nat.lt_of_lt_of_le hb hB.size, fun j h => (hB.cell (p := ⟨b, off + j, none⟩) (show b < B by omega)).trans (hj j h)⟩
theorem isStrs_nil (w : World) : IsStrs w (.slice none 0 0) [] := ⟨none, 0, rfl, Nat.zero_le _, Nat.zero_le _, .inl rfl⟩
/-- A slice whose cells are these writes. -/
def IsWs (w : World) (v : Value) (L : List (Int × ByteArray)) : Prop :=
  ∃ a cap, v = .slice a L.length cap ∧ L.length ≤ maxLen ∧ L.length ≤ cap ∧ (L = [] ∨ ∃ b off, a = some ⟨b, off, none⟩ ∧ b < w.heap.size ∧ ∀ j (h : j < L.length), w.cell? ⟨b, off + j * 2, none⟩ = some (.int .i64 L[j].1) ∧ w.cell? ⟨b, off + j * 2 + 1, none⟩ = some (.string L[j].2))
theorem IsWs.below {w w' : World} {v : Value} {L : List (Int × ByteArray)} {B : Nat} (h : IsWs w v L) (hB : Below B w w') (hz : w.heap.size ≤ B) : IsWs w' v L := by
  obtain ⟨a, cap, e, h1, h2, h3⟩ := h
  refine ⟨a, cap, e, h1, h2, h3.imp id ?_⟩
  rintro ⟨b, off, e2, hb, hj⟩
  have c : ∀ o, w'.cell? ⟨b, o, none⟩ = w.cell? ⟨b, o, none⟩ := fun o => hB.cell (p := ⟨b, o, none⟩) (show b < B by omega)
  exact ⟨b, off, e2, Nat.lt_of_lt_of_le hb hB.size, fun j h => ⟨(c _).trans (hj j h).1, (c _).trans (hj j h).2⟩⟩
theorem isWs_nil (w : World) : IsWs w (.slice none 0 0) [] := ⟨none, 0, rfl, Nat.zero_le _, Nat.zero_le _, .inl rfl⟩

abbrev dv (sz : Int) (vs vp : Value) (lf : Int) : Value := .agg #[.int .i64 sz, vs, vp, .int .i64 lf]
/-- A disk's value. -/
def IsDisk (w : World) (v : Value) (D : Dk) : Prop := ∃ vs vp, v = dv D.size vs vp D.left ∧ IsStrs w vs D.secs ∧ IsWs w vp D.pend
theorem IsDisk.below {w w' : World} {v : Value} {D : Dk} {B : Nat} (h : IsDisk w v D) (hB : Below B w w') (hz : w.heap.size ≤ B) : IsDisk w' v D := by
  obtain ⟨vs, vp, e, h1, h2⟩ := h
  exact ⟨vs, vp, e, h1.below hB hz, h2.below hB hz⟩
def Dk.zero : Dk := ⟨0, [], [], 0⟩
theorem isDisk_zero (w : World) : IsDisk w (dv 0 (.slice none 0 0) (.slice none 0 0) 0) Dk.zero := ⟨_, _, rfl, isStrs_nil w, isWs_nil w⟩

/-- A disk's four cells lie in block N, and may be written. -/
structure Bx (N : Nat) (sz : Int) (vs vp : Value) (lf : Int) (W : World) : Prop where
  c0 : W.cell? ⟨N, 0, none⟩ = some (.int .i64 sz)
  c1 : W.cell? ⟨N, 1, none⟩ = some vs
  c2 : W.cell? ⟨N, 2, none⟩ = some vp
  c3 : W.cell? ⟨N, 3, none⟩ = some (.int .i64 lf)
  f0 : W.frozen? ⟨N, 0, none⟩ = false
  f1 : W.frozen? ⟨N, 1, none⟩ = false
  f2 : W.frozen? ⟨N, 2, none⟩ = false
  f3 : W.frozen? ⟨N, 3, none⟩ = false
  lt : N < W.heap.size
theorem Bx.fresh (sz : Int) (vs vp : Value) (lf : Int) (W : World) : Bx W.heap.size sz vs vp lf (W.alloc (.cells #[.int .i64 sz, vs, vp, .int .i64 lf] 26)) := by
  constructor <;> first | simp [World.cell?_alloc_new] | exact World.frozen?_alloc_new (w := W) _ _ _
theorem Bx.below {N : Nat} {sz : Int} {vs vp : Value} {lf : Int} {W W' : World} (h : Bx N sz vs vp lf W) {B : Nat} (hB : Below B W W') (hN : N < B) : Bx N sz vs vp lf W' :=
  ⟨(hB.cell (p := ⟨N, 0, none⟩) hN).trans h.c0, (hB.cell (p := ⟨N, 1, none⟩) hN).trans h.c1, (hB.cell (p := ⟨N, 2, none⟩) hN).trans h.c2, (hB.cell (p := ⟨N, 3, none⟩) hN).trans h.c3,
    (hB.frozen (p := ⟨N, 0, none⟩) hN).trans h.f0, (hB.frozen (p := ⟨N, 1, none⟩) hN).trans h.f1, (hB.frozen (p := ⟨N, 2, none⟩) hN).trans h.f2, (hB.frozen (p := ⟨N, 3, none⟩) hN).trans h.f3, Nat.lt_of_lt_of_le h.lt hB.size⟩
theorem Bx.alloc {N : Nat} {sz : Int} {vs vp : Value} {lf : Int} {W : World} (h : Bx N sz vs vp lf W) (o : Obj) : Bx N sz vs vp lf (W.alloc o) := h.below ((Below.refl _ _).alloc (Nat.le_refl _) o) h.lt
theorem Bx.drew {N : Nat} {sz : Int} {vs vp : Value} {lf : Int} {W : World} (h : Bx N sz vs vp lf W) : Bx N sz vs vp lf W.drew := ⟨h.c0, h.c1, h.c2, h.c3, h.f0, h.f1, h.f2, h.f3, h.lt⟩
abbrev set4 (W : World) (N : Nat) (x0 x1 x2 x3 : Value) : World := (((W.setCell ⟨N, 0, none⟩ x0).setCell ⟨N, 1, none⟩ x1).setCell ⟨N, 2, none⟩ x2).setCell ⟨N, 3, none⟩ x3
theorem Bx.set4 {N : Nat} {sz : Int} {vs vp : Value} {lf : Int} {W : World} (h : Bx N sz vs vp lf W) (sz' : Int) (vs' vp' : Value) (lf' : Int) : Bx N sz' vs' vp' lf' (set4 W N (.int .i64 sz') vs' vp' (.int .i64 lf')) := by
  obtain ⟨z0, z1, z2, z3, g0, g1, g2, g3, lt⟩ := h
  refine ⟨?_, ?_, ?_, ?_, ?_, ?_, ?_, ?_, by simpa [World.setCell] using lt⟩ <;>
    simp [World.cell?_setCell_other, World.cell?_setCell_same', World.frozen?_setCell, z0, z1, z2, z3, g0, g1, g2, g3]
theorem below_set4 {B : Nat} {A W : World} (h : Below B A W) {g : Nat} (hg : B ≤ g) (x0 x1 x2 x3 : Value) : Below B A (set4 W g x0 x1 x2 x3) :=
  (((h.setCell (p := ⟨g, 0, none⟩) hg x0).setCell (p := ⟨g, 1, none⟩) hg x1).setCell (p := ⟨g, 2, none⟩) hg x2).setCell (p := ⟨g, 3, none⟩) hg x3
theorem heap_set4 (W : World) (g : Nat) (x0 x1 x2 x3 : Value) (M : Nat) (hne : M ≠ g) : (set4 W g x0 x1 x2 x3).heap[M]? = W.heap[M]? := by
  rw [Below.heap_setCell _ _ _ _ hne, Below.heap_setCell _ _ _ _ hne, Below.heap_setCell _ _ _ _ hne, Below.heap_setCell _ _ _ _ hne]
theorem size_set4 (W : World) (g : Nat) (x0 x1 x2 x3 : Value) : (set4 W g x0 x1 x2 x3).heap.size = W.heap.size := by simp [World.setCell]

theorem info26 : (Try.prog.info? 26).map (fun i => (i.size, i.bytes)) = some (4, 64) := by kernel_rfl
theorem info44 : (Try.prog.info? 44).map (fun i => (i.zero, i.size, i.bytes)) = some (some (.agg #[.int .i64 0, .string ⟨#[]⟩]), 2, 24) := by kernel_rfl
theorem info9 : (Try.prog.info? 9).map (fun i => (i.zero, i.size, i.bytes)) = some (some (.string ⟨#[]⟩), 1, 16) := by kernel_rfl
end Go.Proofs.Ytgdfdelggihceaa
