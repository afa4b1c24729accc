/- The two ways from a root to an element, in the law's own words, at this translation: what the first variables hold. -/
import Derived.Test.YtamhokedekhocaaForged2
namespace Go.Proofs.Ytamhokedekhocaa
open Go.RowKit
attribute [local go_sem] eq_arr

/-- The digest's box, in a later world. -/
structure Base (w : World) (d0 d1 : Int) (W : World) : Prop where
  d : Two W w.heap.size d0 d1
  size : w.heap.size < W.heap.size
  below : Below w.heap.size w W
theorem Base.on {w W W' : World} {d0 d1 : Int} (h : Base w d0 d1 W) (hB : Below W.heap.size W W') : Base w d0 d1 W' :=
  ⟨h.d.below hB h.size, Nat.lt_of_lt_of_le h.size hB.size, bl h.below hB⟩
theorem Base.alloc {w W : World} {d0 d1 : Int} (h : Base w d0 d1 W) (o : Obj) : Base w d0 d1 (W.alloc o) := h.on ((Below.refl _ _).alloc (Nat.le_refl _) o)
theorem Base.drew {w W : World} {d0 d1 : Int} (h : Base w d0 d1 W) : Base w d0 d1 W.drew := ⟨h.d, h.size, h.below.drew⟩
theorem Base.first (w : World) (d0 d1 : Int) : Base w d0 d1 (w.alloc (.cells #[.int .u64 d0, .int .u64 d1] 24)) := ⟨Two.fresh w d0 d1 24, by simp, bla (Below.refl _ _) _⟩
theorem Base.put {w W : World} {d0 d1 : Int} (h : Base w d0 d1 W) (c i : Nat) (hc : w.heap.size < c) (v : Value) : Base w d0 d1 (W.setCell ⟨c, i, none⟩ v) :=
  ⟨h.d.far _ (by show c ≠ _; omega) _, by simpa [World.setCell] using h.size, h.below.setCell (p := ⟨c, i, none⟩) (by show _ ≤ c; omega) _⟩
theorem Base.cells {w W : World} {d0 d1 : Int} (h : Base w d0 d1 W) : W.cell? ⟨w.heap.size, 0, none⟩ = some (.int .u64 d0) ∧ W.cell? ⟨w.heap.size, 1, none⟩ = some (.int .u64 d1) := ⟨h.d.1, h.d.2.1⟩

/-- The digest's box and two variables', in a later world. -/
structure Cut (w : World) (d0 d1 : Int) (A B : Nat) (x0 x1 y0 y1 : Int) (W : World) : Prop where
  base : Base w d0 d1 W
  a : Two W A x0 x1
  b : Two W B y0 y1
  zA : A < W.heap.size
  zB : B < W.heap.size
  fA : w.heap.size < A
  fB : w.heap.size < B
theorem Cut.on {w W W' : World} {d0 d1 x0 x1 y0 y1 : Int} {A B : Nat} (h : Cut w d0 d1 A B x0 x1 y0 y1 W) (hB : Below W.heap.size W W') : Cut w d0 d1 A B x0 x1 y0 y1 W' :=
  ⟨h.base.on hB, h.a.below hB h.zA, h.b.below hB h.zB, Nat.lt_of_lt_of_le h.zA hB.size, Nat.lt_of_lt_of_le h.zB hB.size, h.fA, h.fB⟩
theorem Cut.alloc {w W : World} {d0 d1 x0 x1 y0 y1 : Int} {A B : Nat} (h : Cut w d0 d1 A B x0 x1 y0 y1 W) (o : Obj) : Cut w d0 d1 A B x0 x1 y0 y1 (W.alloc o) := h.on ((Below.refl _ _).alloc (Nat.le_refl _) o)
theorem Cut.drew {w W : World} {d0 d1 x0 x1 y0 y1 : Int} {A B : Nat} (h : Cut w d0 d1 A B x0 x1 y0 y1 W) : Cut w d0 d1 A B x0 x1 y0 y1 W.drew := ⟨h.base.drew, h.a, h.b, h.zA, h.zB, h.fA, h.fB⟩
theorem Cut.put {w W : World} {d0 d1 x0 x1 y0 y1 : Int} {A B : Nat} (h : Cut w d0 d1 A B x0 x1 y0 y1 W) (c i : Nat) (hc : w.heap.size < c) (hA : c ≠ A) (hB : c ≠ B) (v : Value) : Cut w d0 d1 A B x0 x1 y0 y1 (W.setCell ⟨c, i, none⟩ v) :=
  ⟨h.base.put c i hc v, h.a.far _ hA _, h.b.far _ hB _, by simpa [World.setCell] using h.zA, by simpa [World.setCell] using h.zB, h.fA, h.fB⟩
theorem cut_new {w W : World} {d0 d1 : Int} (h : Base w d0 d1 W) (x0 x1 y0 y1 : Int) : Cut w d0 d1 W.heap.size (W.heap.size + 1) x0 x1 y0 y1 ((W.alloc (.cells #[.int .u64 x0, .int .u64 x1] 24)).alloc (.cells #[.int .u64 y0, .int .u64 y1] 24)) := by
  have g := Two.fresh (W.alloc (.cells #[.int .u64 x0, .int .u64 x1] 24)) y0 y1 24
  rw [World.size_alloc] at g
  have hs := h.size
  exact ⟨(h.alloc _).alloc _, (Two.fresh W x0 x1 24).alloc (by simp) _, g, by simp; omega, by simp, hs, by omega⟩
theorem Cut.swap {w W : World} {d0 d1 x0 x1 y0 y1 : Int} {A B : Nat} (h : Cut w d0 d1 A B x0 x1 y0 y1 W) : Cut w d0 d1 B A y0 y1 x0 x1 W := ⟨h.base, h.b, h.a, h.zB, h.zA, h.fB, h.fA⟩
theorem cut_mid {w W : World} {d0 d1 : Int} {A : Nat} (h : Base w d0 d1 W) (R : Two W A 0 0) (hA : w.heap.size < A) (hA2 : A < W.heap.size) (x0 x1 y0 y1 : Int) :
    Cut w d0 d1 A W.heap.size x0 x1 y0 y1 (((W.setCell ⟨A, 0, none⟩ (.int .u64 x0)).setCell ⟨A, 1, none⟩ (.int .u64 x1)).alloc (.cells #[.int .u64 y0, .int .u64 y1] 24)) := by
  have h2 := (h.put A 0 hA (.int .u64 x0)).put A 1 hA (.int .u64 x1)
  have g := Two.fresh ((W.setCell ⟨A, 0, none⟩ (.int .u64 x0)).setCell ⟨A, 1, none⟩ (.int .u64 x1)) y0 y1 24
  have hz : ((W.setCell ⟨A, 0, none⟩ (.int .u64 x0)).setCell ⟨A, 1, none⟩ (.int .u64 x1)).heap.size = W.heap.size := by simp [World.setCell]
  rw [hz] at g
  have hs := h.size
  exact ⟨h2.alloc _, ((R.set0 x0).set1 x1).alloc (by rw [hz]; exact hA2) _, g, by rw [World.size_alloc, hz]; omega, by rw [World.size_alloc, hz]; omega, hA, hs⟩
theorem cut_old {w W : World} {d0 d1 : Int} {A B : Nat} (h : Base w d0 d1 W) (R : Two W A 0 0) (R2 : Two W B 0 0) (hA : w.heap.size < A) (hA2 : A < W.heap.size) (hB : w.heap.size < B) (hB2 : B < W.heap.size) (hne : A ≠ B) (x0 x1 y0 y1 : Int) :
    Cut w d0 d1 A B x0 x1 y0 y1 ((((W.setCell ⟨A, 0, none⟩ (.int .u64 x0)).setCell ⟨A, 1, none⟩ (.int .u64 x1)).setCell ⟨B, 0, none⟩ (.int .u64 y0)).setCell ⟨B, 1, none⟩ (.int .u64 y1)) := by
  have h2 := (((h.put A 0 hA (.int .u64 x0)).put A 1 hA (.int .u64 x1)).put B 0 hB (.int .u64 y0)).put B 1 hB (.int .u64 y1)
  exact ⟨h2, (((R.set0 x0).set1 x1).far _ (by show B ≠ A; omega) _).far _ (by show B ≠ A; omega) _, (((R2.far _ (by show A ≠ B; omega) _).far _ (by show A ≠ B; omega) _).set0 y0).set1 y1, by simpa [World.setCell] using hA2, by simpa [World.setCell] using hB2, hA, hB⟩

/-- The digest's box and three variables', in a later world. -/
structure Cut3 (w : World) (d0 d1 : Int) (A B C : Nat) (x0 x1 y0 y1 r0 r1 : Int) (W : World) : Prop where
  cut : Cut w d0 d1 A B x0 x1 y0 y1 W
  c : Two W C r0 r1
  zC : C < W.heap.size
theorem Cut3.on {w W W' : World} {d0 d1 x0 x1 y0 y1 r0 r1 : Int} {A B C : Nat} (h : Cut3 w d0 d1 A B C x0 x1 y0 y1 r0 r1 W) (hB : Below W.heap.size W W') : Cut3 w d0 d1 A B C x0 x1 y0 y1 r0 r1 W' :=
  ⟨h.cut.on hB, h.c.below hB h.zC, Nat.lt_of_lt_of_le h.zC hB.size⟩
theorem Cut3.drew {w W : World} {d0 d1 x0 x1 y0 y1 r0 r1 : Int} {A B C : Nat} (h : Cut3 w d0 d1 A B C x0 x1 y0 y1 r0 r1 W) : Cut3 w d0 d1 A B C x0 x1 y0 y1 r0 r1 W.drew := ⟨h.cut.drew, h.c, h.zC⟩
theorem Cut.more {w W : World} {d0 d1 x0 x1 y0 y1 : Int} {A B : Nat} (h : Cut w d0 d1 A B x0 x1 y0 y1 W) (r0 r1 : Int) : Cut3 w d0 d1 A B W.heap.size x0 x1 y0 y1 r0 r1 (W.alloc (.cells #[.int .u64 r0, .int .u64 r1] 24)) :=
  ⟨h.alloc _, Two.fresh W r0 r1 24, by simp⟩
theorem Cut.more2 {w W : World} {d0 d1 x0 x1 y0 y1 : Int} {A B C : Nat} (h : Cut w d0 d1 A B x0 x1 y0 y1 W) (R : Two W C 0 0) (hC : w.heap.size < C) (hC2 : C < W.heap.size) (hA : C ≠ A) (hB : C ≠ B) (r0 r1 : Int) : Cut3 w d0 d1 A B C x0 x1 y0 y1 r0 r1 ((W.setCell ⟨C, 0, none⟩ (.int .u64 r0)).setCell ⟨C, 1, none⟩ (.int .u64 r1)) :=
  ⟨(h.put C 0 hC hA hB _).put C 1 hC hA hB _, (R.set0 r0).set1 r1, by simpa [World.setCell] using hC2⟩
/-- What the loads of a comparison read. -/
theorem Cut3.cells {w W : World} {d0 d1 x0 x1 y0 y1 r0 r1 : Int} {A B C : Nat} (h : Cut3 w d0 d1 A B C x0 x1 y0 y1 r0 r1 W) {b o : Nat} {p0 p1 : Int} (hb : b < w.heap.size) (e0 : w.cell? ⟨b, o, none⟩ = some (.int .u64 p0)) (e1 : w.cell? ⟨b, o + 1, none⟩ = some (.int .u64 p1)) :
    W.cell? ⟨A, 0, none⟩ = some (.int .u64 x0) ∧ W.cell? ⟨A, 1, none⟩ = some (.int .u64 x1) ∧ W.cell? ⟨B, 0, none⟩ = some (.int .u64 y0) ∧ W.cell? ⟨B, 1, none⟩ = some (.int .u64 y1) ∧ W.cell? ⟨C, 0, none⟩ = some (.int .u64 r0) ∧ W.cell? ⟨C, 1, none⟩ = some (.int .u64 r1) ∧ W.cell? ⟨b, o, none⟩ = some (.int .u64 p0) ∧ W.cell? ⟨b, o + 1, none⟩ = some (.int .u64 p1) :=
  ⟨h.cut.a.1, h.cut.a.2.1, h.cut.b.1, h.cut.b.2.1, h.c.1, h.c.2.1, (h.cut.base.below.cell (p := ⟨b, o, none⟩) hb).trans e0, (h.cut.base.below.cell (p := ⟨b, o + 1, none⟩) hb).trans e1⟩
end Go.Proofs.Ytamhokedekhocaa
