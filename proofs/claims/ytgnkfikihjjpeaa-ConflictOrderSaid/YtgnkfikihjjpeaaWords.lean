/- Slices of strings and sums in memory, at this translation. -/
import Derived.Test.YtgnkfikihjjpeaaChecked
import Derived.Test.YtgnkfikihjjpeaaMath
import Derived.Lib.Hide
import Derived.Maps.AppendAt
import Derived.OneCell
import Derived.KernelRfl
import Derived.RangeFuncBox
import Derived.Great.Walk
import Derived.Deep.RegionLaw
namespace Go.Proofs.Ytgnkfikihjjpeaa
open Go.RowKit Go.Great

def rowS (L : List ByteArray) : List Value := L.map Value.string
theorem rowS_length (L : List ByteArray) : (rowS L).length = L.length := by simp [rowS]
theorem rowS_get (L : List ByteArray) (j : Nat) (h : j < L.length) : (rowS L)[j]? = some (.string L[j]) := by simp [rowS, h]
/-- A slice whose cells are these strings. -/
def IsStrs (w : World) (v : Value) (L : List ByteArray) : Prop :=
  ∃ a cap, v = .slice a L.length cap ∧ L.length ≤ maxLen ∧ L.length ≤ cap ∧ (L = [] ∨ ∃ b off, a = some ⟨b, off, none⟩ ∧ b < w.heap.size ∧ ∀ j (h : j < L.length), w.cell? ⟨b, off + j, none⟩ = some (.string L[j]))
theorem IsStrs.below {w w' : World} {v : Value} {L : List ByteArray} {B : Nat} (h : IsStrs w v L) (hB : Below B w w') (hz : w.heap.size ≤ B) : IsStrs w' v L := by
  obtain ⟨a, cap, e, h1, h2, h3⟩ := h
  refine ⟨a, cap, e, h1, h2, h3.imp id ?_⟩
  rintro ⟨b, off, e2, hb, hj⟩
  exact ⟨b, off, e2, Nat.lt_of_lt_of_le hb hB.size, fun j h => (hB.cell (p := ⟨b, off + j, none⟩) (show b < B by omega)).trans (hj j h)⟩
theorem isStrs_nil (w : World) : IsStrs w (.slice none 0 0) [] := ⟨none, 0, rfl, Nat.zero_le _, Nat.zero_le _, .inl rfl⟩
theorem own_strs {w : World} {B m : Nat} {v : Value} {L : List ByteArray} (h : w.ownsRow B 9 1 v m (rowS L)) (hm : L.length = m) (hl : m ≤ maxLen) : IsStrs w v L := by
  subst hm
  have h0 := h
  obtain ⟨_, ⟨rfl, e⟩ | ⟨g, cap, cur, rfl, hb, hcur, hn, hcap, hsz, _⟩⟩ := h
  · rw [List.length_eq_zero_iff.1 e]; exact isStrs_nil w
  · refine ⟨_, cap, rfl, hl, hn, .inr ⟨g, 0, rfl, (Array.getElem?_eq_some_iff.1 hcur).1, fun j hj => ?_⟩⟩
    have := h0.cellAt j (by omega)
    rw [Nat.zero_add, this, rowS_get L j hj]
theorem own_move {w W' : World} {B m : Nat} {e : TypeId} {v : Value} {xs : List Value} (h : w.ownsRow B e 1 v m xs) (hk : ∀ k, B ≤ k → k < w.heap.size → W'.heap[k]? = w.heap[k]?) : W'.ownsRow B e 1 v m xs := by
  refine ⟨h.1, h.2.imp id ?_⟩
  rintro ⟨g, cap, cur, e, hg, hh, h3⟩
  exact ⟨g, cap, cur, e, hg, (hk g hg (Array.getElem?_eq_some_iff.1 hh).1).trans hh, h3⟩
theorem ownsRow_setCell_below {W : World} {B : Nat} {e : TypeId} {v : Value} {n : Nat} {xs : List Value} (h : W.ownsRow B e 1 v n xs) {N : Nat} (hN : N < B) (u : Value) : (W.setCell ⟨N, 0, none⟩ u).ownsRow B e 1 v n xs := by
  refine ⟨h.1, h.2.imp id ?_⟩
  rintro ⟨g, cap, cur, e, hg, hh, h3⟩
  exact ⟨g, cap, cur, e, hg, (Below.heap_setCell W ⟨N, 0, none⟩ u g (by show g ≠ N; omega)).trans hh, h3⟩
/-- Behind 'y = append(y, d)', where y's box lies below the rows that the call may own: the box holds the longer row, other boxes and all below are as they were. -/
theorem box_appended {W w1 : World} {base yb : Nat} {t e : TypeId} {k m : Nat} {v v' : Value} {xs ys : List Value} {tmp : Obj} (hy : Boxed W yb t v) (ho : W.ownsRow base e 1 v k xs) (hyb : yb < base) (hz : base ≤ W.heap.size)
    (hown' : w1.ownsRow base e 1 v' m ys) (hgrow : (W.alloc tmp).grownBy w1 v.ownBlock) :
    Boxed w1 yb t v ∧ (∀ j, j < base → w1.heap[j]? = W.heap[j]?) ∧ Boxed (w1.setCell ⟨yb, 0, none⟩ v') yb t v' ∧ (w1.setCell ⟨yb, 0, none⟩ v').ownsRow base e 1 v' m ys ∧
      (∀ j, j < base → j ≠ yb → (w1.setCell ⟨yb, 0, none⟩ v').heap[j]? = W.heap[j]?) ∧ Below yb W (w1.setCell ⟨yb, 0, none⟩ v') ∧ W.heap.size ≤ (w1.setCell ⟨yb, 0, none⟩ v').heap.size := by
  have h1 : ∀ j, j < base → w1.heap[j]? = W.heap[j]? := fun j hj => by
    rw [hgrow.block j (by rw [World.size_alloc]; omega) ?_]
    · exact Below.heap_alloc W tmp j (by omega)
    · intro e
      have := (ho.lt j e.symm).1
      omega
  have h2 : Boxed w1 yb t v := (h1 yb hyb).trans hy
  have hb : Below yb W (w1.setCell ⟨yb, 0, none⟩ v') := by
    refine (((Below.refl yb W).alloc (by omega) tmp).grown hgrow (by simp; omega) fun j ej => ?_).setCell (p := ⟨yb, 0, none⟩) (Nat.le_refl _) v'
    have := (ho.lt j ej).1
    omega
  exact ⟨h2, h1, h2.set v', ownsRow_setCell_below hown' hyb v', fun j hj hne => (Below.heap_setCell w1 _ v' j hne).trans (h1 j hj), hb, hb.size⟩


theorem info9 : (Try.prog.info? 9).map (fun i => (i.zero, i.size, i.bytes)) = some (some (.string ⟨#[]⟩), 1, 16) := by kernel_rfl
theorem below_drewN {B : Nat} {w W : World} (h : Below B w W) (n : Nat) : Below B w (W.drewN n) := ⟨h.os, h.tape, h.output, h.size, h.block⟩

/-- A sum by value. -/
abbrev sv (a r : Value) : Value := .agg #[a, r]
/-- A sum that reads so. -/
structure IsSum (w : World) (a r : Value) (S : Sm) : Prop where
  a : IsStrs w a S.A
  r : IsStrs w r S.R
theorem IsSum.below {w w' : World} {a r : Value} {S : Sm} {B : Nat} (h : IsSum w a r S) (hB : Below B w w') (hz : w.heap.size ≤ B) : IsSum w' a r S := ⟨h.1.below hB hz, h.2.below hB hz⟩
/-- A box with a sum. -/
def SBox (W : World) (B : Nat) (a r : Value) : Prop := W.heap[B]? = some (.cells #[a, r] 24 (0, 0))
theorem SBox.lt {W : World} {B : Nat} {a r : Value} (h : SBox W B a r) : B < W.heap.size := (Array.getElem?_eq_some_iff.1 h).1
theorem SBox.c0 {W : World} {B : Nat} {a r : Value} (h : SBox W B a r) : W.cell? ⟨B, 0, none⟩ = some a := by simp [World.cell?, show W.heap[B]? = _ from h]
theorem SBox.c1 {W : World} {B : Nat} {a r : Value} (h : SBox W B a r) : W.cell? ⟨B, 1, none⟩ = some r := by simp [World.cell?, show W.heap[B]? = _ from h]
theorem SBox.f0 {W : World} {B : Nat} {a r : Value} (h : SBox W B a r) (j : Nat) : W.frozen? ⟨B, j, none⟩ = false := by simp [World.frozen?, show W.heap[B]? = _ from h]
theorem SBox.new (W : World) (a r : Value) : SBox (W.alloc (.cells #[a, r] 24)) W.heap.size a r := World.alloc_heap_new W _
theorem SBox.below {W W' : World} {B N : Nat} {a r : Value} (h : SBox W B a r) (hB : Below N W W') (hz : B < N) : SBox W' B a r := (hB.block B hz).trans h
theorem SBox.alloc {W : World} {B : Nat} {a r : Value} (h : SBox W B a r) (o : Obj) : SBox (W.alloc o) B a r := (Below.heap_alloc W o B h.lt).trans h
theorem SBox.drew {W : World} {B : Nat} {a r : Value} (h : SBox W B a r) : SBox W.drew B a r := h
theorem SBox.set0 {W : World} {B : Nat} {a r : Value} (h : SBox W B a r) (x : Value) : SBox (W.setCell ⟨B, 0, none⟩ x) B x r := by
  unfold SBox at h ⊢
  rw [setCell_eq_setRow W B 0 _ 24 (0, 0) _ h]
  exact setRow_heap W B _ _ 24 _ h
theorem SBox.set1 {W : World} {B : Nat} {a r : Value} (h : SBox W B a r) (x : Value) : SBox (W.setCell ⟨B, 1, none⟩ x) B a x := by
  unfold SBox at h ⊢
  rw [setCell_eq_setRow W B 1 _ 24 (0, 0) _ h]
  exact setRow_heap W B _ _ 24 _ h
theorem SBox.other {W : World} {B : Nat} {a r : Value} (h : SBox W B a r) {g : Nat} (hne : B ≠ g) (o : Nat) (v : Value) : SBox (W.setCell ⟨g, o, none⟩ v) B a r := (Below.heap_setCell W ⟨g, o, none⟩ v B hne).trans h
end Go.Proofs.Ytgnkfikihjjpeaa
