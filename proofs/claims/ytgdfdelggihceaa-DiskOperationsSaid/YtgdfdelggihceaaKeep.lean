/- Where a disk's data lies: what blocks may change and leave it as it is. -/
import Derived.Test.YtgdfdelggihceaaWords
namespace Go.Proofs.Ytgdfdelggihceaa
open Go.RowKit

/-- The disk's data lies outside of the blocks from lo on below hi. -/
def FreeD (lo hi : Nat) (w : World) (v : Value) (D : Dk) : Prop :=
  ∀ W', w.heap.size ≤ W'.heap.size → (∀ k, k < w.heap.size → (k < lo ∨ hi ≤ k) → W'.heap[k]? = w.heap[k]?) → IsDisk W' v D
theorem FreeD.disk {lo hi : Nat} {w : World} {v : Value} {D : Dk} (h : FreeD lo hi w v D) : IsDisk w v D := h w (Nat.le_refl _) fun _ _ _ => rfl
theorem FreeD.below {lo hi : Nat} {w w' : World} {v : Value} {D : Dk} (h : FreeD lo hi w v D) {B : Nat} (hB : Below B w w') (hz : w.heap.size ≤ B) : FreeD lo hi w' v D :=
  fun W' h1 h2 => h W' (Nat.le_trans hB.size h1) fun k hk ho => (h2 k (Nat.lt_of_lt_of_le hk hB.size) ho).trans (hB.block k (by omega))
theorem FreeD.set {lo hi : Nat} {w : World} {v : Value} {D : Dk} (h : FreeD lo hi w v D) {N : Nat} (h1 : lo ≤ N) (h2 : N < hi) (o : Nat) (u : Value) : FreeD lo hi (w.setCell ⟨N, o, none⟩ u) v D :=
  fun W' s1 s2 => h W' (by simpa [World.setCell] using s1) fun k hk ho => (s2 k (by simpa [World.setCell] using hk) ho).trans (Below.heap_setCell w ⟨N, o, none⟩ u k (by show k ≠ N; omega))
theorem FreeD.set4 {lo hi : Nat} {w : World} {v : Value} {D : Dk} (h : FreeD lo hi w v D) {N : Nat} (h1 : lo ≤ N) (h2 : N < hi) (x0 x1 x2 x3 : Value) : FreeD lo hi (set4 w N x0 x1 x2 x3) v D :=
  (((h.set h1 h2 0 x0).set h1 h2 1 x1).set h1 h2 2 x2).set h1 h2 3 x3
/-- What came in lies below. -/
theorem free_old {w : World} {v : Value} {D : Dk} (h : IsDisk w v D) (hi : Nat) : FreeD w.heap.size hi w v D := by
  intro W' h1 h2
  exact h.below (B := w.heap.size) (w' := { W' with os := w.os, tape := w.tape, output := w.output }) ⟨rfl, rfl, rfl, h1, fun k hk => h2 k hk (.inl hk)⟩ (Nat.le_refl _)
theorem free_zero (lo hi : Nat) (w : World) : FreeD lo hi w (dv 0 (.slice none 0 0) (.slice none 0 0) 0) Dk.zero := fun W' _ _ => isDisk_zero W'
/-- What lay apart before lies apart behind. -/
def Keeps (w : World) (v : Value) (D : Dk) (w' : World) (v' : Value) (D' : Dk) : Prop := ∀ lo hi, hi ≤ w.heap.size → FreeD lo hi w v D → FreeD lo hi w' v' D'
theorem keeps_zero (w : World) (v : Value) (D : Dk) (w' : World) : Keeps w v D w' (dv 0 (.slice none 0 0) (.slice none 0 0) 0) Dk.zero := fun lo hi _ _ => free_zero lo hi w'
theorem keeps_same {w w' : World} {v : Value} {D : Dk} (hB : Below w.heap.size w w') : Keeps w v D w' v D := fun _ _ _ h => h.below hB (Nat.le_refl _)
/-- Data of new blocks alone. -/
def Firm (B : Nat) (w' : World) (v' : Value) (D' : Dk) : Prop := ∀ W', w'.heap.size ≤ W'.heap.size → (∀ k, B ≤ k → k < w'.heap.size → W'.heap[k]? = w'.heap[k]?) → IsDisk W' v' D'
theorem Firm.free {B : Nat} {w' : World} {v' : Value} {D' : Dk} (h : Firm B w' v' D') (lo hi : Nat) (hh : hi ≤ B) : FreeD lo hi w' v' D' :=
  fun W' h1 h2 => h W' h1 fun k hk hk2 => h2 k hk2 (.inr (by omega))
theorem Firm.keeps {w w' : World} {v v' : Value} {D D' : Dk} (h : Firm w.heap.size w' v' D') : Keeps w v D w' v' D' := fun lo hi hh _ => h.free lo hi hh
theorem Firm.disk {B : Nat} {w' : World} {v' : Value} {D' : Dk} (h : Firm B w' v' D') : IsDisk w' v' D' := h w' (Nat.le_refl _) fun _ _ _ => rfl
theorem Firm.mono {B C : Nat} {w' : World} {v' : Value} {D' : Dk} (h : Firm B w' v' D') (hC : C ≤ B) : Firm C w' v' D' := fun W' h1 h2 => h W' h1 fun k hk hk2 => h2 k (by omega) hk2
theorem Firm.move {B C : Nat} {w5 W6 : World} {v : Value} {D : Dk} (h : Firm B w5 v D) (hs : w5.heap.size ≤ W6.heap.size) (hk : ∀ k, B ≤ k → k < w5.heap.size → W6.heap[k]? = w5.heap[k]?) (hC : C ≤ B) : Firm C W6 v D :=
  fun W' h1 h2 => h W' (Nat.le_trans hs h1) fun k a b => (h2 k (by omega) (by omega)).trans (hk k a b)
end Go.Proofs.Ytgdfdelggihceaa
