/- A range over a function whose iterator takes steps of its own on the heap, in K blocks of its own: what the loop's body relies on must abide them. -/
import Derived.RangeFuncNested
import Derived.RangeFuncBound
import Derived.RangeFuncCalls
import Derived.RangeFuncLeaves
import Derived.RangeFuncBox
import Derived.Shelf.Abstract
import Derived.Shelf.RegionOpen
import Derived.WalkKit
import Derived.OwnWalkIn
import Derived.TacticsInMore
import Derived.LoopNIn
import Derived.LoopIn
namespace Go.Proofs.Ytcdnhnbigincpaa
open Go.RowKit
variable {P : Program} {F : Fence} {n : Nat}

/-- Steps of the iterator's own: nothing that lay there has turned but for the K blocks from N on. -/
def RelK (N K : Nat) (A B : World) : Prop := Below 0 A B ∧ ∀ k, k < A.heap.size → ¬ (N ≤ k ∧ k < N + K) → B.heap[k]? = A.heap[k]?
/-- What a round keeps: what the iterator has captured, and the blocks of its own. -/
def KpX (C : Nat → Prop) (N K : Nat) (A B : World) : Prop := A.heap.size ≤ B.heap.size ∧ ∀ k, C k ∨ (N ≤ k ∧ k < N + K) → B.heap[k]? = A.heap[k]?
theorem RelK.refl (N K : Nat) (A : World) : RelK N K A A := ⟨Below.refl _ _, fun _ _ _ => rfl⟩
theorem RelK.trans {N K : Nat} {A B D : World} (h : RelK N K A B) (k : RelK N K B D) : RelK N K A D :=
  ⟨h.1.trans k.1, fun i hi hn => (k.2 i (Nat.lt_of_lt_of_le hi h.1.size) hn).trans (h.2 i hi hn)⟩
theorem RelK.mono {N K N' K' : Nat} {A B : World} (h : RelK N K A B) (h1 : N' ≤ N) (h2 : N + K ≤ N' + K') : RelK N' K' A B :=
  ⟨h.1, fun i hi hn => h.2 i hi (by omega)⟩
theorem RelK.drew (N K : Nat) (A : World) : RelK N K A A.drew := ⟨(Below.refl _ _).drew, fun _ _ _ => rfl⟩
theorem RelK.below {N K n : Nat} {w A B : World} (h : Below n w A) (hr : RelK N K A B) (hn : n ≤ N) (hz : n ≤ A.heap.size) : Below n w B :=
  ⟨hr.1.os.trans h.os, hr.1.tape.trans h.tape, hr.1.output.trans h.output, Nat.le_trans h.size hr.1.size, fun k hk => (hr.2 k (by omega) (by omega)).trans (h.block k hk)⟩
theorem KpX.trans {C : Nat → Prop} {N K : Nat} {A B D : World} (h : KpX C N K A B) (k : KpX C N K B D) : KpX C N K A D :=
  ⟨Nat.le_trans h.1 k.1, fun i hi => (k.2 i hi).trans (h.2 i hi)⟩

/-- The contract of an iterator value that yields a list of its own: 'C' are the blocks that it has captured, 'K' is the number of blocks that it lays and writes. -/
def SeqX {α : Type} (F : Fence) (n : Nat) (P : Program) (g : Nat) (lb : Array Value) (encs : α → Array Value) (C : Nat → Prop) (K : Nat) (full : List α) (w : World) : Prop :=
  ∀ (l : Nat) (J Jx : List α → World → Prop) (W : World), Below w.heap.size w W → (∀ s A B, J s A → RelK W.heap.size K A B → J s B) → (∀ s A B, Jx s A → RelK W.heap.size K A B → Jx s B) →
    (∀ pre x suf W1, full = pre ++ x :: suf → J pre W1 → W.heap.size + K ≤ W1.heap.size → YieldAt F (n - 1) P l (encs x) W1 fun e W' =>
      (e = .returned (.bool true) ∧ J (pre ++ [x]) W' ∧ KpX C W.heap.size K W1 W') ∨ (e = .returned (.bool false) ∧ Jx (pre ++ [x]) W' ∧ KpX C W.heap.size K W1 W')) →
    J [] W →
    CallsIn F n P g (#[.func (.yield l) #[] #[]] ++ lb) W fun e W' => (∃ v, e = .returned v) ∧ (J full W' ∨ ∃ pre, Jx pre W')

end Go.Proofs.Ytcdnhnbigincpaa
