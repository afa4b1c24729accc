/- A range over a function whose iterator takes steps of its own on the heap: 'Rel' says which; what the loop's body relies on must abide them. -/
import Derived.RangeFuncNested
import Derived.RangeFuncBound
import Derived.RangeFuncCalls
import Derived.RangeFuncLeaves
import Derived.RangeFuncBox
import Derived.Shelf.Abstract
import Derived.Shelf.RegionOpen
import Derived.WalkKit
import Derived.OwnWalkIn
import Derived.TacticsInMore
import Derived.LoopNIn
import Derived.LoopIn
namespace Go.Proofs.Ytiaahjoldahlnaa.Cd
open Go.RowKit
variable {P : Program} {F : Fence} {n : Nat}

/-- The contract of an iterator value that takes steps of its own: 'Rel' are these steps, 'Kp' is what a round that goes on must keep. -/
def SeqR {α : Type} (F : Fence) (n : Nat) (P : Program) (g : Nat) (lb : Array Value) (encs : α → Array Value) (Kp Rel : World → World → Prop) (S Sp : List α → Prop) (N : Nat) (w : World) : Prop :=
  ∀ (l : Nat) (J Jx : List α → World → Prop) (W : World), Below w.heap.size w W → (∀ s A B, J s A → Rel A B → J s B) → (∀ s A B, Jx s A → Rel A B → Jx s B) →
    (∀ pre x W1, J pre W1 → pre.length < N → YieldAt F (n - 1) P l (encs x) W1 fun e W' =>
      (e = .returned (.bool true) ∧ J (pre ++ [x]) W' ∧ Kp W1 W') ∨ (e = .returned (.bool false) ∧ Jx (pre ++ [x]) W')) →
    J [] W →
    CallsIn F n P g (#[.func (.yield l) #[] #[]] ++ lb) W fun e W' => (∃ v, e = .returned v) ∧ ((∃ xs, S xs ∧ J xs W') ∨ (∃ pre, Sp pre ∧ Jx pre W'))

theorem rangeFunc_rel {α : Type} {g : Operand} {ps : Array Tmp} {assign body : Code} {Q : Exit → Act → World → Prop} {a : Act} {w : World}
    (hro : F.round = none) (h1 : 1 ≤ n) {gf : Nat} {lb : Array Value} (hg : a.eval g = .func (.func gf) #[] lb) (hFg : F.fn gf) (eg : ∀ args w, (callFunc gf args).run P w = .ok (.enter gf args) w)
    {encs : α → Array Value} {Kp Rel : World → World → Prop} {S Sp : List α → Prop} {N : Nat} {w0 : World} (hseq : SeqR F (n - 1) P gf lb encs Kp Rel S Sp N w0)
    (hKt : ∀ {A B C : World}, Kp A B → Kp B C → Kp A C) (hKb : ∀ (W : World) (l : Nat) (o o' : Obj), w.heap.size ≤ l → W.heap[l]? = some o → o.isCells = false → o.isWalk = false → Kp W (W.putObj l o'))
    (hRk : ∀ (A B : World) (k : Nat) (o : Obj), w.heap.size ≤ k → k < w.heap.size + 2 → A.heap[k]? = some o → Rel A B → B.heap[k]? = some o)
    (hb0 : Below w0.heap.size w0 w) (hps : ∀ x, (encs x).size = ps.size)
    (I : List α → World → Prop) (Ix : Code → List α → World → Prop) (hI : OwnFrom w.heap.size I) (hIx : ∀ c, OwnFrom w.heap.size (Ix c)) (hRI : ∀ s A B, I s A → Rel A B → I s B) (hRx : ∀ c s A B, Ix c s A → Rel A B → Ix c s B) (h0 : I [] w) (a₁ : α → Act)
    (hassign : ∀ (l : Nat) (x : α) (W : World) (K : Act → World → Prop), K (a₁ x) W →
      assign.wpIn (F.inRound l) (n - 1 - 1) P (Exit.then K (fun _ _ _ => False)) { tmps := (ps.zip (encs x)).foldl (fun t (p, v) => t.setIfInBounds p v) a.tmps, defers := [] } W)
    (hbody : ∀ (l : Nat) (pre : List α) (x : α) (W : World), I pre W → pre.length < N → body.wpIn (F.inRound l) (n - 1 - 1) P (ownPostG w.heap.size Kp I Ix (pre ++ [x]) W) (a₁ x) W)
    (hdone : ∀ (D : Nat) (xs : List α) (W : World), w.heap.size ≤ D → S xs → I xs W → W.heap[D]? = some (.deferred (some [])) → Q .normal { a with defers := { target := .collected D, args := #[] } :: a.defers } W)
    (hstop : ∀ (D : Nat) (c : Code) (pre : List α) (W : World), w.heap.size ≤ D → Sp pre → Ix c pre W → W.heap[D]? = some (.deferred (some [])) → c.wpIn F n P Q { a with defers := { target := .collected D, args := #[] } :: a.defers } W) :
    (Code.rangeFunc g ps assign body).wpIn F n P Q a w := by
  refine wpIn_rangeFunc fun fn hfn => ?_
  rw [hro]
  -- the loop's record in each of its states
  obtain ⟨rc, hrc⟩ : ∃ rc : LoopState → Option Code → Loop, rc = fun st pe => { state := st, pending := pe, fn, tmps := a.tmps, params := ps, assign, body, defers := w.heap.size } := ⟨_, rfl⟩
  have s1 : (w.alloc (.deferred (some []))).heap.size = w.heap.size + 1 := World.size_alloc _ _
  generalize hX : (w.alloc (.deferred (some []))).alloc (.loop (rc .ready none)) = X
  have hXl : X.heap[w.heap.size + 1]? = some (.loop (rc .ready none)) := by rw [← hX, ← s1]; exact World.alloc_heap_new _ _
  have hXd : X.heap[w.heap.size]? = some (.deferred (some [])) := by rw [← hX]; exact (Below.heap_alloc _ _ _ (by omega)).trans (World.alloc_heap_new w _)
  have hXI : I [] X := by rw [← hX]; exact hI.alloc _ (hI.alloc _ h0)
  have hXb : Below w0.heap.size w0 X := by rw [← hX]; exact (hb0.alloc hb0.size _).alloc (by have := hb0.size; omega) _
  refine ⟨w.heap.size + 1, [{ target := .collected w.heap.size, args := #[] }], X, { target := .fn (.func gf) lb, args := #[.func (.yield (w.heap.size + 1)) #[] #[]] }, X, gf, #[.func (.yield (w.heap.size + 1)) #[] #[]] ++ lb, X, ?_, ?_, ?_, ?_, fun _ => h1, ?_⟩
  · rw [← hX, hrc]; exact run_enterLoop_outer _ _ _ _ _
  · simp only [resolve, hg]; simp [go_sem]
  · intro f' hf'; simp [Target.leads] at hf'; exact hf' ▸ hFg
  · simp [invoke, go_sem, eg]
  refine (hseq (w.heap.size + 1)
    (fun s W => I s W ∧ W.heap[w.heap.size + 1]? = some (.loop (rc .ready none)) ∧ W.heap[w.heap.size]? = some (.deferred (some [])))
    (fun s W => ∃ c, Ix c s W ∧ W.heap[w.heap.size + 1]? = some (.loop (rc .done (some c))) ∧ W.heap[w.heap.size]? = some (.deferred (some [])))
    X hXb (fun s A B ⟨hi, hl, hd⟩ hr => ⟨hRI s A B hi hr, hRk A B _ _ (by omega) (by omega) hl hr, hRk A B _ _ (by omega) (by omega) hd hr⟩)
    (fun s A B ⟨c, hi, hl, hd⟩ hr => ⟨c, hRx c s A B hi hr, hRk A B _ _ (by omega) (by omega) hl hr, hRk A B _ _ (by omega) (by omega) hd hr⟩) ?round ⟨hXI, hXl, hXd⟩).mono ?behind
  case round =>
    rintro s x W ⟨hi, hl, hd⟩ hN
    have hin : w.heap.size + 1 < W.heap.size := (Array.getElem?_eq_some_iff.1 hl).1
    have hy := run_yield (P := P) (args := encs x) hl (by rw [hrc]; exact hps x)
    rw [hrc] at hy
    refine ⟨fn, _, assign, body, hy, roundIn_of_wpIn hfn (hassign _ x W _ ⟨_, run_beginRound hl (by rw [hrc]), ?_⟩)⟩
    generalize hV : W.putObj (w.heap.size + 1) (.loop { rc .ready none with state := .busy }) = V
    have hVl : V.heap[w.heap.size + 1]? = some (.loop { rc .ready none with state := .busy }) := by rw [← hV]; exact World.putObj_heap_same hin
    have hVd : V.heap[w.heap.size]? = some (.deferred (some [])) := by rw [← hV]; exact (World.putObj_heap_other (by omega)).trans hd
    have hVI : I s V := by rw [← hV]; exact hI.putObj _ hi (by omega) hl rfl
    have hVk : Kp W V := by rw [← hV]; exact hKb _ _ _ _ (by omega) hl rfl rfl
    refine wpIn_mono (hbody _ s x V hVI hN) ?_
    -- how a round's end leaves the record
    have fin : ∀ (j : Option Code) (Z : World), KeepsFrom w.heap.size V Z → (Instr.endRound (w.heap.size + 1) j).run P Z = .ok (.bool j.isNone) (Z.putObj (w.heap.size + 1) (.loop (rc (if j.isNone then .ready else .done) j))) ∧
        Z.heap[w.heap.size + 1]? = some (.loop { rc .ready none with state := .busy }) ∧ (Z.putObj (w.heap.size + 1) (.loop (rc (if j.isNone then .ready else .done) j))).heap[w.heap.size + 1]? = some (.loop (rc (if j.isNone then .ready else .done) j)) ∧
        (Z.putObj (w.heap.size + 1) (.loop (rc (if j.isNone then .ready else .done) j))).heap[w.heap.size]? = some (.deferred (some [])) := by
      intro j Z hk
      have hZl := hk.same _ _ (by omega) hVl rfl
      have hZd := hk.same _ _ (Nat.le_refl _) hVd rfl
      have hrun := run_endRound (P := P) j hZl
      rw [hrc] at hrun
      refine ⟨by rw [hrc]; exact hrun, hZl, World.putObj_heap_same (Array.getElem?_eq_some_iff.1 hZl).1, (World.putObj_heap_other (by omega)).trans hZd⟩
    intro e b Z hp
    cases e with
    | normal =>
      obtain ⟨hk, hkp, hz⟩ := hp
      obtain ⟨f1, f2, f3, f4⟩ := fin none Z hk
      exact ⟨_, _, f1, .inl ⟨rfl, ⟨hI.putObj _ hz (by omega) f2 rfl, f3, f4⟩, hKt (hKt hVk hkp) (hKb _ _ _ _ (by omega) f2 rfl rfl)⟩⟩
    | ret =>
      obtain ⟨hk, hz⟩ := hp
      obtain ⟨f1, f2, f3, f4⟩ := fin (some .ret) Z hk
      exact ⟨_, _, f1, .inr ⟨rfl, .ret, (hIx _).putObj _ hz (by omega) f2 rfl, f3, f4⟩⟩
    | exit id =>
      obtain ⟨hk, hz⟩ := hp
      obtain ⟨f1, f2, f3, f4⟩ := fin (some (.exit id)) Z hk
      exact ⟨_, _, f1, .inr ⟨rfl, .exit id, (hIx _).putObj _ hz (by omega) f2 rfl, f3, f4⟩⟩
    | goto t =>
      obtain ⟨hk, hz⟩ := hp
      obtain ⟨f1, f2, f3, f4⟩ := fin (some (.goto t)) Z hk
      exact ⟨_, _, f1, .inr ⟨rfl, .goto t, (hIx _).putObj _ hz (by omega) f2 rfl, f3, f4⟩⟩
    | panic _ => exact hp.elim
    | outgrown => exact hp.elim
  case behind =>
    rintro e Z ⟨⟨v, rfl⟩, ⟨xs, hS, hz, hl, hd⟩ | ⟨s, hSp, c, hz, hl, hd⟩⟩
    · have hrun := run_endLoop (P := P) hl (by rw [hrc]; simp)
      rw [hrc] at hrun
      exact ⟨none, _, hrun, hdone _ xs _ (Nat.le_refl _) hS (hI.putObj _ hz (by omega) hl rfl) ((World.putObj_heap_other (by omega)).trans hd)⟩
    · have hrun := run_endLoop (P := P) hl (by rw [hrc]; simp)
      rw [hrc] at hrun
      exact ⟨some c, _, hrun, hstop _ c s _ (Nat.le_refl _) hSp ((hIx c).putObj _ hz (by omega) hl rfl) ((World.putObj_heap_other (by omega)).trans hd)⟩
end Go.Proofs.Ytiaahjoldahlnaa.Cd
