/- A range over a function whose iterator takes steps of its own on the heap: the law that asks nothing of other loops' records. -/
import Derived.Test.YtcdnhnbigincpaaRange
namespace Go.Proofs.Ytcdnhnbigincpaa
open Go.RowKit
variable {P : Program} {F : Fence} {n : Nat}
theorem RelK.alloc (N K : Nat) (A : World) (o : Obj) : RelK N K A (A.alloc o) :=
  ⟨(Below.refl _ _).alloc (Nat.zero_le _) o, fun k hk _ => Below.heap_alloc A o k hk⟩
theorem RelK.putObj (N K : Nat) (A : World) (l : Nat) (o o' : Obj) (_ : A.heap[l]? = some o) (_ : o.isCells = false) (_ : o.isWalk = false) (h1 : N ≤ l) (h2 : l < N + K) : RelK N K A (A.putObj l o') :=
  ⟨(Below.refl 0 A).grown (grownBy_putObj' A l o') (Nat.zero_le _) (fun _ _ => Nat.zero_le _), fun k _ hn => World.putObj_heap_other (by omega)⟩
/-- How the body of a round may be left. -/
def ownPostY {α : Type} (N K : Nat) (C : Nat → Prop) (I : List α → World → Prop) (Ix : Code → List α → World → Prop) (xs : List α) (W : World) : Exit → Act → World → Prop
  | .normal, _, W' => KpX C N (K + 2) W W' ∧ I xs W'
  | .ret, _, W' => KpX C N (K + 2) W W' ∧ Ix .ret xs W'
  | .exit id, _, W' => KpX C N (K + 2) W W' ∧ Ix (.exit id) xs W'
  | .goto t, _, W' => KpX C N (K + 2) W W' ∧ Ix (.goto t) xs W'
  | .panic _, _, _ => False
  | .outgrown, _, _ => False

theorem rangeFunc_Y {α : Type} {g : Operand} {ps : Array Tmp} {assign body : Code} {Q : Exit → Act → World → Prop} {a : Act} {w : World}
    (hro : F.round = none) (h1 : 1 ≤ n) {gf : Nat} {lb : Array Value} (hg : a.eval g = .func (.func gf) #[] lb) (hFg : F.fn gf) (eg : ∀ args w, (callFunc gf args).run P w = .ok (.enter gf args) w)
    {encs : α → Array Value} {C : Nat → Prop} {K : Nat} {full : List α} {w0 : World} (hseq : SeqX F (n - 1) P gf lb encs C K full w0)
    (hC : ∀ k, C k → k < w.heap.size)
    (hb0 : Below w0.heap.size w0 w) (hps : ∀ x, (encs x).size = ps.size)
    (I : List α → World → Prop) (Ix : Code → List α → World → Prop) (hRI : ∀ s A B, I s A → RelK w.heap.size (K + 2) A B → I s B) (hRx : ∀ c s A B, Ix c s A → RelK w.heap.size (K + 2) A B → Ix c s B) (h0 : I [] w) (a₁ : α → Act)
    (hassign : ∀ (l : Nat) (x : α) (W : World) (K : Act → World → Prop), K (a₁ x) W →
      assign.wpIn (F.inRound l) (n - 1 - 1) P (Exit.then K (fun _ _ _ => False)) { tmps := (ps.zip (encs x)).foldl (fun t (p, v) => t.setIfInBounds p v) a.tmps, defers := [] } W)
    (hbody : ∀ (l : Nat) (pre : List α) (x : α) (suf : List α) (W : World), full = pre ++ x :: suf → I pre W → w.heap.size + 2 + K ≤ W.heap.size → body.wpIn (F.inRound l) (n - 1 - 1) P (ownPostY w.heap.size K C I Ix (pre ++ [x]) W) (a₁ x) W)
    (hdone : ∀ (D : Nat) (W : World), D = w.heap.size → I full W → W.heap[D]? = some (.deferred (some [])) → Q .normal { a with defers := { target := .collected D, args := #[] } :: a.defers } W)
    (hstop : ∀ (D : Nat) (c : Code) (pre : List α) (W : World), D = w.heap.size → Ix c pre W → W.heap[D]? = some (.deferred (some [])) → c.wpIn F n P Q { a with defers := { target := .collected D, args := #[] } :: a.defers } W) :
    (Code.rangeFunc g ps assign body).wpIn F n P Q a w := by
  refine wpIn_rangeFunc fun fn hfn => ?_
  rw [hro]
  -- the loop's record in each of its states
  obtain ⟨rc, hrc⟩ : ∃ rc : LoopState → Option Code → Loop, rc = fun st pe => { state := st, pending := pe, fn, tmps := a.tmps, params := ps, assign, body, defers := w.heap.size } := ⟨_, rfl⟩
  have s1 : (w.alloc (.deferred (some []))).heap.size = w.heap.size + 1 := World.size_alloc _ _
  generalize hX : (w.alloc (.deferred (some []))).alloc (.loop (rc .ready none)) = X
  have hXl : X.heap[w.heap.size + 1]? = some (.loop (rc .ready none)) := by rw [← hX, ← s1]; exact World.alloc_heap_new _ _
  have hXd : X.heap[w.heap.size]? = some (.deferred (some [])) := by rw [← hX]; exact (Below.heap_alloc _ _ _ (by omega)).trans (World.alloc_heap_new w _)
  have hXI : I [] X := by rw [← hX]; exact hRI _ _ _ (hRI _ _ _ h0 (RelK.alloc _ _ _ _)) (RelK.alloc _ _ _ _)
  have hXz : X.heap.size = w.heap.size + 2 := by rw [← hX, World.size_alloc, World.size_alloc]
  have hRk : ∀ (A B : World) (k : Nat) (o : Obj), w.heap.size ≤ k → k < w.heap.size + 2 → A.heap[k]? = some o → RelK X.heap.size K A B → B.heap[k]? = some o :=
    fun A B k o h1 h2 ha hr => (hr.2 k (Array.getElem?_eq_some_iff.1 ha).1 (by rw [hXz]; omega)).trans ha
  have hKb : ∀ (W : World) (l : Nat) (o' : Obj), w.heap.size ≤ l → l < w.heap.size + 2 → KpX C X.heap.size K W (W.putObj l o') :=
    fun W l o' hl hl2 => ⟨by simp [World.putObj], fun k hk => World.putObj_heap_other (by
      rcases hk with hk | hk
      · have := hC k hk; omega
      · rw [hXz] at hk; omega)⟩
  have hRI' : ∀ s A B, I s A → RelK X.heap.size K A B → I s B := fun s A B h hr => hRI s A B h (hr.mono (by omega) (by omega))
  have hRx' : ∀ c s A B, Ix c s A → RelK X.heap.size K A B → Ix c s B := fun c s A B h hr => hRx c s A B h (hr.mono (by omega) (by omega))
  have hXb : Below w0.heap.size w0 X := by rw [← hX]; exact (hb0.alloc hb0.size _).alloc (by have := hb0.size; omega) _
  refine ⟨w.heap.size + 1, [{ target := .collected w.heap.size, args := #[] }], X, { target := .fn (.func gf) lb, args := #[.func (.yield (w.heap.size + 1)) #[] #[]] }, X, gf, #[.func (.yield (w.heap.size + 1)) #[] #[]] ++ lb, X, ?_, ?_, ?_, ?_, fun _ => h1, ?_⟩
  · rw [← hX, hrc]; exact run_enterLoop_outer _ _ _ _ _
  · simp only [resolve, hg]; simp [go_sem]
  · intro f' hf'; simp [Target.leads] at hf'; exact hf' ▸ hFg
  · simp [invoke, go_sem, eg]
  refine (hseq (w.heap.size + 1)
    (fun s W => I s W ∧ W.heap[w.heap.size + 1]? = some (.loop (rc .ready none)) ∧ W.heap[w.heap.size]? = some (.deferred (some [])))
    (fun s W => ∃ c, Ix c s W ∧ W.heap[w.heap.size + 1]? = some (.loop (rc .done (some c))) ∧ W.heap[w.heap.size]? = some (.deferred (some [])))
    X hXb (fun s A B ⟨hi, hl, hd⟩ hr => ⟨hRI' s A B hi hr, hRk A B _ _ (by omega) (by omega) hl hr, hRk A B _ _ (by omega) (by omega) hd hr⟩)
    (fun s A B ⟨c, hi, hl, hd⟩ hr => ⟨c, hRx' c s A B hi hr, hRk A B _ _ (by omega) (by omega) hl hr, hRk A B _ _ (by omega) (by omega) hd hr⟩) ?round ⟨hXI, hXl, hXd⟩).mono ?behind
  case round =>
    rintro s x suf W hfull ⟨hi, hl, hd⟩ hN
    have hin : w.heap.size + 1 < W.heap.size := (Array.getElem?_eq_some_iff.1 hl).1
    have hy := run_yield (P := P) (args := encs x) hl (by rw [hrc]; exact hps x)
    rw [hrc] at hy
    refine ⟨fn, _, assign, body, hy, roundIn_of_wpIn hfn (hassign _ x W _ ⟨_, run_beginRound hl (by rw [hrc]), ?_⟩)⟩
    generalize hV : W.putObj (w.heap.size + 1) (.loop { rc .ready none with state := .busy }) = V
    have hVl : V.heap[w.heap.size + 1]? = some (.loop { rc .ready none with state := .busy }) := by rw [← hV]; exact World.putObj_heap_same hin
    have hVd : V.heap[w.heap.size]? = some (.deferred (some [])) := by rw [← hV]; exact (World.putObj_heap_other (by omega)).trans hd
    have hVI : I s V := by rw [← hV]; exact hRI _ _ _ hi (RelK.putObj _ _ _ _ _ _ hl rfl rfl (by omega) (by omega))
    have hVk : KpX C X.heap.size K W V := by rw [← hV]; exact hKb _ _ _ (by omega) (by omega)
    have hVz : w.heap.size + 2 + K ≤ V.heap.size := by rw [← hV, ← hXz]; simpa [World.putObj] using hN
    refine wpIn_mono (hbody _ s x suf V hfull hVI hVz) ?_
    -- how a round's end leaves the record
    have fin : ∀ (j : Option Code) (Z : World), KpX (fun _ => False) w.heap.size 2 V Z → (Instr.endRound (w.heap.size + 1) j).run P Z = .ok (.bool j.isNone) (Z.putObj (w.heap.size + 1) (.loop (rc (if j.isNone then .ready else .done) j))) ∧
        Z.heap[w.heap.size + 1]? = some (.loop { rc .ready none with state := .busy }) ∧ (Z.putObj (w.heap.size + 1) (.loop (rc (if j.isNone then .ready else .done) j))).heap[w.heap.size + 1]? = some (.loop (rc (if j.isNone then .ready else .done) j)) ∧
        (Z.putObj (w.heap.size + 1) (.loop (rc (if j.isNone then .ready else .done) j))).heap[w.heap.size]? = some (.deferred (some [])) := by
      intro j Z hk
      have hZl := (hk.2 (w.heap.size + 1) (.inr ⟨by omega, by omega⟩)).trans hVl
      have hZd := (hk.2 w.heap.size (.inr ⟨Nat.le_refl _, by omega⟩)).trans hVd
      have hrun := run_endRound (P := P) j hZl
      rw [hrc] at hrun
      refine ⟨by rw [hrc]; exact hrun, hZl, World.putObj_heap_same (Array.getElem?_eq_some_iff.1 hZl).1, (World.putObj_heap_other (by omega)).trans hZd⟩
    intro e b Z hp
    cases e with
    | normal =>
      obtain ⟨hk, hz⟩ := hp
      have hkp : KpX C X.heap.size K V Z := ⟨hk.1, fun k h => hk.2 k (h.imp (fun h => h) fun h => by omega)⟩
      obtain ⟨f1, f2, f3, f4⟩ := fin none Z ⟨hk.1, fun k h => hk.2 k (.inr (by have := h.resolve_left (fun h => h); omega))⟩
      exact ⟨_, _, f1, .inl ⟨rfl, ⟨hRI _ _ _ hz (RelK.putObj _ _ _ _ _ _ f2 rfl rfl (by omega) (by omega)), f3, f4⟩, (hVk.trans hkp).trans (hKb _ _ _ (by omega) (by omega))⟩⟩
    | ret =>
      obtain ⟨hk, hz⟩ := hp
      have hkp : KpX C X.heap.size K V Z := ⟨hk.1, fun k h => hk.2 k (h.imp (fun h => h) fun h => by omega)⟩
      obtain ⟨f1, f2, f3, f4⟩ := fin (some .ret) Z ⟨hk.1, fun k h => hk.2 k (.inr (by have := h.resolve_left (fun h => h); omega))⟩
      exact ⟨_, _, f1, .inr ⟨rfl, ⟨.ret, hRx _ _ _ _ hz (RelK.putObj _ _ _ _ _ _ f2 rfl rfl (by omega) (by omega)), f3, f4⟩, (hVk.trans hkp).trans (hKb _ _ _ (by omega) (by omega))⟩⟩
    | exit id =>
      obtain ⟨hk, hz⟩ := hp
      have hkp : KpX C X.heap.size K V Z := ⟨hk.1, fun k h => hk.2 k (h.imp (fun h => h) fun h => by omega)⟩
      obtain ⟨f1, f2, f3, f4⟩ := fin (some (.exit id)) Z ⟨hk.1, fun k h => hk.2 k (.inr (by have := h.resolve_left (fun h => h); omega))⟩
      exact ⟨_, _, f1, .inr ⟨rfl, ⟨.exit id, hRx _ _ _ _ hz (RelK.putObj _ _ _ _ _ _ f2 rfl rfl (by omega) (by omega)), f3, f4⟩, (hVk.trans hkp).trans (hKb _ _ _ (by omega) (by omega))⟩⟩
    | goto t =>
      obtain ⟨hk, hz⟩ := hp
      have hkp : KpX C X.heap.size K V Z := ⟨hk.1, fun k h => hk.2 k (h.imp (fun h => h) fun h => by omega)⟩
      obtain ⟨f1, f2, f3, f4⟩ := fin (some (.goto t)) Z ⟨hk.1, fun k h => hk.2 k (.inr (by have := h.resolve_left (fun h => h); omega))⟩
      exact ⟨_, _, f1, .inr ⟨rfl, ⟨.goto t, hRx _ _ _ _ hz (RelK.putObj _ _ _ _ _ _ f2 rfl rfl (by omega) (by omega)), f3, f4⟩, (hVk.trans hkp).trans (hKb _ _ _ (by omega) (by omega))⟩⟩
    | panic _ => exact hp.elim
    | outgrown => exact hp.elim
  case behind =>
    rintro e Z ⟨⟨v, rfl⟩, ⟨hz, hl, hd⟩ | ⟨s, c, hz, hl, hd⟩⟩
    · have hrun := run_endLoop (P := P) hl (by rw [hrc]; simp)
      rw [hrc] at hrun
      exact ⟨none, _, hrun, hdone _ _ rfl (hRI _ _ _ hz (RelK.putObj _ _ _ _ _ _ hl rfl (by simp [Obj.isWalk]) (by omega) (by omega))) ((World.putObj_heap_other (by omega)).trans hd)⟩
    · have hrun := run_endLoop (P := P) hl (by rw [hrc]; simp)
      rw [hrc] at hrun
      exact ⟨some c, _, hrun, hstop _ c s _ rfl (hRx c _ _ _ hz (RelK.putObj _ _ _ _ _ _ hl rfl (by simp [Obj.isWalk]) (by omega) (by omega))) ((World.putObj_heap_other (by omega)).trans hd)⟩
end Go.Proofs.Ytcdnhnbigincpaa
