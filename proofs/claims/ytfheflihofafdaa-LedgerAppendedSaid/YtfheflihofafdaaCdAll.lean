/- CdMath, CdRange, CdDigits, CdPutInt, CdGetInt, CdShelf, CdBuild, CdPutText, CdRefInt, CdRefGet, CdText: texts joined, at this translation. -/
import Derived.RangeFuncNested
import Derived.RangeFuncBound
import Derived.RangeFuncCalls
import Derived.RangeFuncLeaves
import Derived.RangeFuncBox
import Derived.Shelf.Abstract
import Derived.Shelf.RegionOpen
import Derived.WalkKit
import Derived.OwnWalkIn
import Derived.TacticsInMore
import Derived.LoopNIn
import Derived.LoopIn
import Derived.Test.YtfheflihofafdaaChecked
import Derived.Lib.Hide
import Derived.KernelRfl
import Derived.Maps.AppendAt
import Derived.OneCell
import Derived.Laws.IdiomStrings
import Derived.LoopTactic
import Derived.IntWalk
import Derived.Shelf.Strings.Builder1
import Derived.Shelf.Strings.BuilderF
import Derived.Shelf.Strings.BuilderK
import Derived.Test.YtfheflihofafdaaProg
import Derived.Lib.AppendStr
import Derived.Deep.RegionHeld3
import Derived.WalkSpells
/- Plain mathematics of numbers in base 128: their bytes, and what is read from bytes. -/
namespace Go.Proofs.Ytfheflihofafdaa.Cd

/-- The bytes of a number. -/
def enc7 (n : Nat) : List Nat := if n < 128 then [n] else (n % 128 + 128) :: enc7 (n / 128)
termination_by n
decreasing_by exact Nat.div_lt_self (by omega) (by omega)

theorem enc7_small (n : Nat) (h : n < 128) : enc7 n = [n] := by rw [enc7, if_pos h]
theorem enc7_big (n : Nat) (h : 128 ≤ n) : enc7 n = (n % 128 + 128) :: enc7 (n / 128) := by rw [enc7, if_neg (by omega)]
theorem enc7_pos (n : Nat) : 0 < (enc7 n).length := by rw [enc7]; split <;> simp
theorem enc7_byte (n : Nat) : ∀ d ∈ enc7 n, d < 256 := by
  induction n using Nat.strongRecOn with
  | _ n ih =>
    by_cases h : n < 128
    · rw [enc7_small n h]; intro d hd; simp at hd; omega
    · rw [enc7_big n (by omega)]
      intro d hd
      rcases List.mem_cons.1 hd with rfl | hd
      · omega
      · exact ih _ (Nat.div_lt_self (by omega) (by omega)) d hd
/-- A number with k bytes at most is less than 128 ^ k. -/
theorem enc7_len (n k : Nat) (hk : 1 ≤ k) : (enc7 n).length ≤ k ↔ n < 128 ^ k := by
  induction k generalizing n with
  | zero => omega
  | succ k ih =>
    by_cases h : n < 128
    · rw [enc7_small n h]
      have : 128 ^ 1 ≤ 128 ^ (k + 1) := Nat.pow_le_pow_right (by decide) (by omega)
      simp; omega
    · rw [enc7_big n (by omega), List.length_cons, Nat.pow_succ]
      by_cases hk0 : k = 0
      · subst hk0
        have := enc7_pos (n / 128)
        rw [Nat.pow_zero, Nat.one_mul]
        omega
      · have := ih (n / 128) (by omega)
        rw [Nat.div_lt_iff_lt_mul (by decide)] at this
        omega
theorem enc7_mono (n m : Nat) (h : n ≤ m) : (enc7 n).length ≤ (enc7 m).length :=
  (enc7_len n _ (enc7_pos m)).2 (Nat.lt_of_le_of_lt h ((enc7_len m _ (enc7_pos m)).1 (Nat.le_refl _)))

/-- What GetInt reads: the number, its number of bytes, and why not (0: it can be read; 7: there are too few bytes; 8: it isn't an encoding). -/
def getL (sh de : Int) : Nat → Nat → Nat → List Nat → Nat × Nat × Int
  | 0, _, _, _ => (0, 0, de)
  | _ + 1, _, _, [] => (0, 0, sh)
  | f + 1, i, a, d :: l => if d < 128 then (if 1099511627776 < a + d % 128 * 128 ^ i ∨ (0 < i ∧ d = 0) then (0, 0, de) else (a + d % 128 * 128 ^ i, i + 1, 0)) else getL sh de f (i + 1) (a + d % 128 * 128 ^ i) l

/-- With a last digit of d at place i, a number has i + 1 bytes exactly if d is not 0, or i is. -/
theorem enc7_size (a d i : Nat) (ha : a < 128 ^ i) (hd : d < 128) : (enc7 (a + d * 128 ^ i)).length = i + 1 ↔ ¬ (0 < i ∧ d = 0) := by
  have hpow : 0 < 128 ^ i := Nat.pow_pos (by decide)
  have hup : a + d * 128 ^ i < 128 ^ (i + 1) := by
    have : (d + 1) * 128 ^ i ≤ 128 * 128 ^ i := Nat.mul_le_mul_right _ (by omega)
    rw [Nat.pow_succ, Nat.mul_comm (128 ^ i) 128]
    rw [Nat.add_mul, Nat.one_mul] at this
    omega
  have h1 := (enc7_len (a + d * 128 ^ i) (i + 1) (by omega)).2 hup
  by_cases hi : i = 0
  · subst hi
    have := enc7_pos (a + d * 128 ^ 0)
    omega
  · have h2 := enc7_len (a + d * 128 ^ i) i (by omega)
    by_cases h0 : d = 0
    · subst h0
      have := h2.2 (by omega)
      omega
    · have : 128 ^ i ≤ d * 128 ^ i := Nat.le_mul_of_pos_left _ (by omega)
      have : ¬ (enc7 (a + d * 128 ^ i)).length ≤ i := fun h => by have := h2.1 h; omega
      omega

/-- Reading an encoding, with anything behind it, from a place on. -/
theorem getL_enc (sh de : Int) (n i a : Nat) (l : List Nat) (f : Nat) (hf : (enc7 n).length ≤ f) (hn : 0 < i → 0 < n) (hmax : a + n * 128 ^ i ≤ 1099511627776) :
    getL sh de f i a (enc7 n ++ l) = (a + n * 128 ^ i, i + (enc7 n).length, 0) := by
  induction n using Nat.strongRecOn generalizing i a f with
  | _ n ih =>
    by_cases h : n < 128
    · rw [enc7_small n h] at hf ⊢
      obtain ⟨f, rfl⟩ : ∃ f', f = f' + 1 := ⟨f - 1, by simp at hf; omega⟩
      rw [List.singleton_append, getL, if_pos h, Nat.mod_eq_of_lt h, if_neg (by omega)]
      rfl
    · rw [enc7_big n (by omega)] at hf ⊢
      obtain ⟨f, rfl⟩ : ∃ f', f = f' + 1 := ⟨f - 1, by simp at hf; omega⟩
      have e1 : (n % 128 + 128) % 128 = n % 128 := by omega
      have e2 : a + n % 128 * 128 ^ i + n / 128 * 128 ^ (i + 1) = a + n * 128 ^ i := by
        have := Nat.mod_add_div n 128
        calc _ = a + (n % 128 + 128 * (n / 128)) * 128 ^ i := by rw [Nat.pow_succ, Nat.add_mul]; ac_rfl
          _ = _ := by rw [this]
      rw [List.cons_append, getL, if_neg (by omega), e1, ih (n / 128) (Nat.div_lt_self (by omega) (by omega)) (i + 1) _ f (by simpa using hf) (by omega) (by rw [e2]; exact hmax), e2]
      simp; omega
/-- A proper beginning of an encoding is too short. -/
theorem getL_short (sh de : Int) (n k i a : Nat) (f : Nat) (hf : (enc7 n).length ≤ f) (hk : k < (enc7 n).length) :
    getL sh de f i a ((enc7 n).take k) = (0, 0, sh) := by
  induction n using Nat.strongRecOn generalizing i a f k with
  | _ n ih =>
    obtain ⟨f, rfl⟩ : ∃ f', f = f' + 1 := ⟨f - 1, by have := enc7_pos n; omega⟩
    cases k with
    | zero => rw [List.take_zero, getL]
    | succ k =>
      by_cases h : n < 128
      · rw [enc7_small n h] at hk; simp at hk
      · rw [enc7_big n (by omega)] at hf hk ⊢
        rw [List.take_succ_cons, getL, if_neg (by omega)]
        exact ih (n / 128) (Nat.div_lt_self (by omega) (by omega)) k _ _ f (by simpa using hf) (by simpa using hk)
/-- What can be read has the encoding that was read. -/
theorem getL_canon (sh de : Int) (hsh : sh ≠ 0) (hde : de ≠ 0) : ∀ (f i a : Nat) (l : List Nat) (n k : Nat), (∀ d ∈ l, d < 256) → a < 128 ^ i → getL sh de f i a l = (n, k, 0) →
    ∃ m, i + (enc7 m).length = k ∧ n = a + m * 128 ^ i ∧ (0 < i → 0 < m) ∧ n ≤ 1099511627776 ∧ enc7 m <+: l := by
  intro f
  induction f with
  | zero => intro i a l n k _ _ h; simp [getL] at h; exact absurd h.2.2 hde
  | succ f ih =>
    intro i a l n k hb ha h
    cases l with
    | nil => simp [getL] at h; exact absurd h.2.2 hsh
    | cons d l =>
      rw [getL] at h
      by_cases hd : d < 128
      · rw [if_pos hd, Nat.mod_eq_of_lt hd] at h
        by_cases hc : 1099511627776 < a + d * 128 ^ i ∨ (0 < i ∧ d = 0)
        · rw [if_pos hc] at h; simp at h; exact absurd h.2.2 hde
        · rw [if_neg hc] at h
          simp only [Prod.mk.injEq] at h
          exact ⟨d, by rw [enc7_small d hd]; simp; omega, h.1.symm, by omega, by omega, by rw [enc7_small d hd]; exact ⟨l, rfl⟩⟩
      · rw [if_neg hd] at h
        have ha' : a + d % 128 * 128 ^ i < 128 ^ (i + 1) := by
          have : (d % 128 + 1) * 128 ^ i ≤ 128 * 128 ^ i := Nat.mul_le_mul_right _ (by omega)
          rw [Nat.pow_succ, Nat.mul_comm (128 ^ i) 128]
          rw [Nat.add_mul, Nat.one_mul] at this
          omega
        obtain ⟨m, e1, e2, e3, e4, r, e5⟩ := ih (i + 1) _ l n k (fun x hx => hb x (by simp [hx])) ha' h
        have hb0 := hb d (by simp)
        have hm := e3 (by omega)
        have hdm : (d % 128 + 128 * m) / 128 = m := by omega
        have hdm2 : (d % 128 + 128 * m) % 128 = d % 128 := by omega
        refine ⟨d % 128 + 128 * m, ?_, ?_, by omega, e4, r, ?_⟩
        · rw [enc7_big _ (by omega), hdm]; simp; omega
        · rw [e2, Nat.pow_succ, Nat.add_mul]; ac_rfl
        · rw [enc7_big _ (by omega), hdm, hdm2, ← e5]
          simp; omega
end Go.Proofs.Ytfheflihofafdaa.Cd

/- A range over a function whose iterator takes steps of its own on the heap: 'Rel' says which; what the loop's body relies on must abide them. -/
namespace Go.Proofs.Ytfheflihofafdaa.Cd
open Go.RowKit
variable {P : Program} {F : Fence} {n : Nat}

/-- The contract of an iterator value that takes steps of its own: 'Rel' are these steps, 'Kp' is what a round that goes on must keep. -/
def SeqR {α : Type} (F : Fence) (n : Nat) (P : Program) (g : Nat) (lb : Array Value) (encs : α → Array Value) (Kp Rel : World → World → Prop) (S Sp : List α → Prop) (N : Nat) (w : World) : Prop :=
  ∀ (l : Nat) (J Jx : List α → World → Prop) (W : World), Below w.heap.size w W → (∀ s A B, J s A → Rel A B → J s B) → (∀ s A B, Jx s A → Rel A B → Jx s B) →
    (∀ pre x W1, J pre W1 → pre.length < N → YieldAt F (n - 1) P l (encs x) W1 fun e W' =>
      (e = .returned (.bool true) ∧ J (pre ++ [x]) W' ∧ Kp W1 W') ∨ (e = .returned (.bool false) ∧ Jx (pre ++ [x]) W')) →
    J [] W →
    CallsIn F n P g (#[.func (.yield l) #[] #[]] ++ lb) W fun e W' => (∃ v, e = .returned v) ∧ ((∃ xs, S xs ∧ J xs W') ∨ (∃ pre, Sp pre ∧ Jx pre W'))

theorem rangeFunc_rel {α : Type} {g : Operand} {ps : Array Tmp} {assign body : Code} {Q : Exit → Act → World → Prop} {a : Act} {w : World}
    (hro : F.round = none) (h1 : 1 ≤ n) {gf : Nat} {lb : Array Value} (hg : a.eval g = .func (.func gf) #[] lb) (hFg : F.fn gf) (eg : ∀ args w, (callFunc gf args).run P w = .ok (.enter gf args) w)
    {encs : α → Array Value} {Kp Rel : World → World → Prop} {S Sp : List α → Prop} {N : Nat} {w0 : World} (hseq : SeqR F (n - 1) P gf lb encs Kp Rel S Sp N w0)
    (hKt : ∀ {A B C : World}, Kp A B → Kp B C → Kp A C) (hKb : ∀ (W : World) (l : Nat) (o o' : Obj), w.heap.size ≤ l → W.heap[l]? = some o → o.isCells = false → o.isWalk = false → Kp W (W.putObj l o'))
    (hRk : ∀ (A B : World) (k : Nat) (o : Obj), w.heap.size ≤ k → k < w.heap.size + 2 → A.heap[k]? = some o → Rel A B → B.heap[k]? = some o)
    (hb0 : Below w0.heap.size w0 w) (hps : ∀ x, (encs x).size = ps.size)
    (I : List α → World → Prop) (Ix : Code → List α → World → Prop) (hI : OwnFrom w.heap.size I) (hIx : ∀ c, OwnFrom w.heap.size (Ix c)) (hRI : ∀ s A B, I s A → Rel A B → I s B) (hRx : ∀ c s A B, Ix c s A → Rel A B → Ix c s B) (h0 : I [] w) (a₁ : α → Act)
    (hassign : ∀ (l : Nat) (x : α) (W : World) (K : Act → World → Prop), K (a₁ x) W →
      assign.wpIn (F.inRound l) (n - 1 - 1) P (Exit.then K (fun _ _ _ => False)) { tmps := (ps.zip (encs x)).foldl (fun t (p, v) => t.setIfInBounds p v) a.tmps, defers := [] } W)
    (hbody : ∀ (l : Nat) (pre : List α) (x : α) (W : World), I pre W → pre.length < N → body.wpIn (F.inRound l) (n - 1 - 1) P (ownPostG w.heap.size Kp I Ix (pre ++ [x]) W) (a₁ x) W)
    (hdone : ∀ (D : Nat) (xs : List α) (W : World), w.heap.size ≤ D → S xs → I xs W → W.heap[D]? = some (.deferred (some [])) → Q .normal { a with defers := { target := .collected D, args := #[] } :: a.defers } W)
    (hstop : ∀ (D : Nat) (c : Code) (pre : List α) (W : World), w.heap.size ≤ D → Sp pre → Ix c pre W → W.heap[D]? = some (.deferred (some [])) → c.wpIn F n P Q { a with defers := { target := .collected D, args := #[] } :: a.defers } W) :
    (Code.rangeFunc g ps assign body).wpIn F n P Q a w := by
  refine wpIn_rangeFunc fun fn hfn => ?_
  rw [hro]
  -- the loop's record in each of its states
  obtain ⟨rc, hrc⟩ : ∃ rc : LoopState → Option Code → Loop, rc = fun st pe => { state := st, pending := pe, fn, tmps := a.tmps, params := ps, assign, body, defers := w.heap.size } := ⟨_, rfl⟩
  have s1 : (w.alloc (.deferred (some []))).heap.size = w.heap.size + 1 := World.size_alloc _ _
  generalize hX : (w.alloc (.deferred (some []))).alloc (.loop (rc .ready none)) = X
  have hXl : X.heap[w.heap.size + 1]? = some (.loop (rc .ready none)) := by rw [← hX, ← s1]; exact World.alloc_heap_new _ _
  have hXd : X.heap[w.heap.size]? = some (.deferred (some [])) := by rw [← hX]; exact (Below.heap_alloc _ _ _ (by omega)).trans (World.alloc_heap_new w _)
  have hXI : I [] X := by rw [← hX]; exact hI.alloc _ (hI.alloc _ h0)
  have hXb : Below w0.heap.size w0 X := by rw [← hX]; exact (hb0.alloc hb0.size _).alloc (by have := hb0.size; omega) _
  refine ⟨w.heap.size + 1, [{ target := .collected w.heap.size, args := #[] }], X, { target := .fn (.func gf) lb, args := #[.func (.yield (w.heap.size + 1)) #[] #[]] }, X, gf, #[.func (.yield (w.heap.size + 1)) #[] #[]] ++ lb, X, ?_, ?_, ?_, ?_, fun _ => h1, ?_⟩
  · rw [← hX, hrc]; exact run_enterLoop_outer _ _ _ _ _
  · simp only [resolve, hg]; simp [go_sem]
  · intro f' hf'; simp [Target.leads] at hf'; exact hf' ▸ hFg
  · simp [invoke, go_sem, eg]
  refine (hseq (w.heap.size + 1)
    (fun s W => I s W ∧ W.heap[w.heap.size + 1]? = some (.loop (rc .ready none)) ∧ W.heap[w.heap.size]? = some (.deferred (some [])))
    (fun s W => ∃ c, Ix c s W ∧ W.heap[w.heap.size + 1]? = some (.loop (rc .done (some c))) ∧ W.heap[w.heap.size]? = some (.deferred (some [])))
    X hXb (fun s A B ⟨hi, hl, hd⟩ hr => ⟨hRI s A B hi hr, hRk A B _ _ (by omega) (by omega) hl hr, hRk A B _ _ (by omega) (by omega) hd hr⟩)
    (fun s A B ⟨c, hi, hl, hd⟩ hr => ⟨c, hRx c s A B hi hr, hRk A B _ _ (by omega) (by omega) hl hr, hRk A B _ _ (by omega) (by omega) hd hr⟩) ?round ⟨hXI, hXl, hXd⟩).mono ?behind
  case round =>
    rintro s x W ⟨hi, hl, hd⟩ hN
    have hin : w.heap.size + 1 < W.heap.size := (Array.getElem?_eq_some_iff.1 hl).1
    have hy := run_yield (P := P) (args := encs x) hl (by rw [hrc]; exact hps x)
    rw [hrc] at hy
    refine ⟨fn, _, assign, body, hy, roundIn_of_wpIn hfn (hassign _ x W _ ⟨_, run_beginRound hl (by rw [hrc]), ?_⟩)⟩
    generalize hV : W.putObj (w.heap.size + 1) (.loop { rc .ready none with state := .busy }) = V
    have hVl : V.heap[w.heap.size + 1]? = some (.loop { rc .ready none with state := .busy }) := by rw [← hV]; exact World.putObj_heap_same hin
    have hVd : V.heap[w.heap.size]? = some (.deferred (some [])) := by rw [← hV]; exact (World.putObj_heap_other (by omega)).trans hd
    have hVI : I s V := by rw [← hV]; exact hI.putObj _ hi (by omega) hl rfl
    have hVk : Kp W V := by rw [← hV]; exact hKb _ _ _ _ (by omega) hl rfl rfl
    refine wpIn_mono (hbody _ s x V hVI hN) ?_
    -- how a round's end leaves the record
    have fin : ∀ (j : Option Code) (Z : World), KeepsFrom w.heap.size V Z → (Instr.endRound (w.heap.size + 1) j).run P Z = .ok (.bool j.isNone) (Z.putObj (w.heap.size + 1) (.loop (rc (if j.isNone then .ready else .done) j))) ∧
        Z.heap[w.heap.size + 1]? = some (.loop { rc .ready none with state := .busy }) ∧ (Z.putObj (w.heap.size + 1) (.loop (rc (if j.isNone then .ready else .done) j))).heap[w.heap.size + 1]? = some (.loop (rc (if j.isNone then .ready else .done) j)) ∧
        (Z.putObj (w.heap.size + 1) (.loop (rc (if j.isNone then .ready else .done) j))).heap[w.heap.size]? = some (.deferred (some [])) := by
      intro j Z hk
      have hZl := hk.same _ _ (by omega) hVl rfl
      have hZd := hk.same _ _ (Nat.le_refl _) hVd rfl
      have hrun := run_endRound (P := P) j hZl
      rw [hrc] at hrun
      refine ⟨by rw [hrc]; exact hrun, hZl, World.putObj_heap_same (Array.getElem?_eq_some_iff.1 hZl).1, (World.putObj_heap_other (by omega)).trans hZd⟩
    intro e b Z hp
    cases e with
    | normal =>
      obtain ⟨hk, hkp, hz⟩ := hp
      obtain ⟨f1, f2, f3, f4⟩ := fin none Z hk
      exact ⟨_, _, f1, .inl ⟨rfl, ⟨hI.putObj _ hz (by omega) f2 rfl, f3, f4⟩, hKt (hKt hVk hkp) (hKb _ _ _ _ (by omega) f2 rfl rfl)⟩⟩
    | ret =>
      obtain ⟨hk, hz⟩ := hp
      obtain ⟨f1, f2, f3, f4⟩ := fin (some .ret) Z hk
      exact ⟨_, _, f1, .inr ⟨rfl, .ret, (hIx _).putObj _ hz (by omega) f2 rfl, f3, f4⟩⟩
    | exit id =>
      obtain ⟨hk, hz⟩ := hp
      obtain ⟨f1, f2, f3, f4⟩ := fin (some (.exit id)) Z hk
      exact ⟨_, _, f1, .inr ⟨rfl, .exit id, (hIx _).putObj _ hz (by omega) f2 rfl, f3, f4⟩⟩
    | goto t =>
      obtain ⟨hk, hz⟩ := hp
      obtain ⟨f1, f2, f3, f4⟩ := fin (some (.goto t)) Z hk
      exact ⟨_, _, f1, .inr ⟨rfl, .goto t, (hIx _).putObj _ hz (by omega) f2 rfl, f3, f4⟩⟩
    | panic _ => exact hp.elim
    | outgrown => exact hp.elim
  case behind =>
    rintro e Z ⟨⟨v, rfl⟩, ⟨xs, hS, hz, hl, hd⟩ | ⟨s, hSp, c, hz, hl, hd⟩⟩
    · have hrun := run_endLoop (P := P) hl (by rw [hrc]; simp)
      rw [hrc] at hrun
      exact ⟨none, _, hrun, hdone _ xs _ (Nat.le_refl _) hS (hI.putObj _ hz (by omega) hl rfl) ((World.putObj_heap_other (by omega)).trans hd)⟩
    · have hrun := run_endLoop (P := P) hl (by rw [hrc]; simp)
      rw [hrc] at hrun
      exact ⟨some c, _, hrun, hstop _ c s _ (Nat.le_refl _) hSp ((hIx c).putObj _ hz (by omega) hl rfl) ((World.putObj_heap_other (by omega)).trans hd)⟩
end Go.Proofs.Ytfheflihofafdaa.Cd

/- The bytes of a number, as codec's iterator yields them, at this translation. -/
namespace Go.Proofs.Ytfheflihofafdaa.Cd
open Go.RowKit Go.Shelf
attribute [local go_sem] Oper.semAt_some

/-- What a round is handed: a byte. -/
abbrev encB : Nat → Array Value := fun d => #[Value.int .u8 (d : Int)]
/-- What a round keeps: the iterator's box. -/
def KpB (Bx : Nat) (A B : World) : Prop := B.heap[Bx]? = A.heap[Bx]?
/-- What the iterator does: it writes its box. -/
def RelB (Bx : Nat) (A B : World) : Prop := ∃ v, B = A.setCell ⟨Bx, 0, none⟩ v

set_option maxRecDepth 100000 in
set_option maxHeartbeats 2000000 in
theorem digits1_in (F : Fence) (n : Nat) (hF : F.fn 87) (hro : F.round = none) (hn : 1 ≤ n) (Bx m N : Nat) (hm : m ≤ 1099511627776) (hN : (enc7 m).length ≤ N) (w : World) (hb : Boxed w Bx 3 (.int .i64 m)) :
    SeqR F n Try.prog 87 #[.pointer (some ⟨Bx, 0, none⟩)] encB (KpB Bx) (RelB Bx) (fun xs => xs = enc7 m) (fun _ => True) N w := by
  intro l J Jx W hW hJ hJx hY h0
  have hbW : Boxed W Bx 3 (.int .i64 m) := (hW.block Bx hb.lt).trans hb
  refine callsIn_of_wp Try.func87 rfl hF ?_ hro
  simp only [Try.ntmps87, List.size_toArray, List.length_cons, List.length_nil, Nat.reduceAdd, Nat.reduceSub, Array.replicate_succ, Array.replicate_zero, List.push_toArray, List.append_toArray, List.nil_append, List.cons_append]
  gi_wp2
  gi_loopw [3] (fun _ wr => ∃ (q : Nat) (pre : List Nat), q ≤ 1099511627776 ∧ Hid (pre ++ enc7 q = enc7 m) ∧ Boxed wr Bx 3 (.int .i64 q) ∧ J pre wr)
    (fun _ wr => (intOf ((wr.cell? ⟨Bx, 0, none⟩).getD undef)).toNat)
  case atStart => exact ⟨m, [], hm, rfl, hbW, h0⟩
  case round =>
    obtain ⟨q, pre, hq, hE, hbx, hJs⟩ := hrel
    have c1 := hbx.cell
    have hEl : pre.length + (enc7 q).length = (enc7 m).length := by
      have := congrArg List.length (show pre ++ enc7 q = enc7 m from hE); simpa using this
    have hpre : pre.length < N := by have := enc7_pos q; omega
    clear hEl
    by_cases hlt : 128 ≤ q
    · obtain ⟨fn, tmps, assign, body, hy, hR⟩ := hY pre (q % 128 + 128) wr hJs hpre
      have e1 : (((q % 128 + 128 : Nat)) : Int) = (q : Int) % 128 + 128 := by omega
      simp only [encB, e1] at hy
      have HE : Hid (pre ++ [q % 128 + 128] ++ enc7 (q / 128) = enc7 m) := by
        have := hE; rw [enc7_big q hlt] at this; simpa using this
      clear hE e1
      gi_wp2
      refine hR.mono ?_
      rintro e W3 (⟨rfl, hJ3, hk3⟩ | ⟨rfl, hJx3⟩)
      · have hb3 : Boxed W3 Bx 3 (.int .i64 q) := hk3.trans hbx
        have c3 := hb3.cell
        have f3 := hb3.frozen
        gi_wp2
        go_roundw
        case rel =>
          refine ⟨q / 128, _, by omega, HE, ?_, hJ _ _ _ hJ3 ⟨_, rfl⟩⟩
          simpa using hb3.set (.int .i64 ((q : Int) / 128))
        case measure =>
          have c4 := (hb3.set (.int .i64 ((q : Int) / 128))).cell
          simp [c1, c4, intOf]; omega
      · gi_wp2
        refine bodyPost_ret (results_none rfl _ _ _) rfl ?_
        exact ⟨⟨_, rfl⟩, .inr ⟨_, trivial, hJx3⟩⟩
    · obtain ⟨fn, tmps, assign, body, hy, hR⟩ := hY pre q wr hJs hpre
      have HE : Hid (pre ++ [q] = enc7 m) := by
        have := hE; rw [enc7_small q (by omega)] at this; exact this
      clear hE
      simp only [encB] at hy
      gi_wp2
      refine hR.mono ?_
      rintro e W3 (⟨rfl, hJ3, hk3⟩ | ⟨rfl, hJx3⟩)
      · gi_wp2
        go_end0
        exact ⟨⟨_, rfl⟩, .inl ⟨_, HE, hJ3⟩⟩
      · gi_wp2
        go_end0
        exact ⟨⟨_, rfl⟩, .inr ⟨_, trivial, hJx3⟩⟩
end Go.Proofs.Ytfheflihofafdaa.Cd

/- codec.PutInt and Size, at this translation. -/
namespace Go.Proofs.Ytfheflihofafdaa.Cd
open Go.RowKit Go.Shelf
attribute [local go_sem] Oper.semAt_some

theorem info5 : (Try.prog.info? 5).map (fun i => (i.zero, i.size, i.bytes)) = some (some (.int .u8 0), 1, 1) := by kernel_rfl

theorem boxed_other {W : World} {B : Nat} {t : TypeId} {v : Value} (h : Boxed W B t v) {b : Nat} (hne : B ≠ b) (u : Value) : Boxed (W.setCell ⟨b, 0, none⟩ u) B t v :=
  (Below.heap_setCell W ⟨b, 0, none⟩ u B hne).trans h
theorem boxed_below {W W' : World} {n B : Nat} {t : TypeId} {v : Value} (h : Boxed W B t v) (hB : Below n W W') (hn : B < n) : Boxed W' B t v := (hB.block B hn).trans h

/-- Behind 'y = append(y, d)', where y's box lies below the rows that the call may own: the box holds the longer row, other boxes and all below are as they were. -/
theorem box_appended {W w1 : World} {base yb : Nat} {t e : TypeId} {k m : Nat} {v v' : Value} {xs ys : List Value} {tmp : Obj} (hy : Boxed W yb t v) (ho : W.ownsRow base e 1 v k xs) (hyb : yb < base) (hz : base ≤ W.heap.size)
    (hown' : w1.ownsRow base e 1 v' m ys) (hgrow : (W.alloc tmp).grownBy w1 v.ownBlock) :
    Boxed w1 yb t v ∧ (∀ j, j < base → w1.heap[j]? = W.heap[j]?) ∧ Boxed (w1.setCell ⟨yb, 0, none⟩ v') yb t v' ∧ (w1.setCell ⟨yb, 0, none⟩ v').ownsRow base e 1 v' m ys ∧
      (∀ j, j < base → j ≠ yb → (w1.setCell ⟨yb, 0, none⟩ v').heap[j]? = W.heap[j]?) ∧ Below yb W (w1.setCell ⟨yb, 0, none⟩ v') ∧ base ≤ (w1.setCell ⟨yb, 0, none⟩ v').heap.size := by
  have h1 : ∀ j, j < base → w1.heap[j]? = W.heap[j]? := fun j hj => by
    rw [hgrow.block j (by rw [World.size_alloc]; omega) ?_]
    · exact Below.heap_alloc W tmp j (by omega)
    · intro e
      have := (ho.lt j e.symm).1
      omega
  have h2 : Boxed w1 yb t v := (h1 yb hyb).trans hy
  refine ⟨h2, h1, h2.set v', ownsRow_setCell_below hown' hyb v', fun j hj hne => (Below.heap_setCell w1 _ v' j hne).trans (h1 j hj), ?_, ?_⟩
  · refine (((Below.refl yb W).alloc (by omega) tmp).grown hgrow (by simp; omega) fun j ej => ?_).setCell (p := ⟨yb, 0, none⟩) (Nat.le_refl _) v'
    have := (ho.lt j ej).1
    omega
  · have h3 := ((((Below.refl yb W).alloc (by omega) tmp).grown hgrow (by simp; omega) fun j ej => by have := (ho.lt j ej).1; omega).setCell (p := ⟨yb, 0, none⟩) (Nat.le_refl _) v').size
    omega

theorem keeps_appended {W w1 : World} {base k : Nat} {e : TypeId} {v u : Value} {xs : List Value} {tmp : Obj} {p : Addr} (ho : W.ownsRow base e 1 v k xs) (hgrow : (W.alloc tmp).grownBy w1 v.ownBlock) : KeepsOthers W (w1.setCell p u) := by
  refine ((KeepsOthers.alloc W tmp).trans (KeepsOthers.of_grownBy hgrow fun j o ej hj => ?_)).trans (KeepsOthers.setCell _ _ _)
  rcases (ho.alloc tmp).2 with ⟨rfl, _⟩ | ⟨g, cap, cur, rfl, _, hgb, _⟩
  · simp [Value.ownBlock] at ej
  · obtain rfl : g = j := by simpa [Value.ownBlock] using ej
    rw [hgb] at hj; cases hj; rfl

/-- Bytes as a string. -/
def strN (l : List Nat) : ByteArray := ⟨(l.map UInt8.ofNat).toArray⟩
/-- A string's bytes. -/
def nats (s : ByteArray) : List Nat := s.data.toList.map UInt8.toNat
theorem nats_strN (l : List Nat) (h : ∀ d ∈ l, d < 256) : nats (strN l) = l := by
  simp only [nats, strN, List.map_map]
  conv => rhs; rw [← List.map_id l]
  refine List.map_congr_left fun d hd => ?_
  have := h d hd
  simp [Nat.mod_eq_of_lt this]
theorem strN_nats (s : ByteArray) : strN (nats s) = s := by
  simp only [nats, strN, List.map_map]
  have : (UInt8.ofNat ∘ UInt8.toNat) = id := funext fun x => UInt8.ofNat_toNat
  rw [this, List.map_id]
theorem nats_lt (s : ByteArray) : ∀ d ∈ nats s, d < 256 := by
  intro d hd
  obtain ⟨b, _, rfl⟩ := List.mem_map.1 hd
  exact b.toNat_lt
theorem nats_length (s : ByteArray) : (nats s).length = s.size := by simp only [nats, List.length_map, Array.length_toList]; rfl
theorem strN_size (l : List Nat) : (strN l).size = l.length := by show (l.map UInt8.ofNat).toArray.size = l.length; simp
theorem nats_append (s t : ByteArray) : nats (s ++ t) = nats s ++ nats t := by simp [nats, ByteArray.data_append]
theorem strN_append (l m : List Nat) : strN (l ++ m) = strN l ++ strN m := by
  apply ByteArray.ext
  simp [strN, ByteArray.data_append]
theorem nats_inj {s t : ByteArray} (h : nats s = nats t) : s = t := by rw [← strN_nats s, h, strN_nats]

abbrev u8s (l : List Nat) : List Value := l.map fun d : Nat => .int .u8 (d : Int)

/-- The number's bytes so far lie in a slice of the call's own, which the box B0 holds. -/
def Coll (w : World) (pre : List Nat) (W : World) : Prop :=
  (∃ v, Boxed W w.heap.size 78 v ∧ W.ownsRow (w.heap.size + 2) 5 1 v pre.length (u8s pre)) ∧ Below w.heap.size w W ∧ w.heap.size + 2 ≤ W.heap.size

theorem coll_own (w : World) (B : Nat) (hB : w.heap.size + 2 ≤ B) : OwnFrom B (Coll w) := by
  intro s X Y row hs hg hr
  obtain ⟨⟨v, hv, ho⟩, hb, hz⟩ := hs
  refine ⟨⟨v, hv.kept hg (fun e => ?_), ho.kept hg ?_⟩, ?_, Nat.le_trans hz hg.size⟩
  · have := (hr _ e.symm).1; have := hv.lt; omega
  · rcases ho.2 with ⟨rfl, _⟩ | ⟨g, cap, cur, rfl, _, hgb, _⟩
    · exact .inl rfl
    · refine .inr fun e => ?_
      obtain ⟨_, o, ho', hc⟩ := hr g (by simpa [Value.ownBlock] using e.symm)
      rw [hgb] at ho'; cases ho'; cases hc
  · exact hb.grown hg (by omega) (fun k e => by have := (hr k e).1; omega)
theorem coll_rel (w : World) (pre : List Nat) (A B : World) (h : Coll w pre A) (hr : RelB (w.heap.size + 1) A B) : Coll w pre B := by
  obtain ⟨u, rfl⟩ := hr
  obtain ⟨⟨v, hv, ho⟩, hb, hz⟩ := h
  refine ⟨⟨v, (Below.heap_setCell A _ u _ (by simp)).trans hv, ownsRow_setCell_below ho (by simp) u⟩, hb.setCell (p := ⟨w.heap.size + 1, 0, none⟩) (by simp) u, ?_⟩
  exact Nat.le_trans hz (KeepsWalks.setCell _ _ _).size

set_option maxHeartbeats 1000000 in
theorem digits_in (F : Fence) (n : Nat) (h5 : F.fn 86) (hro : F.round = none) (m : Int) (w : World) :
    CallsIn F n Try.prog 86 #[.int .i64 m] w fun e w' => e = .returned (.func (.func 87) #[] #[.pointer (some ⟨w.heap.size, 0, none⟩)]) ∧ w' = w.alloc (.cells #[.int .i64 m] 3) := by
  refine callsIn_of_wp Try.func86 rfl h5 ?_ hro
  simp only [Try.ntmps86, List.size_toArray, List.length_cons, List.length_nil, Nat.reduceAdd, Nat.reduceSub, Array.replicate_succ, Array.replicate_zero, List.push_toArray, List.append_toArray, List.nil_append, List.cons_append]
  gi_wp2
  go_ret
  exact ⟨rfl, rfl⟩

set_option maxRecDepth 100000 in
set_option maxHeartbeats 2000000 in
theorem putInt_in (F : Fence) (n : Nat) (h3 : F.fn 83) (h5 : F.fn 86) (h6 : F.fn 87) (hro : F.round = none) (hn : 3 ≤ n) (m : Nat) (hm : m ≤ 1099511627776) (w : World) :
    CallsIn F n Try.prog 83 #[.int .i64 m] w fun e W' => e = .returned (.tuple #[.string (strN (enc7 m)), .int .i64 0]) ∧ Below w.heap.size w W' := by
  have h1 : 1 ≤ n := by omega
  obtain ⟨i0, hi, hz0, hz1, hz2⟩ := info_parts info5
  have t1 : decide ((m : Int) < 0) = false := by simp
  have t2 : decide (1099511627776 < (m : Int)) = false := by simp; omega
  refine callsIn_of_wp_marks Try.func83 rfl h3 ?_ hro
  simp only [Try.ntmps83, List.size_toArray, List.length_cons, List.length_nil, Nat.reduceAdd, Nat.reduceSub, Array.replicate_succ, Array.replicate_zero, List.push_toArray, List.append_toArray, List.nil_append, List.cons_append]
  gi_wp2_with (gi_at_call 86; refine (digits_in F (n - 1) h5 hro _ _).mono ?_; rintro e w' ⟨rfl, rfl⟩)
  have bB := (Boxed.new w 78 (.slice none 0 0)).alloc (.cells #[.int .i64 m] 3)
  have bN := Boxed.new (w.alloc (.cells #[.slice none 0 0] 78)) 3 (.int .i64 m)
  rw [World.size_alloc] at bN
  have hB0 : Below w.heap.size w ((w.alloc (.cells #[.slice none 0 0] 78)).alloc (.cells #[.int .i64 m] 3)) := ((Below.refl _ w).alloc (Nat.le_refl _) _).alloc (by simp) _
  have hlen : (enc7 m).length ≤ 6 := (enc7_len m 6 (by omega)).2 (by omega)
  refine rangeFunc_rel hro h1 (gf := 87) (lb := #[.pointer (some ⟨w.heap.size + 1, 0, none⟩)]) rfl h6 (enters_of Try.func87 (by kernel_rfl) rfl)
    (digits1_in F (n - 1) h6 hro (by omega) (w.heap.size + 1) m 6 hm hlen _ bN) (fun h k => k.trans h) (fun W l o o' hl _ _ _ => World.putObj_heap_other (by simp at hl; omega))
    (fun A B k o h1 _ hk hr => by obtain ⟨u, rfl⟩ := hr; exact (Below.heap_setCell A _ u k (by simp at h1 ⊢; omega)).trans hk)
    (Below.refl _ _) (fun _ => rfl)
    (Coll w) (fun _ _ _ => False) (coll_own w _ (by simp)) (fun _ _ _ _ _ hs _ _ => hs.elim) (fun s A B h hr => coll_rel w s A B h hr) (fun _ _ _ _ h _ => h.elim)
    ⟨⟨_, bB, World.ownsRow_nil _ _ _ _⟩, hB0, by simp⟩
    (fun x => { tmps := #[Value.int IntKind.i64 ↑m, undef, Value.string { data := #[] }, Value.int IntKind.i64 0,
          Value.pointer (some { block := w.heap.size, off := 0 }), .int .u8 (x : Int), Value.int IntKind.i64 ↑m,
          Value.bool false, Value.bool false, Value.int IntKind.i64 ↑m,
          Value.bool false, Value.bool false,
          Value.int IntKind.i64 ↑m,
          Value.func (Fn.func 87) #[] #[Value.pointer (some { block := w.heap.size + 1, off := 0 })], .int .u8 (x : Int), undef,
          undef, undef, undef, undef, undef], defers := [] }) ?assign ?body ?done ?stop
  case assign =>
    intro l x W K hK
    gi_wp2
    exact hK
  case body =>
    rintro l pre x W ⟨⟨v, hv, ho⟩, hB, hz⟩ hlen2
    have hy1 := hv.cell
    gi_wp2_with (gi_at_builtin; refine wpListIn_append_own _ rfl _ _ 78 rfl (w.heap.size + 2) 5 i0 (.int .u8 0) 1 1 Try.underlying78 hi hz0 hz1 hz2 rfl (by decide) _ _ _ rfl (ho.alloc _) ⟨W.heap.size, 0, none⟩ 1 1 [.int .u8 (x : Int)] rfl rfl (cell_one_new _ _ _) (by simp [Value.oneCell']) (by unfold maxLen; omega) (by omega) (by simp; omega) ?_; intro v' w1 hown' hgrow _; obtain ⟨g', cap', rfl⟩ := ownsRow_succ hown'; have A := Lib.hid (box_appended (t := 78) hv ho (by omega) hz hown' hgrow); have q1 := A.out.1.cell; have q2 := A.out.1.frozen; have KF := Lib.hid (keeps_appended (p := ⟨w.heap.size, 0, none⟩) (u := .slice (some ⟨g', 0, none⟩) (pre.length + 1) cap') ho hgrow))
    obtain ⟨a1, a2, a3, a4, a5, a6, a7⟩ := A.out
    refine ⟨KF.out.from _, a5 _ (by omega) (by omega), ⟨⟨_, a3, ?_⟩, hB.trans a6, a7⟩⟩
    simpa [u8s] using a4
  case done =>
    rintro D zs W hD rfl ⟨⟨v, hv, ho⟩, hB, hz⟩ hK
    have hy1 := hv.cell
    obtain ⟨k, hk⟩ : ∃ k, (enc7 m).length = k + 1 := ⟨(enc7 m).length - 1, by have := enc7_pos m; omega⟩
    have ho' := ho
    rw [hk] at ho'
    obtain ⟨g', cap', rfl⟩ := ownsRow_succ ho'
    have hconv := run_convert_bytes_back (P := Try.prog) W 78 9 5 ⟨g', 0, none⟩ cap' ((enc7 m).map UInt8.ofNat) Try.underlying78 Try.underlying5 Try.underlying9 (fun j hj => by
      have hj' : j < (enc7 m).length := by simpa using hj
      have h256 := enc7_byte m _ (List.getElem_mem hj')
      rw [ho.cells (g := g') rfl j (.int .u8 ((enc7 m)[j] : Nat)) (by simp [u8s, hj'])]
      simp [Nat.mod_eq_of_lt h256])
    rw [List.length_map, hk] at hconv
    clear hlen hk ho' ho t1 t2
    gi_wp2
    refine ⟨by simp, .inl ⟨_, _, rfl, run_takeDeferred hK, ?_⟩⟩
    exact ⟨_, by simp [results, Try.f83, go_sem]; rfl, rfl, hB.trans (belowK_b (w := w) (Nat.le_refl _) W D _ _ (by simp at hD; omega) hK rfl rfl)⟩
  case stop =>
    rintro D c pre W _ _ h _
    exact h.elim
end Go.Proofs.Ytfheflihofafdaa.Cd

/- codec.Size, checked and GetInt, at this translation. -/
namespace Go.Proofs.Ytfheflihofafdaa.Cd
open Go.RowKit Go.Shelf

set_option maxRecDepth 100000 in
set_option maxHeartbeats 2000000 in
theorem putIntBad_in (F : Fence) (n : Nat) (h3 : F.fn 83) (hro : F.round = none) (z : Int) (h : z < 0 ∨ 1099511627776 < z) (w : World) :
    CallsIn F n Try.prog 83 #[.int .i64 z] w fun e W' => e = .returned (.tuple #[.string ⟨#[]⟩, .int .i64 2]) ∧ Below w.heap.size w W' := by
  by_cases h1 : z < 0
  · clear h
    refine callsIn_of_wp_marks Try.func83 rfl h3 ?_ hro
    simp only [Try.ntmps83, List.size_toArray, List.length_cons, List.length_nil, Nat.reduceAdd, Nat.reduceSub, Array.replicate_succ, Array.replicate_zero, List.push_toArray, List.append_toArray, List.nil_append, List.cons_append]
    gi_wp2
    exact ⟨_, by simp [results, Try.f83, go_sem], rfl, Below.refl _ _⟩
  · have h2 : 1099511627776 < z := by omega
    clear h
    refine callsIn_of_wp_marks Try.func83 rfl h3 ?_ hro
    simp only [Try.ntmps83, List.size_toArray, List.length_cons, List.length_nil, Nat.reduceAdd, Nat.reduceSub, Array.replicate_succ, Array.replicate_zero, List.push_toArray, List.append_toArray, List.nil_append, List.cons_append]
    gi_wp2
    exact ⟨_, by simp [results, Try.f83, go_sem], rfl, Below.refl _ _⟩
theorem putInt_bad (z : Int) (h : z < 0 ∨ 1099511627776 < z) (w : World) : Calls Try.prog 83 #[.int .i64 z] w fun e W' => e = .returned (.tuple #[.string ⟨#[]⟩, .int .i64 2]) ∧ Below w.heap.size w W' :=
  (callsIn_wide (n := 3)).1 (putIntBad_in Fence.wide 3 trivial rfl z h w)
theorem putInt_good (z : Int) (m : Nat) (e : z = m) (hm : m ≤ 1099511627776) (w : World) : Calls Try.prog 83 #[.int .i64 z] w fun e W' => e = .returned (.tuple #[.string (strN (enc7 m)), .int .i64 0]) ∧ Below w.heap.size w W' := by
  subst e
  exact (callsIn_wide (n := 3)).1 (putInt_in Fence.wide 3 trivial trivial trivial rfl (by omega) m hm w)



theorem nats_get (s : ByteArray) (k : Nat) (h : k < s.size) : (nats s)[k]'(by rw [nats_length]; exact h) = s[k].toNat := by
  simp only [nats, List.getElem_map]
  rfl

/-- The value of a digit at a place. -/
theorem shift_val (d i : Nat) (hd : d < 128) (hi : i ≤ 5) : d * 128 ^ i ≤ 127 * 34359738368 := by
  have h1 : 128 ^ i ≤ 128 ^ 5 := Nat.pow_le_pow_right (by decide) hi
  have h2 := Nat.mul_le_mul (show d ≤ 127 by omega) h1
  have h3 : (128 : Nat) ^ 5 = 34359738368 := by decide
  omega

theorem pow_128 (i : Nat) : (2 : Int) ^ (7 * i) = ((128 ^ i : Nat) : Int) := by
  rw [Int.pow_mul]
  simp
theorem shl_val (d i : Nat) (hi : i ≤ 5) : wrap64 ((d : Int) % 128 * 2 ^ (7 * i)) = ((d % 128 * 128 ^ i : Nat) : Int) := by
  have h := shift_val (d % 128) i (by omega) hi
  rw [pow_128, show (d : Int) % 128 = ((d % 128 : Nat) : Int) by omega, ← Int.natCast_mul]
  exact IntWalk.wrap64_in _ ⟨by omega, by omega⟩
/-- A digit more: below the next power. -/
theorem next_pow (a d i : Nat) (ha : a < 128 ^ i) (hi : i ≤ 5) : a + d % 128 * 128 ^ i < 128 ^ (i + 1) ∧ a + d % 128 * 128 ^ i ≤ 4398046511104 := by
  have h1 : (d % 128 + 1) * 128 ^ i ≤ 128 * 128 ^ i := Nat.mul_le_mul_right _ (by omega)
  have h2 : 128 ^ (i + 1) ≤ 128 ^ 6 := Nat.pow_le_pow_right (by decide) (by omega)
  have h3 : (128 : Nat) ^ 6 = 4398046511104 := by decide
  rw [Nat.pow_succ, Nat.mul_comm (128 ^ i) 128] at h2 ⊢
  rw [Nat.add_mul, Nat.one_mul] at h1
  omega

end Go.Proofs.Ytfheflihofafdaa.Cd

/- The shelf's contracts on strings.Builder's String, laid at this translation in plain declarations. -/
namespace Go.Proofs
open Go.Shelf
def Try.lays169_ren : Go.Shelf.Ren := ⟨fun | 169 => 65 | n => n, fun | 70 => 77 | 9 => 9 | 0 => 0 | 72 => 80 | 37 => 78 | 127 => 99 | 3 => 3 | 5 => 5 | n => n, fun | n => n⟩
theorem Try.lays169 : Go.Proofs.Lays.n169 Try.prog Try.lays169_ren := {
  mixed := by kernel_rfl
  f169 := Try.func65.trans (congrArg some (by kernel_rfl))
  t0 := Try.underlying0
  a0 := Try.isAgg0
  z0 := Try.sizeOf0
  v0 := Try.zeroValue0
  t3 := Try.underlying3
  a3 := Try.isAgg3
  z3 := Try.sizeOf3
  v3 := Try.zeroValue3
  t9 := Try.underlying9
  a9 := Try.isAgg9
  z9 := Try.sizeOf9
  v9 := Try.zeroValue9
  t37 := Try.underlying78
  a37 := Try.isAgg78
  z37 := Try.sizeOf78
  v37 := Try.zeroValue78
  t70 := Try.underlying77
  a70 := Try.isAgg77
  z70 := Try.sizeOf77
  v70 := Try.zeroValue77
  t72 := Try.underlying80
  a72 := Try.isAgg80
  z72 := Try.sizeOf80
  v72 := Try.zeroValue80
  t127 := Try.underlying99
  a127 := Try.isAgg99
  z127 := Try.sizeOf99
  v127 := Try.zeroValue99 }
theorem Try.Builder_Extra_169 : Builder.Extra Try.prog Try.lays169_ren := {
  sizeBuilder := by kernel_rfl
  liesBuilder := by kernel_rfl
  t5 := Try.underlying5
  a5 := Try.isAgg5
  z5 := Try.sizeOf5
  v5 := Try.zeroValue5
  infoByte := by kernel_rfl
  cellsByte := by kernel_rfl
  sizeByte := by kernel_rfl
  neB5 := by decide }
open Go.RowKit in
theorem Try.Builder_String (B b : Nat) (l : List UInt8) (w : World) (h : Lib.IsBuilder 80 5 B b (Lib.byteCells l) w) (h0 : l ≠ []) :
    Calls Try.prog 65 #[.pointer (some ⟨b, 0, none⟩)] w fun e w' => e = .returned (.string ⟨l.toArray⟩) ∧ Below B w w' := Any.Builder_String Try.lays169 Try.Builder_Extra_169 B b l w h h0
open Go.RowKit in
theorem Try.Builder_String_empty (B b : Nat) (w : World) (h : Lib.IsBuilder 80 5 B b [] w) (hBw : B ≤ w.heap.size) :
    Calls Try.prog 65 #[.pointer (some ⟨b, 0, none⟩)] w fun e w' => e = .returned (.string ⟨#[]⟩) ∧ Below B w w' := Any.Builder_String_empty Try.lays169 Try.Builder_Extra_169 B b w h hBw
open Go.RowKit in
theorem Try.Builder_String_any (B b : Nat) (l : List UInt8) (w : World) (h : Lib.IsBuilder 80 5 B b (Lib.byteCells l) w) (hBw : B ≤ w.heap.size) :
    Calls Try.prog 65 #[.pointer (some ⟨b, 0, none⟩)] w fun e w' => e = .returned (.string ⟨l.toArray⟩) ∧ Below B w w' := Any.Builder_String_any Try.lays169 Try.Builder_Extra_169 B b l w h hBw
open Go.RowKit in
theorem Try.Builder_String_f (B b : Nat) (l : List UInt8) (w : World) (h : Lib.IsBuilderF 80 5 B b (Lib.byteCells l) w) (h0 : l ≠ []) :
    Calls Try.prog 65 #[.pointer (some ⟨b, 0, none⟩)] w fun e w' => e = .returned (.string ⟨l.toArray⟩) ∧ (Lib.IsBuilderF 80 5 B b (Lib.byteCells l) w' ∧ Below B w w') := Any.Builder_String_f Try.lays169 Try.Builder_Extra_169 B b l w h h0
open Go.RowKit in
theorem Try.Builder_String_empty_f (B b : Nat) (w : World) (h : Lib.IsBuilderF 80 5 B b [] w) (hBw : B ≤ w.heap.size) :
    Calls Try.prog 65 #[.pointer (some ⟨b, 0, none⟩)] w fun e w' => e = .returned (.string ⟨#[]⟩) ∧ (Lib.IsBuilderF 80 5 B b [] w' ∧ Below B w w') := Any.Builder_String_empty_f Try.lays169 Try.Builder_Extra_169 B b w h hBw
open Go.RowKit in
theorem Try.Builder_String_any_f (B b : Nat) (l : List UInt8) (w : World) (h : Lib.IsBuilderF 80 5 B b (Lib.byteCells l) w) (hBw : B ≤ w.heap.size) :
    Calls Try.prog 65 #[.pointer (some ⟨b, 0, none⟩)] w fun e w' => e = .returned (.string ⟨l.toArray⟩) ∧ (Lib.IsBuilderF 80 5 B b (Lib.byteCells l) w' ∧ Below B w w') := Any.Builder_String_any_f Try.lays169 Try.Builder_Extra_169 B b l w h hBw
open Go.RowKit in
theorem Try.Builder_String_k (B b : Nat) (l : List UInt8) (w : World) (h : Lib.IsBuilderF 80 5 B b (Lib.byteCells l) w) (h0 : l ≠ []) :
    Calls Try.prog 65 #[.pointer (some ⟨b, 0, none⟩)] w fun e w' => e = .returned (.string ⟨l.toArray⟩) ∧ (Lib.IsBuilderF 80 5 B b (Lib.byteCells l) w' ∧ Below B w w' ∧ Lib.OthersKept 5 (some b) w w') := Any.Builder_String_k Try.lays169 Try.Builder_Extra_169 B b l w h h0
open Go.RowKit in
theorem Try.Builder_String_empty_k (B b : Nat) (w : World) (h : Lib.IsBuilderF 80 5 B b [] w) (hBw : B ≤ w.heap.size) :
    Calls Try.prog 65 #[.pointer (some ⟨b, 0, none⟩)] w fun e w' => e = .returned (.string ⟨#[]⟩) ∧ (Lib.IsBuilderF 80 5 B b [] w' ∧ Below B w w' ∧ Lib.OthersKept 5 (some b) w w') := Any.Builder_String_empty_k Try.lays169 Try.Builder_Extra_169 B b w h hBw
open Go.RowKit in
theorem Try.Builder_String_any_k (B b : Nat) (l : List UInt8) (w : World) (h : Lib.IsBuilderF 80 5 B b (Lib.byteCells l) w) (hBw : B ≤ w.heap.size) :
    Calls Try.prog 65 #[.pointer (some ⟨b, 0, none⟩)] w fun e w' => e = .returned (.string ⟨l.toArray⟩) ∧ (Lib.IsBuilderF 80 5 B b (Lib.byteCells l) w' ∧ Below B w w' ∧ Lib.OthersKept 5 (some b) w w') := Any.Builder_String_any_k Try.lays169 Try.Builder_Extra_169 B b l w h hBw
end Go.Proofs

/- The two writing methods of strings.Builder that this seat's code calls (copyCheck, WriteString), at this translation, whose copyCheck ends in a refused panic: a builder that the call has made, written and not yet read. -/
namespace Go.Proofs.Ytfheflihofafdaa.Cd
open Go.Shelf Go.RowKit

theorem size56 : (Try.prog.info? 80).map (·.size) = some 2 := by kernel_rfl
theorem lies56 : liesAt Try.prog Try.prog.depth 80 (2 / Try.prog.cellsOf 80) 0 80 1 = true := by kernel_rfl
theorem info5' : (Try.prog.info? 5).map (fun i => (i.zero, i.size, i.bytes)) = some (some (.int .u8 0), 1, 1) := by kernel_rfl

set_option maxHeartbeats 1000000 in
set_option maxRecDepth 100000 in
theorem copyCheck_used (b : Nat) (w : World) (h0 : w.cell? ⟨b, 0, none⟩ = some (.pointer (some ⟨b, 0, none⟩))) :
    Calls Try.prog 79 #[.pointer (some ⟨b, 0, none⟩)] w fun e w' => e = .returned (.tuple #[]) ∧ w' = w := by
  obtain ⟨j, hj, _⟩ := Option.map_eq_some_iff.1 size56
  go_enter Try.func79, Try.ntmps79
  go_wp2
  rw [Lib.run_neq_ptr_same w _ Try.underlying77 hj]
  go_wp2
  go_end0
  exact ⟨rfl, rfl⟩

set_option maxHeartbeats 1000000 in
set_option maxRecDepth 100000 in
theorem copyCheck_fresh (b : Nat) (w : World) (h0 : w.cell? ⟨b, 0, none⟩ = some (.pointer none)) (hsh : w.shape? b = some (80, 2)) (hfz : w.frozen? ⟨b, 0, none⟩ = false) :
    Calls Try.prog 79 #[.pointer (some ⟨b, 0, none⟩)] w fun e w' => e = .returned (.tuple #[]) ∧ w' = w.setCell ⟨b, 0, none⟩ (.pointer (some ⟨b, 0, none⟩)) := by
  obtain ⟨j, hj, hjs⟩ := Option.map_eq_some_iff.1 size56
  go_enter Try.func79, Try.ntmps79
  go_wp2
  rw [Lib.run_to_unsafe w ⟨b, 0, none⟩ Try.underlying77 Try.underlying103 hj (by rw [hjs]; decide) hsh (Nat.zero_lt_succ 1)]
  simp only [Result.andThen]
  rw [Oper.upon_value]
  go_wp2
  rw [run_callFunc_extern Try.func85 (by kernel_rfl) (by kernel_rfl) (by kernel_rfl) (e := Extern.AbiNoEscape.same) (by kernel_rfl)]
  rw [Lib.run_noEscape]
  simp only [Result.andThen]
  rw [Oper.upon_value]
  go_wp2
  rw [Lib.run_from_unsafe w ⟨b, 0, none⟩ Try.underlying103 Try.underlying77 hj hsh lies56]
  simp only [Result.andThen]
  rw [Oper.upon_value]
  go_wp2
  go_end0
  exact ⟨rfl, rfl⟩

theorem copyCheck_any (B b : Nat) (bs : List Value) (w : World) (h : Lib.IsBuilder 80 5 B b bs w) :
    Calls Try.prog 79 #[.pointer (some ⟨b, 0, none⟩)] w fun e w' => e = .returned (.tuple #[]) ∧ (Lib.BuilderAt 80 5 B b (.pointer (some ⟨b, 0, none⟩)) bs w' ∧ Below B w w') := by
  rcases h with h | h
  · refine (copyCheck_fresh b w h.cell0 h.shape h.frozen0).mono ?_
    rintro e w' ⟨rfl, rfl⟩
    exact ⟨rfl, h.used _, (Below.refl B w).setCell (p := ⟨b, 0, none⟩) h.1 _⟩
  · refine (copyCheck_used b w h.cell0).mono ?_
    rintro e w' ⟨rfl, rfl⟩
    exact ⟨rfl, h, Below.refl B _⟩


set_option maxHeartbeats 2000000 in
set_option maxRecDepth 100000 in
theorem writeString_any (B b : Nat) (bs : List Value) (s : ByteArray) (w : World) (h : Lib.IsBuilder 80 5 B b bs w) (hlen : bs.length + s.size ≤ 140737488355328) (hBw : B ≤ w.heap.size) :
    Calls Try.prog 64 #[.pointer (some ⟨b, 0, none⟩), .string s] w fun e w' => e = .returned (.tuple #[.int .i64 s.size, .nilIface]) ∧ (Lib.BuilderAt 80 5 B b (.pointer (some ⟨b, 0, none⟩)) (bs ++ Lib.strCells s) w' ∧ Below B w w') := by
  obtain ⟨i0, hi, hz0, hz1, hz2⟩ := info_parts info5'
  go_enter Try.func64, Try.ntmps64
  go_wp2_with (go_at_call 79; refine (copyCheck_any B b bs _ h).mono ?_)
  rintro e w1 ⟨rfl, h1, hb1⟩
  obtain ⟨hB, v, hbk, hown, hne⟩ := h1
  have c0 : w1.cell? ⟨b, 0, none⟩ = some (.pointer (some ⟨b, 0, none⟩)) := by rw [Lib.cell_of_heap hbk]; rfl
  have c1 : w1.cell? ⟨b, 1, none⟩ = some v := by rw [Lib.cell_of_heap hbk]; rfl
  go_wp2_with (at_builtin; refine Lib.wpList_append_own_string _ rfl _ _ 78 9 rfl B 5 i0 Try.underlying78 Try.underlying9 hi hz0 hz1 hz2 _ _ _ rfl hown s rfl ?c3 ?c4 ?c5 ?_)
  case c3 => unfold maxLen; omega
  case c4 => omega
  case c5 => have := hb1.size; omega
  intro v' w2 hown' hgrow _
  have hb2 : w2.heap[b]? = some (.cells #[.pointer (some ⟨b, 0, none⟩), v] 80 (0, 0)) := by
    rw [hgrow.block b (lt_of_block hbk) (fun e => hne e.symm)]
    exact hbk
  have d0 : w2.cell? ⟨b, 0, none⟩ = some (.pointer (some ⟨b, 0, none⟩)) := by rw [Lib.cell_of_heap hb2]; rfl
  have d1 : w2.cell? ⟨b, 1, none⟩ = some v := by rw [Lib.cell_of_heap hb2]; rfl
  have f1 : w2.frozen? ⟨b, 1, none⟩ = false := Lib.frozen_of_heap hb2 1
  obtain ⟨ao, n', cap, rfl⟩ : ∃ ao n' cap, v' = .slice ao n' cap := by
    rcases hown'.2 with ⟨hv, _⟩ | ⟨g, cap, cur, hv, _⟩
    · exact ⟨_, _, _, hv⟩
    · exact ⟨_, _, _, hv⟩
  go_wp2
  go_ret2
  refine ⟨rfl, ?_, ?_⟩
  · exact Lib.BuilderAt.put (T := 80) (e := 5) hB hb2 (bs' := bs ++ Lib.strCells s) (by simpa [Lib.strCells_length] using hown') (by decide)
  · exact (hb1.grown hgrow (by have := hb1.size; omega) (fun k hk => (hown.lt k hk).1)).setCell (p := ⟨b, 1, none⟩) hB _
end Go.Proofs.Ytfheflihofafdaa.Cd

/- codec.PutText, at this translation. -/
namespace Go.Proofs.Ytfheflihofafdaa.Cd
open Go.RowKit Go.Shelf

/-- The bytes of a text. -/
def encT (s : ByteArray) : List Nat := enc7 s.size ++ nats s
theorem strN_encT (s : ByteArray) : strN (encT s) = strN (enc7 s.size) ++ s := by rw [encT, strN_append, strN_nats]
theorem encT_byte (s : ByteArray) : ∀ d ∈ encT s, d < 256 := by
  intro d hd
  rcases List.mem_append.1 hd with h | h
  · exact enc7_byte _ d h
  · exact nats_lt s d h

set_option maxHeartbeats 1000000 in
theorem putText_great (s : ByteArray) (h : 65536 < s.size) (hm : s.size ≤ maxLen) (w : World) : Calls Try.prog 84 #[.string s] w fun e W' => e = .returned (.tuple #[.string ⟨#[]⟩, .int .i64 4]) ∧ Below w.heap.size w W' := by
  unfold maxLen at hm
  have h' : (65536 : Int) < s.size := by omega
  go_enter Try.func84, Try.ntmps84
  go_wp2
  go_ret2
  exact ⟨rfl, Below.refl _ _⟩
set_option maxHeartbeats 1000000 in
theorem putText_good (s : ByteArray) (h : s.size ≤ 65536) (w : World) : Calls Try.prog 84 #[.string s] w fun e W' => e = .returned (.tuple #[.string (strN (encT s)), .int .i64 0]) ∧ Below w.heap.size w W' := by
  have h' : ¬ (65536 : Int) < s.size := by omega
  have H := Lib.hid (strN_encT s)
  have hl : (enc7 s.size).length ≤ 6 := (enc7_len s.size 6 (by omega)).2 (by omega)
  have hz := strN_size (enc7 s.size)
  have hz2 : (strN (enc7 s.size)).size ≤ 6 := by omega
  clear hz hl
  go_enter Try.func84, Try.ntmps84
  go_wp2_with fail
  ((with_reducible refine (putInt_good _ s.size rfl (by omega) _).mono ?_); rintro e w1 ⟨rfl, hb1⟩)
  go_wp2
  go_ret2
  exact ⟨by rw [H.out]; rfl, hb1⟩

/-- A slice whose cells are these texts. -/
def IsStrs (w : World) (v : Value) (L : List ByteArray) : Prop :=
  ∃ a cap, v = .slice a L.length cap ∧ L.length ≤ maxLen ∧ L.length ≤ cap ∧ (L = [] ∨ ∃ b off, a = some ⟨b, off, none⟩ ∧ b < w.heap.size ∧ ∀ j (h : j < L.length), w.cell? ⟨b, off + j, none⟩ = some (.string L[j]))
theorem IsStrs.below {w w' : World} {v : Value} {L : List ByteArray} {B : Nat} (h : IsStrs w v L) (hB : Below B w w') (hz : w.heap.size ≤ B) : IsStrs w' v L := by
  obtain ⟨a, cap, e, h1, h2, h3⟩ := h
  refine ⟨a, cap, e, h1, h2, h3.imp id ?_⟩
  rintro ⟨b, off, e2, hb, hj⟩
  exact ⟨b, off, e2, Nat.lt_of_lt_of_le hb hB.size, fun j h => (hB.cell (p := ⟨b, off + j, none⟩) (show b < B by omega)).trans (hj j h)⟩

/-- The bytes of a list of texts. -/
def encTs (L : List ByteArray) : List Nat := enc7 L.length ++ L.flatMap encT
/-- As a builder's cells. -/
abbrev bcells (l : List Nat) : List Value := Lib.byteCells (l.map UInt8.ofNat)
theorem bcells_append (l m : List Nat) : bcells (l ++ m) = bcells l ++ bcells m := by simp [bcells, Lib.byteCells]
theorem strCells_strN (l : List Nat) : Lib.strCells (strN l) = bcells l := rfl
theorem bcells_length (l : List Nat) : (bcells l).length = l.length := by simp [bcells, Lib.byteCells]
theorem encT_len (s : ByteArray) (h : s.size ≤ 65536) : (encT s).length ≤ 65542 := by
  have := (enc7_len s.size 6 (by omega)).2 (by omega)
  rw [encT, List.length_append, nats_length]; omega
theorem flat_len (L : List ByteArray) (h : ∀ s ∈ L, s.size ≤ 65536) : (L.flatMap encT).length ≤ L.length * 65542 := by
  induction L with
  | nil => simp
  | cons s L ih =>
    have h1 := encT_len s (h s (by simp))
    have h2 := ih (fun t ht => h t (by simp [ht]))
    simp only [List.flatMap_cons, List.length_append, List.length_cons, Nat.add_mul]
    omega

theorem own_kept {W W' : World} {B e : Nat} {v : Value} {n : Nat} {xs : List Value} (h : W.ownsRow B e 1 v n xs) (hB : Below W.heap.size W W') : W'.ownsRow B e 1 v n xs := by
  refine h.kept (row := none) ⟨hB.os, hB.tape, hB.output, hB.size, fun k hk _ => hB.block k hk⟩ ?_
  cases hv : v.ownBlock
  · exact .inl rfl
  · exact .inr (by simp)
theorem builderAt_below {T e : TypeId} {B b : Nat} {p : Value} {bs : List Value} {W W' : World} (h : Lib.BuilderAt T e B b p bs W) (hB : Below W.heap.size W W') : Lib.BuilderAt T e B b p bs W' := by
  obtain ⟨h1, v, h2, h3, h4⟩ := h
  exact ⟨h1, v, (hB.block b (lt_of_block h2)).trans h2, own_kept h3 hB, h4⟩
theorem builder_below {T e : TypeId} {B b : Nat} {bs : List Value} {W W' : World} (h : Lib.IsBuilder T e B b bs W) (hB : Below W.heap.size W W') : Lib.IsBuilder T e B b bs W' := by
  rcases h with h | h
  · exact .inl (builderAt_below h hB)
  · exact .inr (builderAt_below h hB)
end Go.Proofs.Ytfheflihofafdaa.Cd

/- The reference's numbers, at this translation. -/
namespace Go.Proofs.Ytfheflihofafdaa.Cd
open Go.RowKit Go.Shelf

theorem conv_one (d : Nat) (hd : d < 256) (W : World) (g : Nat) (h : W.cell? ⟨g, 0, none⟩ = some (.int .u8 (d : Int))) :
    (convert 78 9 (.slice (some ⟨g, 0, none⟩) 1 1)).run Try.prog W = .ok (.string (strN [d])) W := by
  have := run_convert_bytes_back (P := Try.prog) W 78 9 5 ⟨g, 0, none⟩ 1 [UInt8.ofNat d] Try.underlying78 Try.underlying5 Try.underlying9 (fun j hj => by
    obtain rfl : j = 0 := by simpa using hj
    simpa [Addr.add, Nat.mod_eq_of_lt hd] using h)
  exact this

set_option maxRecDepth 100000 in
set_option maxHeartbeats 1000000 in
theorem refPut_small (n : Nat) (h : n < 128) (w : World) : Calls Try.prog 80 #[.int .i64 n] w fun e W' => e = .returned (.string (strN [n])) ∧ Below w.heap.size w W' := by
  have kc := conv_one n (by omega) (w.alloc (.cells #[.int .u8 (n : Int)] 5)) w.heap.size (by simp [World.cell?_alloc_new])
  go_enter Try.func80, Try.ntmps80
  go_wp2
  go_ret
  exact ⟨rfl, (Below.refl _ _).alloc (Nat.le_refl _) _⟩

set_option maxRecDepth 100000 in
set_option maxHeartbeats 2000000 in
theorem refPut_big (n : Nat) (h : 128 ≤ n) (hm : n ≤ 1099511627776) (s : ByteArray) (hs : s.size ≤ 100) (w : World)
    (hrec : ∀ W, Calls Try.prog 80 #[.int .i64 ((n / 128 : Nat) : Int)] W fun e W' => e = .returned (.string s) ∧ Below W.heap.size W W') :
    Calls Try.prog 80 #[.int .i64 n] w fun e W' => e = .returned (.string (strN [n % 128 + 128] ++ s)) ∧ Below w.heap.size w W' := by
  obtain ⟨r, hr⟩ : ∃ r, r = n % 128 := ⟨_, rfl⟩
  obtain ⟨b, hb⟩ : ∃ b, b = r + 128 := ⟨_, rfl⟩
  obtain ⟨q, hq⟩ : ∃ q, q = n / 128 := ⟨_, rfl⟩
  have t1 : (n : Int).tmod 128 = (r : Int) := by rw [hr]; rfl
  have t2 : IntKind.i64.wrap (128 + (r : Int)) = (b : Int) := by rw [show (128 + (r : Int)) = (b : Int) by omega]; exact IntWalk.i64_in _ (by omega)
  have t3 : IntKind.u8.wrap (b : Int) = (b : Int) := by
    simp [IntKind.wrap, IntKind.bits, IntKind.signed]; omega
  have t4 : IntKind.i64.wrap ((n : Int) / 128) = (q : Int) := by rw [show ((n : Int) / 128) = (q : Int) by omega]; exact IntWalk.i64_in _ (by omega)
  rw [← hq] at hrec
  rw [← hr, ← hb]
  have hb256 : b < 256 := by omega
  have kc := conv_one b (by omega) (w.alloc (.cells #[.int .u8 (b : Int)] 5)).drew w.heap.size (by simp [World.cell?_alloc_new])
  have HR := Lib.hid hrec
  clear hrec hr hb hq
  have KG := Lib.hid (fun W g h => conv_one b hb256 W g h)
  have hcs : (strN [b]).size ≤ 1 := by rw [strN_size]; simp
  generalize strN [b] = c at kc KG hcs ⊢
  have start := (Below.refl w.heap.size w).drew
  have start2 := ((Below.refl w.heap.size w).alloc (Nat.le_refl _) (.cells #[.int .u8 (b : Int)] 5)).drew
  go_enter Try.func80, Try.ntmps80
  go_wp2
  go_region_with
    (first | (go_at_call 80; (with_reducible refine (HR.out _).mono ?_); rintro e w1 ⟨rfl, hb1⟩; (first | (have hh := start2.trans (hb1.mono start2.size); have kc2 := KG.out w1 w.heap.size ((hb1.cell (p := ⟨w.heap.size, 0, none⟩) (by simp)).trans (by simp [World.cell?_alloc_new]))) | (have hh := start.trans (hb1.mono start.size); have kc3 := KG.out (w1.alloc (.cells #[.int .u8 (b : Int)] 5)) w1.heap.size (by simp [World.cell?_alloc_new]); have hh2 := hh.alloc hh.size (.cells #[.int .u8 (b : Int)] 5)))))
  all_goals
    go_wp2_with fail
    go_ret
    first | exact ⟨rfl, hh2⟩ | exact ⟨rfl, hh⟩

theorem refPut_any (n : Nat) (hm : n ≤ 1099511627776) (w : World) : Calls Try.prog 80 #[.int .i64 n] w fun e W' => e = .returned (.string (strN (enc7 n))) ∧ Below w.heap.size w W' := by
  induction n using Nat.strongRecOn generalizing w with
  | _ n ih =>
    by_cases h : n < 128
    · rw [enc7_small n h]; exact refPut_small n h w
    · rw [enc7_big n (by omega), show (n % 128 + 128) :: enc7 (n / 128) = [n % 128 + 128] ++ enc7 (n / 128) from rfl, strN_append]
      refine refPut_big n (by omega) hm _ ?_ w fun W => ih (n / 128) (Nat.div_lt_self (by omega) (by omega)) (by omega) W
      rw [strN_size]
      have := (enc7_len (n / 128) 6 (by omega)).2 (by omega)
      omega
end Go.Proofs.Ytfheflihofafdaa.Cd

/- The reference's GetInt, at this translation. -/
namespace Go.Proofs.Ytfheflihofafdaa.Cd
open Go.RowKit Go.Shelf

theorem pow_bd (i : Nat) (hi : i ≤ 6) : 128 ^ i ≤ 4398046511104 := by
  have h2 : 128 ^ i ≤ 128 ^ 6 := Nat.pow_le_pow_right (by decide) (by omega)
  have h3 : (128 : Nat) ^ 6 = 4398046511104 := by decide
  omega
theorem pow_bd5 (i : Nat) (hi : i ≤ 5) : 128 ^ i ≤ 34359738368 := by
  have h2 : 128 ^ i ≤ 128 ^ 5 := Nat.pow_le_pow_right (by decide) (by omega)
  have h3 : (128 : Nat) ^ 5 = 34359738368 := by decide
  omega

end Go.Proofs.Ytfheflihofafdaa.Cd

/- GetText and PutText, of program and reference, at this translation. -/
namespace Go.Proofs.Ytfheflihofafdaa.Cd
open Go.RowKit Go.Shelf

/-- What GetText reads: the text, the number of its bytes, the error. -/
def getT (s : ByteArray) : ByteArray × Nat × Int :=
  if (getL 12 13 6 0 0 (nats s)).2.2 ≠ 0 then (⟨#[]⟩, 0, (getL 12 13 6 0 0 (nats s)).2.2)
  else if 65536 < (getL 12 13 6 0 0 (nats s)).1 then (⟨#[]⟩, 0, 13)
  else if s.size < (getL 12 13 6 0 0 (nats s)).2.1 + (getL 12 13 6 0 0 (nats s)).1 then (⟨#[]⟩, 0, 12)
  else (s.extract (getL 12 13 6 0 0 (nats s)).2.1 ((getL 12 13 6 0 0 (nats s)).2.1 + (getL 12 13 6 0 0 (nats s)).1), (getL 12 13 6 0 0 (nats s)).2.1 + (getL 12 13 6 0 0 (nats s)).1, 0)

/-- What was read lies in the string. -/
theorem getL_fits (s : ByteArray) (x k : Nat) (h : getL 12 13 6 0 0 (nats s) = (x, k, 0)) : 1 ≤ k ∧ k ≤ 6 ∧ k ≤ s.size ∧ x ≤ 1099511627776 ∧ (enc7 x).length = k ∧ enc7 x <+: nats s := by
  obtain ⟨m, e1, e2, _, e4, e5⟩ := getL_canon 12 13 (by decide) (by decide) 6 0 0 (nats s) x k (nats_lt s) (by decide) h
  have e6 : x = m := by simpa using e2
  subst e6
  have h1 := enc7_pos x
  have h6 := (enc7_len x 6 (by omega)).2 (by omega)
  have h7 := e5.length_le
  rw [nats_length] at h7
  exact ⟨by omega, by omega, by omega, e4, by omega, e5⟩

theorem getT_fits (s : ByteArray) (h : (getT s).2.2 = 0) : 1 ≤ (getT s).2.1 ∧ (getT s).2.1 ≤ s.size ∧ (getT s).1.size ≤ 65536 ∧ (getT s).1.size ≤ s.size := by
  rcases hg : getL 12 13 6 0 0 (nats s) with ⟨x, k, e⟩
  unfold getT at h ⊢
  rw [hg] at h ⊢
  by_cases h1 : e = 0
  · subst h1
    obtain ⟨f1, f2, f3, f4, f5, f6⟩ := getL_fits s x k hg
    by_cases h2 : 65536 < x
    · rw [if_neg (by simp), if_pos h2] at h; simp at h
    · by_cases h3 : s.size < k + x
      · rw [if_neg (by simp), if_neg h2, if_pos h3] at h; simp at h
      · rw [if_neg (by simp), if_neg h2, if_neg h3]
        have : (s.extract k (k + x)).size = x := by rw [ByteArray.size_extract]; omega
        simp only [this]
        omega
  · rw [if_pos h1] at h; exact absurd h h1










set_option maxHeartbeats 1000000 in
theorem refPutText_good (s : ByteArray) (h : s.size ≤ 65536) (w : World) : Calls Try.prog 68 #[.string s] w fun e W' => e = .returned (.tuple #[.string (strN (encT s)), .int .i64 0]) ∧ Below w.heap.size w W' := by
  have h' : ¬ (65536 : Int) < s.size := by omega
  have H := Lib.hid (strN_encT s)
  have hl : (enc7 s.size).length ≤ 6 := (enc7_len s.size 6 (by omega)).2 (by omega)
  have hz := strN_size (enc7 s.size)
  have hz2 : (strN (enc7 s.size)).size ≤ 6 := by omega
  clear hz hl
  go_enter Try.func68, Try.ntmps68
  go_wp2_with fail
  ((with_reducible refine (refPut_any s.size (by omega) _).mono ?_); rintro e w1 ⟨rfl, hb1⟩)
  go_wp2
  go_ret2
  exact ⟨by rw [H.out]; rfl, hb1⟩
end Go.Proofs.Ytfheflihofafdaa.Cd
