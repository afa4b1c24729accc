/- A region that draws its order and makes variables, calls and stores: boxes that are made in it or were there, each stored into once at most. -/
import Derived.Test.YtfheflihofafdaaRgInv
import Derived.Lib.Builder
namespace Go
open Go.RowKit

/-- A box that the region makes, or writes. -/
structure RBox where
  al : Option Nat
  st : Option Nat
  blk : Nat
  z : Array Value
  f : Array Value
  T : TypeId
def RBox.cur (b : RBox) (l : Array Bool) : Array Value := match b.st with
  | none => b.z
  | some s => if l.getD s false = true then b.f else b.z
def RBox.fin (b : RBox) : Array Value := match b.st with
  | none => b.z
  | some _ => b.f
def RBox.here (b : RBox) (l : Array Bool) : Prop := match b.al with
  | none => True
  | some j => l.getD j false = true
/-- One block alone has changed. -/
structure OnlyB (g : Nat) (w w' : World) : Prop where
  size : w'.heap.size = w.heap.size
  os : w'.os = w.os
  tape : w'.tape = w.tape
  output : w'.output = w.output
  same : ∀ j, j ≠ g → w'.heap[j]? = w.heap[j]?
theorem OnlyB.refl (g : Nat) (w : World) : OnlyB g w w := ⟨rfl, rfl, rfl, rfl, fun _ _ => rfl⟩
theorem OnlyB.set {g : Nat} {w w' : World} (h : OnlyB g w w') (o : Nat) (v : Value) : OnlyB g w (w'.setCell ⟨g, o, none⟩ v) := by
  refine ⟨?_, h.os, h.tape, h.output, fun j hj => (Below.heap_setCell w' ⟨g, o, none⟩ v j hj).trans (h.same j hj)⟩
  rw [← h.size]; simp [World.setCell]
theorem setCell_heap {w : World} {g : Nat} {cs : Array Value} {T : TypeId} {fr : Nat × Nat} (h : w.heap[g]? = some (.cells cs T fr)) (o : Nat) (v : Value) : (w.setCell ⟨g, o, none⟩ v).heap[g]? = some (.cells (cs.setIfInBounds o v) T fr) := by
  obtain ⟨hlt, hk⟩ := Array.getElem?_eq_some_iff.1 h
  show (w.heap.modify g _)[g]? = _
  rw [Array.getElem?_eq_getElem (by rw [Array.size_modify]; exact hlt), Array.getElem_modify_self, hk]
  rfl
/-- What the region leaves alone. -/
def Keep (B : Nat) (w : World) (hs : List (Nat × Obj)) (W : World) : Prop := Below B w W ∧ ∀ p ∈ hs, W.heap[p.1]? = some p.2
theorem Keep.on {B : Nat} {w : World} {hs : List (Nat × Obj)} {W W' : World} (h : Keep B w hs W) (hB : B ≤ W.heap.size) (hb : Below W.heap.size W W') : Keep B w hs W' :=
  ⟨h.1.trans (hb.mono hB), fun p hp => (hb.block _ (Array.getElem?_eq_some_iff.1 (h.2 p hp)).1).trans (h.2 p hp)⟩
theorem Keep.only {B : Nat} {w : World} {hs : List (Nat × Obj)} {W W' : World} {g : Nat} (h : Keep B w hs W) (hg : B ≤ g) (hn : ∀ p ∈ hs, p.1 ≠ g) (ho : OnlyB g W W') : Keep B w hs W' := by
  refine ⟨⟨ho.os.trans h.1.os, ho.tape.trans h.1.tape, ho.output.trans h.1.output, by rw [ho.size]; exact h.1.size, fun k hk => (ho.same k (by omega)).trans (h.1.block k hk)⟩, fun p hp => (ho.same _ (hn p hp)).trans (h.2 p hp)⟩
theorem Keep.get {B : Nat} {w : World} {hs : List (Nat × Obj)} {W : World} (h : Keep B w hs W) (k : Nat) {p : Nat × Obj} (hp : hs[k]? = some p) : W.heap[p.1]? = some p.2 := h.2 p (List.mem_of_getElem? hp)
structure BoxSt (Bs : List RBox) (N : Nat) (l : Array Bool) (g : Nat → Nat) (w : World) : Prop where
  here : ∀ (k : Nat) (b : RBox), Bs[k]? = some b → b.here l → w.heap[g k]? = some (.cells (b.cur l) b.T (0, 0))
  old : ∀ (k : Nat) (b : RBox), Bs[k]? = some b → b.al = none → g k = b.blk
  new : ∀ (k : Nat) (b : RBox), Bs[k]? = some b → b.al ≠ none → b.here l → N ≤ g k
  dif : ∀ (k k' : Nat) (b b' : RBox), Bs[k]? = some b → Bs[k']? = some b' → b.here l → b'.here l → k ≠ k' → g k ≠ g k'
/-- The value of an operation: a pointer to the box that it makes, or what was said. -/
def valG (Bs : List RBox) (val : Nat → Value) (g : Nat → Nat) (i : Nat) : Value := match Bs.findIdx? (fun b => b.al == some i) with
  | some k => .pointer (some ⟨g k, 0, none⟩)
  | none => val i
def isAl (Bs : List RBox) (i : Nat) : Bool := Bs.any fun b => b.al == some i
def isSt (Bs : List RBox) (i : Nat) : Bool := Bs.any fun b => b.st == some i
theorem valG_plain {Bs : List RBox} {val : Nat → Value} {g : Nat → Nat} {i : Nat} (h : isAl Bs i = false) : valG Bs val g i = val i := by
  unfold valG
  have : Bs.findIdx? (fun b => b.al == some i) = none := by
    rw [List.findIdx?_eq_none_iff]
    intro b hb
    have := h
    unfold isAl at this
    rw [List.any_eq_false] at this
    simpa using this b hb
  rw [this]
/-- No box is made twice, none stored into twice; boxes are stored into behind their making. -/
def boxesB (Bs : List RBox) : Bool := (Bs.zipIdx.all fun x => Bs.zipIdx.all fun y => x.2 == y.2 || ((x.1.al == none || x.1.al != y.1.al) && (x.1.st == none || x.1.st != y.1.st))) &&
  Bs.all fun x => Bs.all fun y => x.al == none || x.al != y.st
theorem boxes_al {Bs : List RBox} (h : boxesB Bs = true) {k k' : Nat} {b b' : RBox} (h1 : Bs[k]? = some b) (h2 : Bs[k']? = some b') {i : Nat} (e1 : b.al = some i) (e2 : b'.al = some i) : k = k' := by
  simp only [boxesB, Bool.and_eq_true] at h
  have a := List.all_eq_true.1 (List.all_eq_true.1 h.1 (b, k) (List.mem_zipIdx_iff_getElem?.2 h1)) (b', k') (List.mem_zipIdx_iff_getElem?.2 h2)
  simp only [Bool.or_eq_true, beq_iff_eq, Bool.and_eq_true] at a
  rcases a with a | a
  · exact a
  · have := a.1
    rw [e1, e2] at this; simp at this
theorem boxes_st {Bs : List RBox} (h : boxesB Bs = true) {k k' : Nat} {b b' : RBox} (h1 : Bs[k]? = some b) (h2 : Bs[k']? = some b') {i : Nat} (e1 : b.st = some i) (e2 : b'.st = some i) : k = k' := by
  simp only [boxesB, Bool.and_eq_true] at h
  have a := List.all_eq_true.1 (List.all_eq_true.1 h.1 (b, k) (List.mem_zipIdx_iff_getElem?.2 h1)) (b', k') (List.mem_zipIdx_iff_getElem?.2 h2)
  simp only [Bool.or_eq_true, beq_iff_eq, Bool.and_eq_true] at a
  rcases a with a | a
  · exact a
  · have := a.2
    rw [e1, e2] at this; simp at this
theorem boxes_as {Bs : List RBox} (h : boxesB Bs = true) {k k' : Nat} {b b' : RBox} (h1 : Bs[k]? = some b) (h2 : Bs[k']? = some b') {i : Nat} (e1 : b.al = some i) (e2 : b'.st = some i) : False := by
  simp only [boxesB, Bool.and_eq_true] at h
  have a := List.all_eq_true.1 (List.all_eq_true.1 h.2 b (List.mem_of_getElem? h1)) b' (List.mem_of_getElem? h2)
  rw [e1, e2] at a; simp at a
theorem boxes_old {Bs : List RBox} (h : Bs.Pairwise fun x y => x.al = none → y.al = none → x.blk ≠ y.blk) {k k' : Nat} {b b' : RBox} (h1 : Bs[k]? = some b) (h2 : Bs[k']? = some b') (hne : k ≠ k') (e1 : b.al = none) (e2 : b'.al = none) : b.blk ≠ b'.blk := by
  obtain ⟨l1, rfl⟩ := List.getElem?_eq_some_iff.1 h1
  obtain ⟨l2, rfl⟩ := List.getElem?_eq_some_iff.1 h2
  rcases Nat.lt_or_gt_of_ne hne with q | q
  · exact List.pairwise_iff_getElem.1 h k k' l1 l2 q e1 e2
  · exact fun e => List.pairwise_iff_getElem.1 h k' k l2 l1 q e2 e1 e.symm
/-- What is known where operation o is taken up: of the values of those on which it hangs. -/
structure KnownG (md : Region.Mode) (ops : Array Oper) (Bs : List RBox) (val : Nat → Value) (g : Nat → Nat) (a0 : Act) (o : Oper) (a : Act) : Prop where
  has : ∀ (j : Nat) (oj : Oper) (d : Tmp), ops[j]? = some oj → oj.dst = some d → (o.after.toList.any fun e => e.on == j && Region.binds md e) = true → d < a0.tmps.size → isAl Bs j = false → a.tmps[d]? = some (val j)
  ptr : ∀ (k : Nat) (b : RBox) (j : Nat) (oj : Oper) (d : Tmp), Bs[k]? = some b → b.al = some j → ops[j]? = some oj → oj.dst = some d → (o.after.toList.any fun e => e.on == j && Region.binds md e) = true → d < a0.tmps.size → a.tmps[d]? = some (.pointer (some ⟨g k, 0, none⟩))
  keep : ∀ t, (ops.toList.all fun o => o.dst != some t) = true → a.tmps[t]? = a0.tmps[t]?
  size : a.tmps.size = a0.tmps.size
/-- What is owed for each operation. -/
def StepG (P : Program) (ops : Array Oper) (Q : Exit → Act → World → Prop) (a0 : Act) (B : Nat) (w : World) (hs : List (Nat × Obj)) (Bs : List RBox) (val : Nat → Value) (i : Nat) (o : Oper) : Prop :=
  (isAl Bs i = false → isSt Bs i = false → ∀ g a W, Keep B w hs W → KnownG .any ops Bs val g a0 o a → wpOp P ops Q i (fun a' W' => a' = a.put o.dst (val i) ∧ Below W.heap.size W W') a W) ∧
  (∀ (k : Nat) (b : RBox), Bs[k]? = some b → b.al = some i → ∀ a W K, K (a.put o.dst (.pointer (some ⟨W.heap.size, 0, none⟩))) (W.alloc (.cells b.z b.T)) → wpOp P ops Q i K a W) ∧
  (∀ (k : Nat) (b : RBox), Bs[k]? = some b → b.st = some i → ((b.al.all fun j => o.after.toList.any fun e => e.on == j && Region.binds .any e) = true) ∧ o.dst = none ∧ ∀ g a W K, Keep B w hs W → KnownG .any ops Bs val g a0 o a → (b.al = none → g k = b.blk) → W.heap[g k]? = some (.cells b.z b.T (0, 0)) →
    (∀ W', OnlyB (g k) W W' → W'.heap[g k]? = some (.cells b.f b.T (0, 0)) → K a W') → wpOp P ops Q i K a W)
theorem stepG_plain {P : Program} {ops : Array Oper} {Q : Exit → Act → World → Prop} {a0 : Act} {B : Nat} {w : World} {hs : List (Nat × Obj)} {Bs : List RBox} {val : Nat → Value} {i : Nat} {o : Oper} (h1 : isAl Bs i = false) (h2 : isSt Bs i = false)
    (h : ∀ g a W, Keep B w hs W → KnownG .any ops Bs val g a0 o a → wpOp P ops Q i (fun a' W' => a' = a.put o.dst (val i) ∧ Below W.heap.size W W') a W) : StepG P ops Q a0 B w hs Bs val i o := by
  refine ⟨fun _ _ => h, fun k b hk hb => ?_, fun k b hk hb => ?_⟩
  · unfold isAl at h1
    rw [List.any_eq_false] at h1
    exact absurd (by rw [hb]; simp) (h1 b (List.mem_of_getElem? hk))
  · unfold isSt at h2
    rw [List.any_eq_false] at h2
    exact absurd (by rw [hb]; simp) (h2 b (List.mem_of_getElem? hk))
theorem stepG_alloc {P : Program} {ops : Array Oper} {Q : Exit → Act → World → Prop} {a0 : Act} {B : Nat} {w : World} {hs : List (Nat × Obj)} {Bs : List RBox} {val : Nat → Value} {i : Nat} {o : Oper} (hB : boxesB Bs = true) (k : Nat) (b : RBox) (hk : Bs[k]? = some b) (hb : b.al = some i)
    (h : ∀ a W K, K (a.put o.dst (.pointer (some ⟨W.heap.size, 0, none⟩))) (W.alloc (.cells b.z b.T)) → wpOp P ops Q i K a W) : StepG P ops Q a0 B w hs Bs val i o := by
  refine ⟨fun h1 _ => ?_, fun k' b' hk' hb' => ?_, fun k' b' hk' hb' => ?_⟩
  · unfold isAl at h1
    rw [List.any_eq_false] at h1
    exact absurd (by rw [hb]; simp) (h1 b (List.mem_of_getElem? hk))
  · have := boxes_al hB hk hk' hb hb'
    subst this
    rw [hk] at hk'; cases hk'
    exact h
  · exact (boxes_as hB hk hk' hb hb').elim
theorem stepG_store {P : Program} {ops : Array Oper} {Q : Exit → Act → World → Prop} {a0 : Act} {B : Nat} {w : World} {hs : List (Nat × Obj)} {Bs : List RBox} {val : Nat → Value} {i : Nat} {o : Oper} (hB : boxesB Bs = true) (k : Nat) (b : RBox) (hk : Bs[k]? = some b) (hb : b.st = some i)
    (hd : o.dst = none) (ha : (b.al.all fun j => o.after.toList.any fun e => e.on == j && Region.binds .any e) = true)
    (h : ∀ g a W K, Keep B w hs W → KnownG .any ops Bs val g a0 o a → (b.al = none → g k = b.blk) → W.heap[g k]? = some (.cells b.z b.T (0, 0)) → (∀ W', OnlyB (g k) W W' → W'.heap[g k]? = some (.cells b.f b.T (0, 0)) → K a W') → wpOp P ops Q i K a W) : StepG P ops Q a0 B w hs Bs val i o := by
  refine ⟨fun _ h2 => ?_, fun k' b' hk' hb' => ?_, fun k' b' hk' hb' => ?_⟩
  · unfold isSt at h2
    rw [List.any_eq_false] at h2
    exact absurd (by rw [hb]; simp) (h2 b (List.mem_of_getElem? hk))
  · exact (boxes_as hB hk' hk hb' hb).elim
  · have := boxes_st hB hk hk' hb hb'
    subst this
    rw [hk] at hk'; cases hk'
    exact ⟨ha, hd, h⟩
structure RgStG (ops : Array Oper) (Bs : List RBox) (val : Nat → Value) (B N : Nat) (w : World) (hs : List (Nat × Obj)) (a0 : Act) (l : Array Bool) (a : Act) (W : World) : Prop where
  sz : l.size = ops.size
  tm : a.tmps.size = a0.tmps.size
  df : a.defers = a0.defers
  kp : Keep B w hs W
  nn : N ≤ W.heap.size
  keep : ∀ t, (∀ (i : Nat) (o : Oper), ops[i]? = some o → l.getD i false = true → o.dst ≠ some t) → a.tmps[t]? = a0.tmps[t]?
  wait : ∀ (k : Nat) (b : RBox) (s j : Nat), Bs[k]? = some b → b.st = some s → b.al = some j → l.getD s false = true → l.getD j false = true
  ex : ∃ g, BoxSt Bs N l g W ∧ ∀ (i : Nat) (o : Oper) (d : Tmp), ops[i]? = some o → o.dst = some d → l.getD i false = true → d < a0.tmps.size → a.tmps[d]? = some (valG Bs val g i)
theorem valG_al {Bs : List RBox} (hB : boxesB Bs = true) {val : Nat → Value} {g : Nat → Nat} {i k : Nat} {b : RBox} (hk : Bs[k]? = some b) (hb : b.al = some i) : valG Bs val g i = .pointer (some ⟨g k, 0, none⟩) := by
  unfold valG
  cases h : Bs.findIdx? (fun b => b.al == some i) with
  | none =>
    rw [List.findIdx?_eq_none_iff] at h
    have := h b (List.mem_of_getElem? hk)
    rw [hb] at this; simp at this
  | some k' =>
    rw [List.findIdx?_eq_some_iff_getElem] at h
    obtain ⟨hlt, h1, _⟩ := h
    have := boxes_al hB hk (List.getElem?_eq_getElem hlt) hb (by simpa using h1)
    rw [this]
theorem here_set {b : RBox} {l : Array Bool} {n i : Nat} (hs : l.size = n) (hi : i < n) (hne : b.al ≠ some i) : b.here (l.setIfInBounds i true) ↔ b.here l := by
  unfold RBox.here
  cases h : b.al with
  | none => exact Iff.rfl
  | some j =>
    simp only
    rw [flag_set hs hi]
    constructor
    · rintro (h1 | h1)
      · subst h1; exact absurd h hne
      · exact h1
    · exact .inr
theorem cur_set {b : RBox} {l : Array Bool} {n i : Nat} (hs : l.size = n) (hi : i < n) (hne : b.st ≠ some i) : b.cur (l.setIfInBounds i true) = b.cur l := by
  unfold RBox.cur
  cases h : b.st with
  | none => rfl
  | some j =>
    simp only
    have : ((l.setIfInBounds i true).getD j false = true) = (l.getD j false = true) := propext ((flag_set hs hi).trans ⟨fun q => q.resolve_left (fun e => hne (by rw [h, e])), .inr⟩)
    simp only [this]
theorem wp_region_box {P : Program} {id : Nat} {ops : Array Oper} {Q : Exit → Act → World → Prop} {a0 : Act} {w0 : World} (B : Nat) (w : World) (hs : List (Nat × Obj)) (Bs : List RBox) (val : Nat → Value) (hm : P.follows .mixedOrders = true)
    (hdeps : (ops.toList.zipIdx.all fun x => x.1.after.toList.all fun e => !Region.binds .any e || decide (e.on < x.2)) = true) (hn : onceB (ops.toList.map (·.dst)) = true) (hBs : boxesB Bs = true) (hdf : Bs.Pairwise fun x y => x.al = none → y.al = none → x.blk ≠ y.blk) (hin : (Bs.all fun b => (b.st.all fun s => decide (s < ops.size)) && b.al.all fun s => decide (s < ops.size)) = true)
    (hBw : B ≤ w0.heap.size) (h0 : Keep B w hs w0) (hold : ∀ b ∈ Bs, b.al = none → w0.heap[b.blk]? = some (.cells b.z b.T (0, 0)) ∧ B ≤ b.blk ∧ ∀ p ∈ hs, p.1 ≠ b.blk)
    (hstep : EachOp (StepG P ops Q a0 B w hs Bs val) 0 ops.toList)
    (hend : ∀ g W, Keep B w hs W → w0.heap.size ≤ W.heap.size → (∀ (k : Nat) (b : RBox), Bs[k]? = some b → W.heap[g k]? = some (.cells b.fin b.T (0, 0)) ∧ (b.al = none → g k = b.blk) ∧ (b.al ≠ none → w0.heap.size ≤ g k)) → (∀ (k k' : Nat) (b b' : RBox), Bs[k]? = some b → Bs[k']? = some b' → k ≠ k' → g k ≠ g k') →
      Q .normal (frameOf ops (valG Bs val g) a0 ops.size) W) : (Code.region id ops true).wp P Q a0 w0 := by
  have hO := once_arr hn
  have hlt : ∀ p ∈ hs, p.1 < w0.heap.size := fun p hp => (Array.getElem?_eq_some_iff.1 (h0.2 p hp)).1
  have holdlt : ∀ b ∈ Bs, b.al = none → b.blk < w0.heap.size := fun b hb e => (Array.getElem?_eq_some_iff.1 (hold b hb e).1).1
  have hdp : ∀ (i : Nat) (o : Oper), ops[i]? = some o → ∀ e ∈ o.after, Region.binds .any e = true → e.on < i := by
    intro i o ho e he hb
    have h1 : (o, i) ∈ ops.toList.zipIdx := by
      rw [List.mem_zipIdx_iff_getElem?]
      simpa using ho
    have h2 := List.all_eq_true.1 hdeps _ h1
    have h3 := List.all_eq_true.1 h2 e (by simpa using he)
    simpa [hb] using h3
  refine wp_region_any hm ?_
  refine wpAny_inv (ops := ops) (RgStG ops Bs val B w0.heap.size w hs a0) hdp (fun l a w h => h.sz) ?_ ?_ _ _ _ _ ?_ ?_
  · intro l a W i o h ho hl hd
    have hi : i < ops.size := (Array.getElem?_eq_some_iff.1 ho).1
    have hs' := h.sz
    have hf : ¬ l.getD i false = true := by
      rw [Array.getD_eq_getD_getElem?, Array.getElem?_eq_getElem (by omega)] at hl ⊢
      simp only [Option.getD_some] at hl ⊢
      rw [hl]; simp
    have step := EachOp.at _ 0 i o hstep (by simpa using ho)
    rw [Nat.zero_add] at step
    obtain ⟨s1, s2, s3⟩ := step
    obtain ⟨g, st, hv⟩ := h.ex
    have dep : ∀ j, (o.after.toList.any fun e => e.on == j && Region.binds .any e) = true → l.getD j false = true := by
      intro j hq
      obtain ⟨e, he, h1⟩ := List.any_eq_true.1 hq
      simp only [Bool.and_eq_true, beq_iff_eq] at h1
      rw [← h1.1]; exact hd e (by simpa using he) h1.2
    have known : KnownG .any ops Bs val g a0 o a := by
      refine ⟨fun j oj d hj hdj hq hltd hp => ?_, fun k b j oj d hk hb hj hdj hq hltd => ?_, fun t ht => h.keep t fun i o ho _ hq => ?_, h.tm⟩
      · rw [hv j oj d hj hdj (dep j hq) hltd, valG_plain hp]
      · rw [hv j oj d hj hdj (dep j hq) hltd, valG_al hBs hk hb]
      · have := List.all_eq_true.1 ht o (List.mem_of_getElem? (i := i) (by simpa using ho))
        simp [hq] at this
    -- how the frame goes on
    have frame : ∀ (v : Value) (g' : Nat → Nat), v = valG Bs val g' i → (∀ j, l.getD j false = true → valG Bs val g' j = valG Bs val g j) →
        (a.put o.dst v).tmps.size = a0.tmps.size ∧ (a.put o.dst v).defers = a0.defers ∧ (∀ t, (∀ (j : Nat) (oj : Oper), ops[j]? = some oj → (l.setIfInBounds i true).getD j false = true → oj.dst ≠ some t) → (a.put o.dst v).tmps[t]? = a0.tmps[t]?) ∧
        ∀ (j : Nat) (oj : Oper) (d : Tmp), ops[j]? = some oj → oj.dst = some d → (l.setIfInBounds i true).getD j false = true → d < a0.tmps.size → (a.put o.dst v).tmps[d]? = some (valG Bs val g' j) := by
      intro v g' hvv hsame
      obtain ⟨p1, p2, p3, p4⟩ := put_facts a o.dst v
      refine ⟨p1.trans h.tm, p2.trans h.df, fun t ht => ?_, fun j oj d hj hdj hlj hltd => ?_⟩
      · exact (p4 t (ht i o ho ((flag_set hs' hi).2 (.inl rfl)))).trans (h.keep t fun j oj hj hlj => ht j oj hj ((flag_set hs' hi).2 (.inr hlj)))
      · by_cases e : j = i
        · subst e
          rw [ho] at hj; cases hj
          rw [← hvv]
          exact p3 d hdj (by rw [h.tm]; exact hltd)
        · have hlj' := ((flag_set hs' hi).1 hlj).resolve_left e
          rw [hsame j hlj']
          exact (p4 d fun q => e (hO j i oj o d hj ho hdj q)).trans (hv j oj d hj hdj hlj' hltd)
    have szl : (l.setIfInBounds i true).size = ops.size := by rw [Array.size_setIfInBounds]; exact hs'
    cases hA : isAl Bs i with
    | true =>
      obtain ⟨b, hb, e⟩ := List.any_eq_true.1 hA
      have e : b.al = some i := by simpa using e
      obtain ⟨k, hk⟩ := List.mem_iff_getElem?.1 hb
      refine s2 k b hk e a W _ ?_
      have hbl : Below W.heap.size W (W.alloc (.cells b.z b.T)) := (Below.refl _ _).alloc (Nat.le_refl _) _
      have hgk : ∀ (k' : Nat) (b' : RBox), Bs[k']? = some b' → b'.here l → k' ≠ k := by
        rintro k' b' hk' hh rfl
        rw [hk] at hk'; cases hk'
        unfold RBox.here at hh
        rw [e] at hh
        exact hf hh
      have hval : ∀ j, l.getD j false = true → valG Bs val (fun x => if x = k then W.heap.size else g x) j = valG Bs val g j := by
        intro j hj
        unfold valG
        cases hx : Bs.findIdx? (fun b => b.al == some j) with
        | none => rfl
        | some k' =>
          have hne : k' ≠ k := by
            rintro rfl
            rw [List.findIdx?_eq_some_iff_getElem] at hx
            obtain ⟨hlt', h1, _⟩ := hx
            rw [List.getElem?_eq_getElem hlt'] at hk
            cases hk
            have : j = i := by
              rw [e] at h1
              have h2 : i = j := by simpa using h1
              exact h2.symm
            subst this
            exact hf hj
          simp [hne]
      obtain ⟨q1, q2, q3, q4⟩ := frame (.pointer (some ⟨W.heap.size, 0, none⟩)) (fun x => if x = k then W.heap.size else g x) (by rw [valG_al hBs hk e]; simp) hval
      refine ⟨szl, q1, q2, h.kp.on (by have := h.nn; omega) hbl, Nat.le_trans h.nn hbl.size, q3, fun k' b' s j hk' hs1 ha1 hl1 => (flag_set hs' hi).2 (.inr (h.wait k' b' s j hk' hs1 ha1 (((flag_set hs' hi).1 hl1).resolve_left (fun q => boxes_as hBs hk hk' e (by rw [hs1, q]))))), _, ⟨fun k' b' hk' hh => ?_, fun k' b' hk' hh => ?_, fun k' b' hk' hne hh => ?_, fun k1 k2 b1 b2 h1 h2 e1 e2 hne => ?_⟩, q4⟩
      · by_cases ek : k' = k
        · subst ek
          rw [hk] at hk'; cases hk'
          simp only [if_true]
          have : b.cur (l.setIfInBounds i true) = b.z := by
            unfold RBox.cur
            cases hsb : b.st with
            | none => rfl
            | some s =>
              simp only
              have : ¬ (l.setIfInBounds i true).getD s false = true := by
                rw [flag_set hs' hi]
                rintro (q | q)
                · subst q; exact boxes_as hBs hk hk e hsb
                · -- the store waits for the making
                  exact hf (h.wait _ b s i hk hsb e q)
              rw [if_neg this]
          rw [this]
          exact heap_alloc_new W _
        · simp only [if_neg ek]
          have hne' : b'.al ≠ some i := fun e' => ek (boxes_al hBs hk' hk e' e)
          have hst' : b'.st ≠ some i := fun e' => boxes_as hBs hk hk' e e'
          have h1 := st.here k' b' hk' ((here_set hs' hi hne').1 hh)
          rw [cur_set hs' hi hst']
          exact (hbl.block _ (Array.getElem?_eq_some_iff.1 h1).1).trans h1
      · have ek : k' ≠ k := by rintro rfl; rw [hk] at hk'; cases hk'; rw [e] at hh; cases hh
        simp only [if_neg ek]
        exact st.old k' b' hk' hh
      · by_cases ek : k' = k
        · subst ek
          simp only [if_true]
          exact h.nn
        · simp only [if_neg ek]
          exact st.new k' b' hk' hne ((here_set hs' hi (fun e' => ek (boxes_al hBs hk' hk e' e))).1 hh)
      · have lt : ∀ (k' : Nat) (b' : RBox), Bs[k']? = some b' → k' ≠ k → b'.here (l.setIfInBounds i true) → g k' < W.heap.size := fun k' b' hk' ek hh =>
          (Array.getElem?_eq_some_iff.1 (st.here k' b' hk' ((here_set hs' hi (fun e' => ek (boxes_al hBs hk' hk e' e))).1 hh))).1
        by_cases ek1 : k1 = k
        · by_cases ek2 : k2 = k
          · exact absurd (ek1.trans ek2.symm) hne
          · simp only [if_pos ek1, if_neg ek2]
            have := lt k2 b2 h2 ek2 e2
            omega
        · by_cases ek2 : k2 = k
          · simp only [if_neg ek1, if_pos ek2]
            have := lt k1 b1 h1 ek1 e1
            omega
          · simp only [if_neg ek1, if_neg ek2]
            exact st.dif k1 k2 b1 b2 h1 h2 ((here_set hs' hi (fun e' => ek1 (boxes_al hBs h1 hk e' e))).1 e1) ((here_set hs' hi (fun e' => ek2 (boxes_al hBs h2 hk e' e))).1 e2) hne
    | false =>
      have alne : ∀ (k' : Nat) (b' : RBox), Bs[k']? = some b' → b'.al ≠ some i := fun k' b' hk' e' => by
        have := hA
        unfold isAl at this
        rw [List.any_eq_false] at this
        exact absurd (by rw [e']; simp) (this b' (List.mem_of_getElem? hk'))
      cases hS : isSt Bs i with
      | true =>
        obtain ⟨b, hb, e⟩ := List.any_eq_true.1 hS
        have e : b.st = some i := by simpa using e
        obtain ⟨k, hk⟩ := List.mem_iff_getElem?.1 hb
        obtain ⟨ha, hdn, hgo⟩ := s3 k b hk e
        have hhere : b.here l := by
          unfold RBox.here
          cases hal : b.al with
          | none => trivial
          | some j => rw [hal] at ha; exact dep j (by simpa using ha)
        have hcur : b.cur l = b.z := by unfold RBox.cur; rw [e]; simp only; rw [if_neg hf]
        have hz := st.here k b hk hhere
        rw [hcur] at hz
        refine hgo g a W _ h.kp known (fun ha => st.old k b hk ha) hz fun W' ho' hz' => ?_
        obtain ⟨q1, q2, q3, q4⟩ := frame (valG Bs val g i) g rfl (fun _ _ => rfl)
        rw [hdn] at q1 q2 q3 q4
        have hgB : B ≤ g k ∧ ∀ p ∈ hs, p.1 ≠ g k := by
          by_cases hal : b.al = none
          · rw [st.old k b hk hal]; exact (hold b hb hal).2
          · have := st.new k b hk hal hhere
            exact ⟨by omega, fun p hp => by have := hlt p hp; omega⟩
        refine ⟨szl, q1, q2, h.kp.only hgB.1 hgB.2 ho', by rw [ho'.size]; exact h.nn, q3, fun k' b' s j hk' hs1 ha1 hl1 => (flag_set hs' hi).2 (.inr (by
          rcases (flag_set hs' hi).1 hl1 with q | q
          · have := boxes_st hBs hk hk' e (by rw [hs1, q])
            subst this
            rw [hk] at hk'; cases hk'
            unfold RBox.here at hhere
            rw [ha1] at hhere
            exact hhere
          · exact h.wait k' b' s j hk' hs1 ha1 q)), g, ⟨fun k' b' hk' hh => ?_, st.old, fun k' b' hk' hne hh => st.new k' b' hk' hne ((here_set hs' hi (alne k' b' hk')).1 hh), fun k1 k2 b1 b2 h1 h2 e1 e2 hne => st.dif k1 k2 b1 b2 h1 h2 ((here_set hs' hi (alne k1 b1 h1)).1 e1) ((here_set hs' hi (alne k2 b2 h2)).1 e2) hne⟩, q4⟩
        have hh' := (here_set hs' hi (alne k' b' hk')).1 hh
        by_cases ek : k' = k
        · subst ek
          rw [hk] at hk'; cases hk'
          have : b.cur (l.setIfInBounds i true) = b.f := by unfold RBox.cur; rw [e]; simp only; rw [if_pos ((flag_set hs' hi).2 (.inl rfl))]
          rw [this]; exact hz'
        · rw [cur_set hs' hi (fun e' => ek (boxes_st hBs hk' hk e' e))]
          exact (ho'.same _ (st.dif k' k b' b hk' hk hh' hhere ek)).trans (st.here k' b' hk' hh')
      | false =>
        have stne : ∀ (k' : Nat) (b' : RBox), Bs[k']? = some b' → b'.st ≠ some i := fun k' b' hk' e' => by
          have := hS
          unfold isSt at this
          rw [List.any_eq_false] at this
          exact absurd (by rw [e']; simp) (this b' (List.mem_of_getElem? hk'))
        refine wpOp_mono ?_ (s1 hA hS g a W h.kp known)
        rintro a' W' ⟨rfl, hb⟩
        obtain ⟨q1, q2, q3, q4⟩ := frame (val i) g (valG_plain hA).symm (fun _ _ => rfl)
        refine ⟨szl, q1, q2, h.kp.on (by have := h.nn; omega) hb, Nat.le_trans h.nn hb.size, q3, fun k' b' s j hk' hs1 ha1 hl1 => (flag_set hs' hi).2 (.inr (h.wait k' b' s j hk' hs1 ha1 (((flag_set hs' hi).1 hl1).resolve_left (fun q => stne k' b' hk' (by rw [hs1, q]))))), g, ⟨fun k' b' hk' hh => ?_, st.old, fun k' b' hk' hne hh => st.new k' b' hk' hne ((here_set hs' hi (alne k' b' hk')).1 hh), fun k1 k2 b1 b2 h1 h2 e1 e2 hne => st.dif k1 k2 b1 b2 h1 h2 ((here_set hs' hi (alne k1 b1 h1)).1 e1) ((here_set hs' hi (alne k2 b2 h2)).1 e2) hne⟩, q4⟩
        rw [cur_set hs' hi (stne k' b' hk')]
        have h1 := st.here k' b' hk' ((here_set hs' hi (alne k' b' hk')).1 hh)
        exact (hb.block _ (Array.getElem?_eq_some_iff.1 h1).1).trans h1
  · intro l a W h hall
    obtain ⟨g, st, hv⟩ := h.ex
    obtain ⟨f1, f2, f3, f4⟩ := frameOf_facts ops (valG Bs val g) a0 hO ops.size
    have e : a = frameOf ops (valG Bs val g) a0 ops.size := by
      refine act_eq (Array.ext_getElem? fun t => ?_) (h.df.trans f2.symm)
      by_cases q : ∃ (i : Nat) (o : Oper), ops[i]? = some o ∧ o.dst = some t
      · obtain ⟨i, o, ho, hd⟩ := q
        have hi : i < ops.size := (Array.getElem?_eq_some_iff.1 ho).1
        by_cases hltt : t < a0.tmps.size
        · rw [hv i o t ho hd (hall i hi) hltt, f3 i o t hi ho hd hltt]
        · rw [Array.getElem?_eq_none (by rw [h.tm]; omega), Array.getElem?_eq_none (by rw [f1]; omega)]
      · rw [h.keep t fun i o ho _ hd => q ⟨i, o, ho, hd⟩, f4 t fun i o _ ho hd => q ⟨i, o, ho, hd⟩]
    have hhere : ∀ (k : Nat) (b : RBox), Bs[k]? = some b → b.here l := by
      intro k b hk
      unfold RBox.here
      cases hal : b.al with
      | none => trivial
      | some j =>
        have := List.all_eq_true.1 hin b (List.mem_of_getElem? hk)
        rw [hal] at this
        simp at this
        exact hall j this.2
    rw [e]
    refine hend g W h.kp h.nn (fun k b hk => ⟨?_, st.old k b hk, fun hne => st.new k b hk hne (hhere k b hk)⟩) fun k k' b b' h1 h2 hne => st.dif k k' b b' h1 h2 (hhere k b h1) (hhere k' b' h2) hne
    have h1 := st.here k b hk (hhere k b hk)
    have : b.cur l = b.fin := by
      unfold RBox.cur RBox.fin
      cases hsb : b.st with
      | none => rfl
      | some s =>
        have := List.all_eq_true.1 hin b (List.mem_of_getElem? hk)
        rw [hsb] at this
        simp at this
        simp only
        rw [if_pos (hall s this.1)]
    rw [← this]; exact h1
  · have hn0 : ∀ i, ¬ (Array.replicate ops.size false).getD i false = true := by
      intro i hl
      rw [Array.getD_eq_getD_getElem?, Array.getElem?_replicate] at hl
      split at hl <;> simp at hl
    have hal0 : ∀ (k : Nat) (b : RBox), Bs[k]? = some b → b.here (Array.replicate ops.size false) → b.al = none := by
      intro k b _ hh
      unfold RBox.here at hh
      cases hal : b.al with
      | none => rfl
      | some j => rw [hal] at hh; exact absurd hh (hn0 j)
    refine ⟨by simp, rfl, rfl, ⟨h0.1.drew, h0.2⟩, Nat.le_refl _, fun _ _ => rfl, fun _ _ s _ _ _ _ hl => absurd hl (hn0 s), fun k => ((Bs[k]?).map (·.blk)).getD 0, ⟨fun k b hk hh => ?_, fun k b hk _ => by rw [hk]; rfl, fun k b hk hne hh => absurd (hal0 k b hk hh) hne, fun k k' b b' h1 h2 e1 e2 hne => ?_⟩, fun i o d _ _ hl => absurd hl (hn0 i)⟩
    · have h1 := (hold b (List.mem_of_getElem? hk) (hal0 k b hk hh)).1
      have : b.cur (Array.replicate ops.size false) = b.z := by
        unfold RBox.cur
        cases b.st with
        | none => rfl
        | some s => simp only; rw [if_neg (hn0 s)]
      rw [this, hk]; exact h1
    · rw [h1, h2]
      exact boxes_old hdf h1 h2 hne (hal0 k b h1 e1) (hal0 k' b' h2 e2)
  · refine Nat.le_trans List.count_le_length ?_
    simp
end Go
