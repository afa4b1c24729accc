/- A region that draws its order and whose last operation waits for all others: it is walked without its last operation, which comes behind. -/
import Derived.OrdersHeld
import Derived.Deep.RegionHeld
namespace Go

/-- Behind a region's other operations, its last one. -/
def lastly (P : Program) (ops : Array Oper) (Q : Exit → Act → World → Prop) (o : Oper) : Exit → Act → World → Prop
  | .normal, a, w => if Region.wanted o (yielded ops a.tmps) = true then Oper.wp P o a w (fun a w => Q .normal a w) Q else Q .normal (a.put o.dst undef) w
  | e, a, w => Q e a w
/-- Each operation but the last has one behind it that waits for it; operations wait for earlier ones alone; none is guarded. -/
def Region.chained (md : Region.Mode) (ops : Array Oper) : Bool :=
  (List.range ops.size).all fun j =>
    (((ops[j]?).map fun o => o.guard.isNone && o.after.all fun e => decide (e.on < j)).getD false) &&
    (decide (j + 1 = ops.size) || (List.range ops.size).any fun k => decide (j < k) && ((ops[k]?).map fun o => o.after.any fun e => Region.binds md e && decide (e.on = j)).getD false)
/-- What is listed waits for nothing. -/
def Region.shut (md : Region.Mode) (ops : Array Oper) (l : Array Bool) : Prop :=
  ∀ j o, ops[j]? = some o → l.getD j false = true → ∀ e ∈ o.after, Region.binds md e = true → l.getD e.on false = true

section
variable {P : Program} {md : Region.Mode} {ops : Array Oper} {Q : Exit → Act → World → Prop}

theorem chained_at (h : Region.chained md ops = true) (j : Nat) (hj : j < ops.size) :
    (ops[j].guard = none ∧ ∀ e ∈ ops[j].after, e.on < j) ∧ (j + 1 = ops.size ∨ ∃ k, j < k ∧ ∃ hk : k < ops.size, ∃ e ∈ ops[k].after, Region.binds md e = true ∧ e.on = j) := by
  unfold Region.chained at h
  rw [List.all_eq_true] at h
  have h1 := h j (by simpa using hj)
  rw [Bool.and_eq_true] at h1
  obtain ⟨h1, h2⟩ := h1
  rw [Array.getElem?_eq_getElem hj] at h1
  simp only [Option.map_some, Option.getD_some, Bool.and_eq_true, Option.isNone_iff_eq_none, Array.all_eq_true', decide_eq_true_eq] at h1
  refine ⟨h1, ?_⟩
  rw [Bool.or_eq_true] at h2
  rcases h2 with h2 | h2
  · exact .inl (by simpa using h2)
  · refine .inr ?_
    rw [List.any_eq_true] at h2
    obtain ⟨k, hk, h3⟩ := h2
    have hk : k < ops.size := by simpa using hk
    rw [Array.getElem?_eq_getElem hk] at h3
    simp only [Option.map_some, Option.getD_some, Bool.and_eq_true, decide_eq_true_eq, Array.any_eq_true'] at h3
    obtain ⟨h4, e, he, h5, h6⟩ := h3
    exact ⟨k, h4, hk, e, he, h5, h6⟩

/-- When the last one may come up, all others have. -/
theorem all_listed (h : Region.chained md ops = true) {l : Array Bool} (hs : Region.shut md ops l) {n : Nat} (hn : n + 1 = ops.size) (hr : n ∈ Region.ready md ops l) : ∀ d i, n - i ≤ d → i < n → l.getD i false = true := by
  intro d
  induction d with
  | zero => intro i h1 h2; omega
  | succ d ih =>
    intro i h1 h2
    obtain ⟨_, h3⟩ := chained_at h i (by omega)
    rcases h3 with h3 | ⟨k, h4, hk, e, he, hb, rfl⟩
    · omega
    · rcases Nat.lt_or_ge k n with h5 | h5
      · exact hs k _ (Array.getElem?_eq_getElem hk) (ih k (by omega) h5) e he hb
      · obtain rfl : k = n := by omega
        obtain ⟨_, o, ho, h6⟩ := mem_ready.1 hr
        rw [Array.getElem?_eq_getElem hk] at ho
        obtain rfl := Option.some.inj ho
        exact h6 e he hb

theorem shut_set {l : Array Bool} (hs : Region.shut md ops l) {i : Nat} (hr : i ∈ Region.ready md ops l) : Region.shut md ops (l.setIfInBounds i true) := by
  intro j o ho hj e he hb
  obtain ⟨_, o', ho', h6⟩ := mem_ready.1 hr
  have key : l.getD e.on false = true := by
    by_cases hij : i = j
    · subst hij
      rw [ho] at ho'
      obtain rfl := Option.some.inj ho'
      exact h6 e he hb
    · refine hs j o ho ?_ e he hb
      rw [Array.getD_eq_getD_getElem?, Array.getElem?_setIfInBounds] at hj
      rw [if_neg hij] at hj
      rw [Array.getD_eq_getD_getElem?]
      exact hj
  rw [Array.getD_eq_getD_getElem?, Array.getElem?_setIfInBounds]
  by_cases h7 : i = e.on
  · rw [if_pos h7]
    rw [Array.getD_eq_getD_getElem?] at key
    by_cases h8 : i < l.size
    · rw [if_pos h8]; rfl
    · rw [Array.getElem?_eq_none (by omega)] at key
      cases key
  · rw [if_neg h7, ← Array.getD_eq_getD_getElem?]
    exact key

theorem wp_lastly {ops' : Array Oper} {o o' : Oper} {a : Act} {w : World} {K : Act → World → Prop} (h : Oper.wp P o' a w K (lastly P ops' Q o)) : Oper.wp P o' a w K Q := by
  unfold Oper.wp at *
  generalize (execOp a.eval o').run P w = r at *
  cases r with
  | ok n w' =>
    cases n <;> simp only [Oper.upon] at h ⊢
    case value => exact h
    case skip => exact h
    case defer => exact h
    case enter f args =>
      refine Calls.mono h fun e w'' he => ?_
      cases e with
      | returned u => exact he
      | panicked c => exact he
      | outgrown => exact he
    case row row args => exact h
  | halt x w' =>
    cases x <;> simp only [Oper.upon] at h ⊢
    case panic u => exact h


theorem push_getD {l : Array Bool} {i : Nat} {b d : Bool} (h : i < l.size) : (l.push b).getD i d = l.getD i d := by
  rw [Array.getD_eq_getD_getElem?, Array.getD_eq_getD_getElem?, Array.getElem?_push, if_neg (by omega)]
theorem pop_at {i : Nat} (h : i + 1 < ops.size) : ops.pop[i]? = ops[i]? := by
  rw [Array.getElem?_pop, if_pos (by omega)]

theorem ready_pop (h : Region.chained md ops = true) {n : Nat} (hn : n + 1 = ops.size) {l : Array Bool} (hl : l.size = n) {i : Nat} (hi : i < n) : i ∈ Region.ready md ops (l.push false) ↔ i ∈ Region.ready md ops.pop l := by
  rw [mem_ready, mem_ready, push_getD (by omega), pop_at (by omega)]
  refine and_congr_right fun _ => ?_
  constructor
  · rintro ⟨o, ho, h1⟩
    refine ⟨o, ho, fun e he hb => ?_⟩
    have h2 := h1 e he hb
    have h3 := (chained_at h i (by omega)).1.2 e (by
      rw [Array.getElem?_eq_getElem (by omega)] at ho
      rwa [Option.some.inj ho])
    rwa [push_getD (by omega)] at h2
  · rintro ⟨o, ho, h1⟩
    refine ⟨o, ho, fun e he hb => ?_⟩
    have h2 := h1 e he hb
    have h3 := (chained_at h i (by omega)).1.2 e (by
      rw [Array.getElem?_eq_getElem (by omega)] at ho
      rwa [Option.some.inj ho])
    rwa [push_getD (by omega)]
/-- Nothing may come up: all have. -/
theorem none_ready (h : Region.chained md ops = true) {n : Nat} (hn : n + 1 = ops.size) {l : Array Bool} (hl : l.size = n) (hr : Region.ready md ops.pop l = []) : ∀ i, i < n → l.getD i false = true := by
  intro i
  induction i using Nat.strongRecOn with
  | ind i ih =>
    intro hi
    have h1 : i ∉ Region.ready md ops.pop l := by rw [hr]; simp
    rw [mem_ready, pop_at (by omega)] at h1
    cases h2 : l.getD i true with
    | false =>
      refine absurd ⟨h2, _, Array.getElem?_eq_getElem (by omega), fun e he _ => ?_⟩ h1
      have h3 := (chained_at h i (by omega)).1.2 e he
      exact ih e.on h3 (by omega)
    | true =>
      rw [Array.getD_eq_getD_getElem?, Array.getElem?_eq_getElem (by omega)] at h2 ⊢
      simpa using h2
theorem last_ready (h : Region.chained md ops = true) {n : Nat} (hn : n + 1 = ops.size) {l : Array Bool} (hl : l.size = n) (ha : ∀ i, i < n → l.getD i false = true) : n ∈ Region.ready md ops (l.push false) := by
  rw [mem_ready]
  refine ⟨?_, _, Array.getElem?_eq_getElem (by omega), fun e he _ => ?_⟩
  · rw [Array.getD_eq_getD_getElem?, Array.getElem?_push, if_pos hl.symm]; rfl
  · have h3 := (chained_at h n (by omega)).1.2 e he
    rw [push_getD (by omega)]
    exact ha _ h3
theorem done_all {l : Array Bool} (ha : ∀ i, i < ops.size → l.getD i false = true) (hl : l.size = ops.size) : Region.ready md ops l = [] := by
  refine List.eq_nil_iff_forall_not_mem.2 fun i hi => ?_
  obtain ⟨h1, o, ho, _⟩ := mem_ready.1 hi
  have h2 := ha i (Array.getElem?_eq_some_iff.1 ho).1
  have hlt := (Array.getElem?_eq_some_iff.1 ho).1
  rw [Array.getD_eq_getD_getElem?, Array.getElem?_eq_getElem (by omega)] at h1 h2
  simp only [Option.getD_some] at h1 h2
  rw [h1] at h2
  cases h2

theorem last_step (h : Region.chained md ops = true) {n : Nat} (hn : n + 1 = ops.size) {o : Oper} (ho : ops[n]? = some o) (fuel : Nat) (l : Array Bool) (a : Act) (w : World) (hl : l.size = n) (ha : ∀ i, i < n → l.getD i false = true)
    (H : lastly P ops.pop Q o .normal a w) : wpAny P md ops Q (fuel + 1) (l.push false) a w := by
  have h1 := last_ready h hn hl ha
  refine ⟨fun h0 => (by rw [h0] at h1; cases h1), fun i hi => ?_⟩
  have h5 : i < ops.size := by
    obtain ⟨_, o', ho', _⟩ := mem_ready.1 hi
    exact (Array.getElem?_eq_some_iff.1 ho').1
  obtain rfl : i = n := by
    rcases Nat.lt_or_ge i n with h2 | h2
    · obtain ⟨h4, _⟩ := mem_ready.1 hi
      have h6 := ha i h2
      rw [push_getD (by omega)] at h4
      rw [Array.getD_eq_getD_getElem?, Array.getElem?_eq_getElem (by omega)] at h4 h6
      simp only [Option.getD_some] at h4 h6
      rw [h4] at h6
      cases h6
    · omega
  have hg := (chained_at h i h5).1.1
  rw [Array.getElem?_eq_getElem h5] at ho
  obtain rfl := Option.some.inj ho
  unfold wpOp
  rw [Array.getElem?_eq_getElem h5]
  have hw : ∀ y, Region.wanted ops[i] y = true := fun y => by simp [Region.wanted, hg]
  simp only [lastly, hw, if_true] at H ⊢
  have hd : Region.ready md ops ((l.push false).setIfInBounds i true) = [] := by
    refine done_all (fun j hj => ?_) (by simp; omega)
    rw [Array.getD_eq_getD_getElem?, Array.getElem?_setIfInBounds]
    by_cases hij : i = j
    · rw [if_pos hij, if_pos (by simp; omega)]; rfl
    · rw [if_neg hij, ← Array.getD_eq_getD_getElem?, push_getD (by omega)]
      exact ha j (by omega)
  refine .inl (Oper.wp_mono (fun a' w' h9 => ?_) H)
  cases fuel with
  | zero => exact ⟨hd, h9⟩
  | succ fuel => exact ⟨fun _ => h9, by rw [hd]; simp⟩

theorem wpAny_lastly (h : Region.chained md ops = true) {n : Nat} (hn : n + 1 = ops.size) {o : Oper} (ho : ops[n]? = some o) : ∀ (fuel : Nat) (l : Array Bool) (a : Act) (w : World), l.size = n → Region.shut md ops (l.push false) →
    wpAny P md ops.pop (lastly P ops.pop Q o) fuel l a w → wpAny P md ops Q (fuel + 1) (l.push false) a w := by
  intro fuel
  induction fuel with
  | zero =>
    intro l a w hl hs H
    have hr := H.1
    have ha := none_ready h hn hl hr
    exact last_step h hn ho 0 l a w hl ha H.2
  | succ fuel ih =>
    intro l a w hl hs H
    by_cases hr : Region.ready md ops.pop l = []
    · exact last_step h hn ho (fuel + 1) l a w hl (none_ready h hn hl hr) (H.1 hr)
    · have hno : ∀ i, i ∈ Region.ready md ops (l.push false) → i < n := by
        intro i hi
        have h1 : i < ops.size := by
          obtain ⟨_, o', ho', _⟩ := mem_ready.1 hi
          exact (Array.getElem?_eq_some_iff.1 ho').1
        rcases Nat.lt_or_ge i n with h2 | h2
        · exact h2
        · obtain rfl : i = n := by omega
          have h3 := all_listed h hs hn hi
          refine absurd (List.eq_nil_iff_forall_not_mem.2 fun j hj => ?_) hr
          obtain ⟨h4, o', ho', _⟩ := mem_ready.1 hj
          have h5 : j < ops.pop.size := (Array.getElem?_eq_some_iff.1 ho').1
          rw [Array.size_pop] at h5
          have h6 := h3 (i - j) j (Nat.le_refl _) (by omega)
          rw [push_getD (by omega)] at h6
          rw [Array.getD_eq_getD_getElem?, Array.getElem?_eq_getElem (by omega)] at h4 h6
          simp only [Option.getD_some] at h4 h6
          rw [h4] at h6
          cases h6
      refine ⟨fun h0 => ?_, fun i hi => ?_⟩
      · refine absurd (List.eq_nil_iff_forall_not_mem.2 fun j hj => ?_) hr
        have h5 : j < ops.pop.size := by
          obtain ⟨_, o', ho', _⟩ := mem_ready.1 hj
          exact (Array.getElem?_eq_some_iff.1 ho').1
        rw [Array.size_pop] at h5
        have := (ready_pop h hn hl (by omega)).2 hj
        rw [h0] at this
        cases this
      · have hin := hno i hi
        have h1 := H.2 i ((ready_pop h hn hl hin).1 hi)
        have hg := (chained_at h i (by omega)).1.1
        unfold wpOp at h1 ⊢
        rw [pop_at (by omega), Array.getElem?_eq_getElem (by omega)] at h1
        rw [Array.getElem?_eq_getElem (by omega)]
        have hw : ∀ y, Region.wanted (ops[i]'(by omega)) y = true := fun y => by simp [Region.wanted, hg]
        simp only [hw, if_true] at h1 ⊢
        have e : (l.push false).setIfInBounds i true = (l.setIfInBounds i true).push false := by
          apply Array.ext_getElem?
          intro k
          simp only [Array.getElem?_setIfInBounds, Array.getElem?_push, Array.size_push, Array.size_setIfInBounds]
          by_cases hk : i = k
          · subst hk
            have q1 : i < l.size := by omega
            have q2 : i < l.size + 1 := by omega
            have q3 : ¬ i = l.size := by omega
            simp [q1, q2, q3]
          · simp [hk]
        have hs2 := shut_set hs hi
        rw [e] at hs2 ⊢
        rcases h1 with h1 | ⟨h1, h2⟩
        · exact .inl (Oper.wp_mono (fun a' w' h9 => ih _ a' w' (by simpa using hl) hs2 h9) (wp_lastly h1))
        · exact .inr ⟨h1, h2⟩

/-- The beginning: the region without its last operation, under a condition S that its loads need. -/
theorem wp_region_lastly {S : World → Prop} {id : Nat} {a : Act} {w : World} (n : Nat) (o : Oper) (hm : P.follows .mixedOrders = true) (hc : Region.chained .any ops = true) (hn : n + 1 = ops.size) (ho : ops[n]? = some o)
    (h : wpAnyH P .any ops.pop (lastly P ops.pop Q o) S n (Array.replicate n false) a w.drew) : (Code.region id ops true).wp P Q a w := by
  refine wp_region_any hm ?_
  have e : Array.replicate ops.size false = (Array.replicate n false).push false := by rw [← hn, Array.replicate_succ]
  rw [e, ← hn]
  refine wpAny_lastly hc hn ho n _ a _ (by simp) ?_ (wpAny_of_held _ _ _ _ h)
  intro j oj hj hlj
  rw [← Array.replicate_succ, Array.getD_eq_getD_getElem?, Array.getElem?_replicate] at hlj
  split at hlj <;> cases hlj
end
end Go
