/- A region that draws its order, by what holds at each set of listed operations; one whose operations have values that do not hang on the order. -/
import Derived.Orders
import Derived.WalkKit
import Derived.RegionTactic
namespace Go

/-- A region that draws its order, by what holds at each set of listed operations. -/
theorem wpAny_inv {P : Program} {md : Region.Mode} {ops : Array Oper} {Q : Exit → Act → World → Prop} (I : Array Bool → Act → World → Prop)
    (hdeps : ∀ (i : Nat) (o : Oper), ops[i]? = some o → ∀ e ∈ o.after, Region.binds md e = true → e.on < i)
    (hsize : ∀ l a w, I l a w → l.size = ops.size)
    (hstep : ∀ l a w i o, I l a w → ops[i]? = some o → l.getD i true = false → (∀ e ∈ o.after, Region.binds md e = true → l.getD e.on false = true) → wpOp P ops Q i (I (l.setIfInBounds i true)) a w)
    (hend : ∀ l a w, I l a w → (∀ i, i < ops.size → l.getD i false = true) → Q .normal a w) :
    ∀ (fuel : Nat) (l : Array Bool) (a : Act) (w : World), I l a w → l.toList.count false ≤ fuel → wpAny P md ops Q fuel l a w := by
  have hready : ∀ l a w, I l a w → ∀ i, i ∈ Region.ready md ops l ↔ (i < ops.size ∧ l.getD i true = false ∧ ∀ o, ops[i]? = some o → ∀ e ∈ o.after, Region.binds md e = true → l.getD e.on false = true) := by
    intro l a w hI i
    unfold Region.ready
    rw [List.mem_filter, List.mem_range]
    constructor
    · rintro ⟨h1, h2⟩
      simp only [Bool.and_eq_true, Bool.not_eq_true'] at h2
      refine ⟨h1, h2.1, fun o ho e he hb => ?_⟩
      have h3 := h2.2
      rw [ho] at h3
      simp only [Option.map_some, Option.getD_some, Array.all_eq_true'] at h3
      have := h3 e he
      simpa [hb] using this
    · rintro ⟨h1, h2, h3⟩
      refine ⟨h1, ?_⟩
      simp only [Bool.and_eq_true, Bool.not_eq_true']
      refine ⟨h2, ?_⟩
      rw [Array.getElem?_eq_getElem h1]
      simp only [Option.map_some, Option.getD_some, Array.all_eq_true']
      intro e he
      cases hb : Region.binds md e
      · rfl
      · have := h3 _ (Array.getElem?_eq_getElem h1) e he hb
        rw [this]; rfl
  have hall : ∀ l a w, I l a w → Region.ready md ops l = [] → ∀ i, i < ops.size → l.getD i false = true := by
    intro l a w hI hr i
    induction i using Nat.strongRecOn with
    | ind i ih =>
      intro hi
      have hn : i ∉ Region.ready md ops l := by rw [hr]; simp
      rw [hready l a w hI] at hn
      have hs := hsize l a w hI
      cases hl : l.getD i true with
      | false =>
        refine absurd ⟨hi, hl, fun o ho e he hb => ?_⟩ hn
        have h1 := hdeps i o ho e he hb
        exact ih e.on h1 (by omega)
      | true =>
        rw [Array.getD_eq_getD_getElem?, Array.getElem?_eq_getElem (by omega)] at hl ⊢
        simpa using hl
  intro fuel
  induction fuel with
  | zero =>
    intro l a w hI hc
    have hz : ∀ i, i < ops.size → l.getD i false = true := by
      intro i hi
      have hs := hsize l a w hI
      rw [Array.getD_eq_getD_getElem?, Array.getElem?_eq_getElem (by omega)]
      simp only [Option.getD_some]
      cases he : l[i]'(by omega)
      · have : false ∈ l.toList := by rw [← he]; exact Array.getElem_mem_toList ..
        have := List.count_pos_iff.2 this
        omega
      · rfl
    refine ⟨?_, hend l a w hI hz⟩
    refine List.eq_nil_iff_forall_not_mem.2 fun i hi => ?_
    rw [hready l a w hI] at hi
    have hs := hsize l a w hI
    have h1 := hz i hi.1
    have h2 := hi.2.1
    rw [Array.getD_eq_getD_getElem?, Array.getElem?_eq_getElem (by omega)] at h1 h2
    simp only [Option.getD_some] at h1 h2
    rw [h1] at h2
    cases h2
  | succ fuel ih =>
    intro l a w hI hc
    refine ⟨fun hr => hend l a w hI (hall l a w hI hr), fun i hi => ?_⟩
    rw [hready l a w hI] at hi
    have hs := hsize l a w hI
    refine wpOp_mono (fun a' w' h' => ih _ a' w' h' ?_) (hstep l a w i _ hI (Array.getElem?_eq_getElem hi.1) hi.2.1 (hi.2.2 _ (Array.getElem?_eq_getElem hi.1)))
    have h2 := hi.2.1
    rw [Array.getD_eq_getD_getElem?, Array.getElem?_eq_getElem (by omega)] at h2
    simp only [Option.getD_some] at h2
    rw [Array.toList_setIfInBounds]
    rw [List.count_set (h := by simp; omega)]
    have h3 : (l.toList[i]'(by simp; omega)) = false := by simpa using h2
    have h4 : 0 < l.toList.count false := List.count_pos_iff.2 (by rw [← h3]; exact List.getElem_mem _)
    rw [h3]
    have e2 : (true == false) = false := rfl
    rw [if_pos (beq_self_eq_true _), e2, if_neg (by simp)]
    omega

theorem wpOp_of {P : Program} {ops : Array Oper} {Q : Exit → Act → World → Prop} {i : Nat} {o : Oper} {K : Act → World → Prop} {a : Act} {w : World} (ho : ops[i]? = some o) (hg : Region.wanted o (yielded ops a.tmps) = true) (h : o.wp P a w K Q) : wpOp P ops Q i K a w := by
  unfold wpOp
  rw [ho]
  simp only [hg]
  exact .inl h
theorem wpOp_skip {P : Program} {ops : Array Oper} {Q : Exit → Act → World → Prop} {i : Nat} {o : Oper} {K : Act → World → Prop} {a : Act} {w : World} (ho : ops[i]? = some o) (hg : Region.wanted o (yielded ops a.tmps) = false) (h : K (a.put o.dst undef) w) : wpOp P ops Q i K a w := by
  unfold wpOp
  rw [ho]
  simp only [hg]
  exact h
theorem flag_set {l : Array Bool} {n i k : Nat} (hs : l.size = n) (hi : i < n) : (l.setIfInBounds i true).getD k false = true ↔ k = i ∨ l.getD k false = true := by
  rw [Array.getD_eq_getD_getElem?, Array.getD_eq_getD_getElem?, Array.getElem?_setIfInBounds]
  by_cases e : i = k
  · subst e; simp [hs, hi]
  · simp [e, Ne.symm e]
/-- The frame behind operations that have these values. -/
def frameOf (ops : Array Oper) (val : Nat → Value) (a0 : Act) : Nat → Act
  | 0 => a0
  | n + 1 => (frameOf ops val a0 n).put ((ops[n]?).bind (·.dst)) (val n)
/-- No slot is written twice. -/
def Once (ops : Array Oper) : Prop := ∀ (i j : Nat) (oi oj : Oper) (d : Tmp), ops[i]? = some oi → ops[j]? = some oj → oi.dst = some d → oj.dst = some d → i = j
def onceB (l : List (Option Tmp)) : Bool := match l with
  | [] => true
  | none :: t => onceB t
  | some d :: t => !t.contains (some d) && onceB t
theorem once_of (l : List (Option Tmp)) (h : onceB l = true) : ∀ (i j : Nat) (d : Tmp), l[i]? = some (some d) → l[j]? = some (some d) → i = j := by
  induction l with
  | nil => intro i j d h1; simp at h1
  | cons x t ih =>
    intro i j d h1 h2
    have ht : onceB t = true := by
      cases x with
      | none => exact h
      | some e => simp only [onceB, Bool.and_eq_true] at h; exact h.2
    match i, j with
    | 0, 0 => rfl
    | i + 1, j + 1 => rw [ih ht i j d (by simpa using h1) (by simpa using h2)]
    | 0, j + 1 =>
      exfalso
      simp at h1 h2
      subst h1
      simp only [onceB, Bool.and_eq_true, Bool.not_eq_true'] at h
      have : (some d) ∈ t := List.mem_of_getElem? h2
      simp [this] at h
    | i + 1, 0 =>
      exfalso
      simp at h1 h2
      subst h2
      simp only [onceB, Bool.and_eq_true, Bool.not_eq_true'] at h
      have : (some d) ∈ t := List.mem_of_getElem? h1
      simp [this] at h
theorem once_arr {ops : Array Oper} (h : onceB (ops.toList.map (·.dst)) = true) : Once ops := by
  intro i j oi oj d h1 h2 h3 h4
  refine once_of _ h i j d ?_ ?_
  · simp [h1, h3]
  · simp [h2, h4]
theorem act_eq {a b : Act} (h1 : a.tmps = b.tmps) (h2 : a.defers = b.defers) : a = b := by cases a; cases b; simp at h1 h2; rw [h1, h2]
theorem put_facts (a : Act) (d : Option Tmp) (v : Value) : (a.put d v).tmps.size = a.tmps.size ∧ (a.put d v).defers = a.defers ∧ (∀ t, d = some t → t < a.tmps.size → (a.put d v).tmps[t]? = some v) ∧ ∀ t, d ≠ some t → (a.put d v).tmps[t]? = a.tmps[t]? := by
  cases d with
  | none => exact ⟨rfl, rfl, fun _ h => (by cases h), fun _ _ => rfl⟩
  | some d =>
    refine ⟨by simp [Act.put], rfl, fun t e ht => ?_, fun t ht => ?_⟩
    · cases e; simp [Act.put, ht]
    · have : ¬ d = t := fun e => ht (by rw [e])
      simp [Act.put, this]
theorem frameOf_facts (ops : Array Oper) (val : Nat → Value) (a0 : Act) (hn : Once ops) : ∀ n, (frameOf ops val a0 n).tmps.size = a0.tmps.size ∧ (frameOf ops val a0 n).defers = a0.defers ∧
    (∀ i o d, i < n → ops[i]? = some o → o.dst = some d → d < a0.tmps.size → (frameOf ops val a0 n).tmps[d]? = some (val i)) ∧ ∀ t, (∀ i o, i < n → ops[i]? = some o → o.dst ≠ some t) → (frameOf ops val a0 n).tmps[t]? = a0.tmps[t]?
  | 0 => ⟨rfl, rfl, fun i _ _ hi => absurd hi (Nat.not_lt_zero _), fun _ _ => rfl⟩
  | n + 1 => by
    obtain ⟨f1, f2, f3, f4⟩ := frameOf_facts ops val a0 hn n
    obtain ⟨p1, p2, p3, p4⟩ := put_facts (frameOf ops val a0 n) ((ops[n]?).bind (·.dst)) (val n)
    refine ⟨p1.trans f1, p2.trans f2, fun i o d hi ho hd hl => ?_, fun t ht => ?_⟩
    · by_cases e : i = n
      · subst e
        exact p3 d (by rw [ho]; exact hd) (by rw [f1]; exact hl)
      · refine (p4 d ?_).trans (f3 i o d (by omega) ho hd hl)
        intro h
        cases hx : ops[n]? with
        | none => rw [hx] at h; cases h
        | some on => rw [hx] at h; exact e (hn i n o on d ho hx hd h)
    · refine (p4 t ?_).trans (f4 t fun i o hi => ht i o (by omega))
      intro h
      cases hx : ops[n]? with
      | none => rw [hx] at h; cases h
      | some on => rw [hx] at h; exact ht n on (by omega) hx h
/-- What is known where operation o is taken up. -/
structure Known (md : Region.Mode) (ops : Array Oper) (val : Nat → Value) (a0 : Act) (o : Oper) (a : Act) : Prop where
  has : ∀ (j : Nat) (oj : Oper) (d : Tmp), ops[j]? = some oj → oj.dst = some d → (o.after.toList.any fun e => e.on == j && Region.binds md e) = true → d < a0.tmps.size → a.tmps[d]? = some (val j)
  keep : ∀ t, (ops.toList.all fun o => o.dst != some t) = true → a.tmps[t]? = a0.tmps[t]?
  size : a.tmps.size = a0.tmps.size
structure RgSt (ops : Array Oper) (val : Nat → Value) (S : World → Prop) (a0 : Act) (l : Array Bool) (a : Act) (w : World) : Prop where
  sz : l.size = ops.size
  tm : a.tmps.size = a0.tmps.size
  df : a.defers = a0.defers
  has : ∀ (i : Nat) (o : Oper) (d : Tmp), ops[i]? = some o → o.dst = some d → l.getD i false = true → d < a0.tmps.size → a.tmps[d]? = some (val i)
  keep : ∀ t, (∀ (i : Nat) (o : Oper), ops[i]? = some o → l.getD i false = true → o.dst ≠ some t) → a.tmps[t]? = a0.tmps[t]?
  s : S w
/-- Something holds of each operation. -/
def EachOp (R : Nat → Oper → Prop) : Nat → List Oper → Prop
  | _, [] => True
  | n, o :: t => R n o ∧ EachOp R (n + 1) t
theorem EachOp.at {R : Nat → Oper → Prop} : ∀ (l : List Oper) (n i : Nat) (o : Oper), EachOp R n l → l[i]? = some o → R (n + i) o
  | [], _, _, _, _, h => by simp at h
  | x :: t, n, 0, o, h, ho => by simp at ho; subst ho; exact h.1
  | x :: t, n, i + 1, o, h, ho => by
    have := EachOp.at t (n + 1) i o h.2 (by simpa using ho)
    rwa [show n + 1 + i = n + (i + 1) from by omega] at this
/-- A region whose operations have values that do not hang on the order; the world keeps S. -/
theorem wp_region_det {P : Program} {id : Nat} {ops : Array Oper} {Q : Exit → Act → World → Prop} {a0 : Act} {w0 : World} (val : Nat → Value) (S : World → Prop) (hm : P.follows .mixedOrders = true)
    (hdeps : (ops.toList.zipIdx.all fun x => x.1.after.toList.all fun e => !Region.binds .any e || decide (e.on < x.2)) = true) (hn : onceB (ops.toList.map (·.dst)) = true) (h0 : S w0.drew)
    (hstep : EachOp (fun i o => ∀ a w, S w → Known .any ops val a0 o a → wpOp P ops Q i (fun a' w' => a' = a.put o.dst (val i) ∧ S w') a w) 0 ops.toList)
    (hend : ∀ W, S W → Q .normal (frameOf ops val a0 ops.size) W) : (Code.region id ops true).wp P Q a0 w0 := by
  have hO := once_arr hn
  refine wp_region_any hm ?_
  refine wpAny_inv (ops := ops) (RgSt ops val S a0) ?_ (fun l a w h => h.sz) ?_ ?_ _ _ _ _ ⟨by simp, rfl, rfl, ?_, fun _ _ => rfl, h0⟩ ?_
  · intro i o ho e he hb
    have h1 : (o, i) ∈ ops.toList.zipIdx := by
      rw [List.mem_zipIdx_iff_getElem?]
      simpa using ho
    have h2 := List.all_eq_true.1 hdeps _ h1
    have h3 := List.all_eq_true.1 h2 e (by simpa using he)
    simpa [hb] using h3
  · intro l a w i o h ho hl hd
    have hi : i < ops.size := (Array.getElem?_eq_some_iff.1 ho).1
    have hs := h.sz
    have hf : ¬ l.getD i false = true := by
      rw [Array.getD_eq_getD_getElem?, Array.getElem?_eq_getElem (by omega)] at hl ⊢
      simp only [Option.getD_some] at hl ⊢
      rw [hl]; simp
    have step := EachOp.at _ 0 i o hstep (by simpa using ho)
    rw [Nat.zero_add] at step
    refine wpOp_mono ?_ (step a w h.s ⟨fun j oj d hj hdj hq hlt => h.has j oj d hj hdj (by
      obtain ⟨e, he, h1⟩ := List.any_eq_true.1 hq
      simp only [Bool.and_eq_true, beq_iff_eq] at h1
      rw [← h1.1]; exact hd e (by simpa using he) h1.2) hlt, fun t ht => h.keep t fun i o ho _ hq => (by
      have := List.all_eq_true.1 ht o (List.mem_of_getElem? (i := i) (by simpa using ho))
      simp [hq] at this), h.tm⟩)
    rintro a' w' ⟨rfl, hS⟩
    obtain ⟨p1, p2, p3, p4⟩ := put_facts a o.dst (val i)
    refine ⟨by rw [Array.size_setIfInBounds]; exact hs, p1.trans h.tm, p2.trans h.df, fun j oj d hj hdj hlj hlt => ?_, fun t ht => ?_, hS⟩
    · by_cases e : j = i
      · subst e
        rw [ho] at hj; cases hj
        exact p3 d hdj (by rw [h.tm]; exact hlt)
      · refine (p4 d fun q => e (hO j i oj o d hj ho hdj q)).trans (h.has j oj d hj hdj (((flag_set hs (by omega)).1 hlj).resolve_left e) hlt)
    · refine (p4 t (ht i o ho ((flag_set hs (by omega)).2 (.inl rfl)))).trans (h.keep t fun j oj hj hlj => ht j oj hj ((flag_set hs (by omega)).2 (.inr hlj)))
  · intro l a w h hall
    obtain ⟨f1, f2, f3, f4⟩ := frameOf_facts ops val a0 hO ops.size
    have e : a = frameOf ops val a0 ops.size := by
      refine act_eq (Array.ext_getElem? fun t => ?_) (h.df.trans f2.symm)
      by_cases q : ∃ (i : Nat) (o : Oper), ops[i]? = some o ∧ o.dst = some t
      · obtain ⟨i, o, ho, hd⟩ := q
        have hi : i < ops.size := (Array.getElem?_eq_some_iff.1 ho).1
        by_cases hlt : t < a0.tmps.size
        · rw [h.has i o t ho hd (hall i hi) hlt, f3 i o t hi ho hd hlt]
        · rw [Array.getElem?_eq_none (by rw [h.tm]; omega), Array.getElem?_eq_none (by rw [f1]; omega)]
      · rw [h.keep t fun i o ho _ hd => q ⟨i, o, ho, hd⟩, f4 t fun i o _ ho hd => q ⟨i, o, ho, hd⟩]
    rw [e]
    exact hend w h.s
  · intro i o d _ _ hl
    exfalso
    rw [Array.getD_eq_getD_getElem?, Array.getElem?_replicate] at hl
    split at hl <;> simp at hl
  · refine Nat.le_trans List.count_le_length ?_
    simp
end Go
