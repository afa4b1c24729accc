/- Four values made at once, in whatever order, at this translation: a region of the law of two changes. -/
import Derived.Test.YtgnkfikihjjpeaaLawCk
import Derived.Orders
namespace Go

/-- A region that draws its order, by what holds at each set of listed operations. -/
theorem wpAny_inv {P : Program} {md : Region.Mode} {ops : Array Oper} {Q : Exit → Act → World → Prop} (I : Array Bool → Act → World → Prop)
    (hdeps : ∀ (i : Nat) (o : Oper), ops[i]? = some o → ∀ e ∈ o.after, e.on < i)
    (hsize : ∀ l a w, I l a w → l.size = ops.size)
    (hstep : ∀ l a w i o, I l a w → ops[i]? = some o → l.getD i true = false → (∀ e ∈ o.after, Region.binds md e = true → l.getD e.on false = true) → wpOp P ops Q i (I (l.setIfInBounds i true)) a w)
    (hend : ∀ l a w, I l a w → (∀ i, i < ops.size → l.getD i false = true) → Q .normal a w) :
    ∀ (fuel : Nat) (l : Array Bool) (a : Act) (w : World), I l a w → l.toList.count false ≤ fuel → wpAny P md ops Q fuel l a w := by
  have hready : ∀ l a w, I l a w → ∀ i, i ∈ Region.ready md ops l ↔ (i < ops.size ∧ l.getD i true = false ∧ ∀ o, ops[i]? = some o → ∀ e ∈ o.after, Region.binds md e = true → l.getD e.on false = true) := by
    intro l a w hI i
    unfold Region.ready
    rw [List.mem_filter, List.mem_range]
    constructor
    · rintro ⟨h1, h2⟩
      simp only [Bool.and_eq_true, Bool.not_eq_true'] at h2
      refine ⟨h1, h2.1, fun o ho e he hb => ?_⟩
      have h3 := h2.2
      rw [ho] at h3
      simp only [Option.map_some, Option.getD_some, Array.all_eq_true'] at h3
      have := h3 e he
      simpa [hb] using this
    · rintro ⟨h1, h2, h3⟩
      refine ⟨h1, ?_⟩
      simp only [Bool.and_eq_true, Bool.not_eq_true']
      refine ⟨h2, ?_⟩
      rw [Array.getElem?_eq_getElem h1]
      simp only [Option.map_some, Option.getD_some, Array.all_eq_true']
      intro e he
      cases hb : Region.binds md e
      · rfl
      · have := h3 _ (Array.getElem?_eq_getElem h1) e he hb
        rw [this]; rfl
  have hall : ∀ l a w, I l a w → Region.ready md ops l = [] → ∀ i, i < ops.size → l.getD i false = true := by
    intro l a w hI hr i
    induction i using Nat.strongRecOn with
    | ind i ih =>
      intro hi
      have hn : i ∉ Region.ready md ops l := by rw [hr]; simp
      rw [hready l a w hI] at hn
      have hs := hsize l a w hI
      cases hl : l.getD i true with
      | false =>
        refine absurd ⟨hi, hl, fun o ho e he hb => ?_⟩ hn
        have h1 := hdeps i o ho e he
        exact ih e.on h1 (by omega)
      | true =>
        rw [Array.getD_eq_getD_getElem?, Array.getElem?_eq_getElem (by omega)] at hl ⊢
        simpa using hl
  intro fuel
  induction fuel with
  | zero =>
    intro l a w hI hc
    have hz : ∀ i, i < ops.size → l.getD i false = true := by
      intro i hi
      have hs := hsize l a w hI
      rw [Array.getD_eq_getD_getElem?, Array.getElem?_eq_getElem (by omega)]
      simp only [Option.getD_some]
      cases he : l[i]'(by omega)
      · have : false ∈ l.toList := by rw [← he]; exact Array.getElem_mem_toList ..
        have := List.count_pos_iff.2 this
        omega
      · rfl
    refine ⟨?_, hend l a w hI hz⟩
    refine List.eq_nil_iff_forall_not_mem.2 fun i hi => ?_
    rw [hready l a w hI] at hi
    have hs := hsize l a w hI
    have h1 := hz i hi.1
    have h2 := hi.2.1
    rw [Array.getD_eq_getD_getElem?, Array.getElem?_eq_getElem (by omega)] at h1 h2
    simp only [Option.getD_some] at h1 h2
    rw [h1] at h2
    cases h2
  | succ fuel ih =>
    intro l a w hI hc
    refine ⟨fun hr => hend l a w hI (hall l a w hI hr), fun i hi => ?_⟩
    rw [hready l a w hI] at hi
    have hs := hsize l a w hI
    refine wpOp_mono (fun a' w' h' => ih _ a' w' h' ?_) (hstep l a w i _ hI (Array.getElem?_eq_getElem hi.1) hi.2.1 (hi.2.2 _ (Array.getElem?_eq_getElem hi.1)))
    have h2 := hi.2.1
    rw [Array.getD_eq_getD_getElem?, Array.getElem?_eq_getElem (by omega)] at h2
    simp only [Option.getD_some] at h2
    rw [Array.toList_setIfInBounds]
    rw [List.count_set (h := by simp; omega)]
    have h3 : (l.toList[i]'(by simp; omega)) = false := by simpa using h2
    have h4 : 0 < l.toList.count false := List.count_pos_iff.2 (by rw [← h3]; exact List.getElem_mem _)
    rw [h3]
    have e2 : (true == false) = false := rfl
    rw [if_pos (beq_self_eq_true _), e2, if_neg (by simp)]
    omega
end Go
namespace Go.Proofs.Ytgnkfikihjjpeaa
open Go.RowKit Go.Great Go.Maps


def o9_0 : Oper :=
  { dst := some 37, op := Op.indexAddr 44 (Operand.tmp 3) (Operand.const (Value.int IntKind.i64 0)), type := 0, pos := "law.go:115", after := #[], guard := none }
def o9_1 : Oper :=
  { dst := some 38, op := Op.load 9 (Operand.tmp 37), type := 9, pos := "law.go:115", after := #[{ on := 0, ground := Ground.data }], guard := none }
def o9_2 : Oper :=
  { dst := some 39, op := Op.call { callee := Callee.value (Operand.func 19), args := #[Operand.tmp 38], argTypes := #[9] }, type := 24, pos := "law.go:115", after := #[{ on := 1, ground := Ground.data }], guard := none }
def o9_3 : Oper :=
  { dst := some 40, op := Op.indexAddr 44 (Operand.tmp 3) (Operand.const (Value.int IntKind.i64 1)), type := 0, pos := "law.go:115", after := #[], guard := none }
def o9_4 : Oper :=
  { dst := some 41, op := Op.load 9 (Operand.tmp 40), type := 9, pos := "law.go:115", after := #[{ on := 3, ground := Ground.data }], guard := none }
def o9_5 : Oper :=
  { dst := some 42, op := Op.call { callee := Callee.value (Operand.func 19), args := #[Operand.tmp 41], argTypes := #[9] }, type := 24, pos := "law.go:115", after := #[{ on := 4, ground := Ground.data }, { on := 2, ground := Ground.chain }], guard := none }
def o9_6 : Oper :=
  { dst := some 43, op := Op.indexAddr 44 (Operand.tmp 3) (Operand.const (Value.int IntKind.i64 2)), type := 0, pos := "law.go:115", after := #[], guard := none }
def o9_7 : Oper :=
  { dst := some 44, op := Op.load 9 (Operand.tmp 43), type := 9, pos := "law.go:115", after := #[{ on := 6, ground := Ground.data }], guard := none }
def o9_8 : Oper :=
  { dst := some 45, op := Op.call { callee := Callee.value (Operand.func 19), args := #[Operand.tmp 44], argTypes := #[9] }, type := 24, pos := "law.go:115", after := #[{ on := 7, ground := Ground.data }, { on := 5, ground := Ground.chain }], guard := none }
def o9_9 : Oper :=
  { dst := some 46, op := Op.indexAddr 44 (Operand.tmp 3) (Operand.const (Value.int IntKind.i64 3)), type := 0, pos := "law.go:115", after := #[], guard := none }
def o9_10 : Oper :=
  { dst := some 47, op := Op.load 9 (Operand.tmp 46), type := 9, pos := "law.go:115", after := #[{ on := 9, ground := Ground.data }], guard := none }
def o9_11 : Oper :=
  { dst := some 48, op := Op.call { callee := Callee.value (Operand.func 19), args := #[Operand.tmp 47], argTypes := #[9] }, type := 24, pos := "law.go:115", after := #[{ on := 10, ground := Ground.data }, { on := 8, ground := Ground.chain }], guard := none }
def o9_12 : Oper :=
  { dst := some 7, op := Op.alloc 24, type := 0, pos := "law.go:115", after := #[], guard := none }
def o9_13 : Oper :=
  { dst := some 8, op := Op.alloc 24, type := 0, pos := "law.go:115", after := #[], guard := none }
def o9_14 : Oper :=
  { dst := some 9, op := Op.alloc 24, type := 0, pos := "law.go:115", after := #[], guard := none }
def o9_15 : Oper :=
  { dst := some 10, op := Op.alloc 24, type := 0, pos := "law.go:115", after := #[], guard := none }
def o9_16 : Oper :=
  { dst := none, op := Op.store 24 (Operand.tmp 7) (Operand.tmp 39), type := 0, pos := "law.go:115", after := #[{ on := 12, ground := Ground.data }, { on := 2, ground := Ground.data }, { on := 11, ground := Ground.chain }, { on := 0, ground := Ground.phase }, { on := 1, ground := Ground.phase }, { on := 2, ground := Ground.phase }, { on := 3, ground := Ground.textOnly Departure.lateStores }, { on := 4, ground := Ground.textOnly Departure.lateStores }, { on := 5, ground := Ground.textOnly Departure.lateStoresUnsure }, { on := 6, ground := Ground.textOnly Departure.lateStores }, { on := 7, ground := Ground.textOnly Departure.lateStores }, { on := 8, ground := Ground.textOnly Departure.lateStoresUnsure }, { on := 9, ground := Ground.textOnly Departure.lateStores }, { on := 10, ground := Ground.textOnly Departure.lateStores }, { on := 11, ground := Ground.textOnly Departure.lateStoresUnsure }, { on := 12, ground := Ground.phase }, { on := 13, ground := Ground.phase }, { on := 14, ground := Ground.phase }, { on := 15, ground := Ground.phase }], guard := none }
def o9_17 : Oper :=
  { dst := none, op := Op.store 24 (Operand.tmp 8) (Operand.tmp 42), type := 0, pos := "law.go:115", after := #[{ on := 13, ground := Ground.data }, { on := 5, ground := Ground.data }, { on := 16, ground := Ground.chain }, { on := 0, ground := Ground.phase }, { on := 1, ground := Ground.phase }, { on := 2, ground := Ground.phase }, { on := 3, ground := Ground.phase }, { on := 4, ground := Ground.phase }, { on := 5, ground := Ground.phase }, { on := 6, ground := Ground.textOnly Departure.lateStores }, { on := 7, ground := Ground.textOnly Departure.lateStores }, { on := 8, ground := Ground.textOnly Departure.lateStoresUnsure }, { on := 9, ground := Ground.textOnly Departure.lateStores }, { on := 10, ground := Ground.textOnly Departure.lateStores }, { on := 11, ground := Ground.textOnly Departure.lateStoresUnsure }, { on := 12, ground := Ground.phase }, { on := 13, ground := Ground.phase }, { on := 14, ground := Ground.phase }, { on := 15, ground := Ground.phase }, { on := 16, ground := Ground.phase }], guard := none }
def o9_18 : Oper :=
  { dst := none, op := Op.store 24 (Operand.tmp 9) (Operand.tmp 45), type := 0, pos := "law.go:115", after := #[{ on := 14, ground := Ground.data }, { on := 8, ground := Ground.data }, { on := 17, ground := Ground.chain }, { on := 0, ground := Ground.phase }, { on := 1, ground := Ground.phase }, { on := 2, ground := Ground.phase }, { on := 3, ground := Ground.phase }, { on := 4, ground := Ground.phase }, { on := 5, ground := Ground.phase }, { on := 6, ground := Ground.phase }, { on := 7, ground := Ground.phase }, { on := 8, ground := Ground.phase }, { on := 9, ground := Ground.textOnly Departure.lateStores }, { on := 10, ground := Ground.textOnly Departure.lateStores }, { on := 11, ground := Ground.textOnly Departure.lateStoresUnsure }, { on := 12, ground := Ground.phase }, { on := 13, ground := Ground.phase }, { on := 14, ground := Ground.phase }, { on := 15, ground := Ground.phase }, { on := 16, ground := Ground.phase }, { on := 17, ground := Ground.phase }], guard := none }
def o9_19 : Oper :=
  { dst := none, op := Op.store 24 (Operand.tmp 10) (Operand.tmp 48), type := 0, pos := "law.go:115", after := #[{ on := 15, ground := Ground.data }, { on := 11, ground := Ground.data }, { on := 18, ground := Ground.chain }, { on := 0, ground := Ground.phase }, { on := 1, ground := Ground.phase }, { on := 2, ground := Ground.phase }, { on := 3, ground := Ground.phase }, { on := 4, ground := Ground.phase }, { on := 5, ground := Ground.phase }, { on := 6, ground := Ground.phase }, { on := 7, ground := Ground.phase }, { on := 8, ground := Ground.phase }, { on := 9, ground := Ground.phase }, { on := 10, ground := Ground.phase }, { on := 11, ground := Ground.phase }, { on := 12, ground := Ground.phase }, { on := 13, ground := Ground.phase }, { on := 14, ground := Ground.phase }, { on := 15, ground := Ground.phase }, { on := 16, ground := Ground.phase }, { on := 17, ground := Ground.phase }, { on := 18, ground := Ground.phase }], guard := none }
def ops9 : Array Oper := #[o9_0, o9_1, o9_2, o9_3, o9_4, o9_5, o9_6, o9_7, o9_8, o9_9, o9_10, o9_11, o9_12, o9_13, o9_14, o9_15, o9_16, o9_17, o9_18, o9_19]
theorem at9_0 : ops9[0]? = some o9_0 := rfl
theorem at9_1 : ops9[1]? = some o9_1 := rfl
theorem at9_2 : ops9[2]? = some o9_2 := rfl
theorem at9_3 : ops9[3]? = some o9_3 := rfl
theorem at9_4 : ops9[4]? = some o9_4 := rfl
theorem at9_5 : ops9[5]? = some o9_5 := rfl
theorem at9_6 : ops9[6]? = some o9_6 := rfl
theorem at9_7 : ops9[7]? = some o9_7 := rfl
theorem at9_8 : ops9[8]? = some o9_8 := rfl
theorem at9_9 : ops9[9]? = some o9_9 := rfl
theorem at9_10 : ops9[10]? = some o9_10 := rfl
theorem at9_11 : ops9[11]? = some o9_11 := rfl
theorem at9_12 : ops9[12]? = some o9_12 := rfl
theorem at9_13 : ops9[13]? = some o9_13 := rfl
theorem at9_14 : ops9[14]? = some o9_14 := rfl
theorem at9_15 : ops9[15]? = some o9_15 := rfl
theorem at9_16 : ops9[16]? = some o9_16 := rfl
theorem at9_17 : ops9[17]? = some o9_17 := rfl
theorem at9_18 : ops9[18]? = some o9_18 := rfl
theorem at9_19 : ops9[19]? = some o9_19 := rfl
theorem dep9_0 : ∀ e ∈ o9_0.after, e.on < 0 := by simp [o9_0]
theorem dep9_1 : ∀ e ∈ o9_1.after, e.on < 1 := by simp [o9_1]
theorem dep9_2 : ∀ e ∈ o9_2.after, e.on < 2 := by simp [o9_2]
theorem dep9_3 : ∀ e ∈ o9_3.after, e.on < 3 := by simp [o9_3]
theorem dep9_4 : ∀ e ∈ o9_4.after, e.on < 4 := by simp [o9_4]
theorem dep9_5 : ∀ e ∈ o9_5.after, e.on < 5 := by simp [o9_5]
theorem dep9_6 : ∀ e ∈ o9_6.after, e.on < 6 := by simp [o9_6]
theorem dep9_7 : ∀ e ∈ o9_7.after, e.on < 7 := by simp [o9_7]
theorem dep9_8 : ∀ e ∈ o9_8.after, e.on < 8 := by simp [o9_8]
theorem dep9_9 : ∀ e ∈ o9_9.after, e.on < 9 := by simp [o9_9]
theorem dep9_10 : ∀ e ∈ o9_10.after, e.on < 10 := by simp [o9_10]
theorem dep9_11 : ∀ e ∈ o9_11.after, e.on < 11 := by simp [o9_11]
theorem dep9_12 : ∀ e ∈ o9_12.after, e.on < 12 := by simp [o9_12]
theorem dep9_13 : ∀ e ∈ o9_13.after, e.on < 13 := by simp [o9_13]
theorem dep9_14 : ∀ e ∈ o9_14.after, e.on < 14 := by simp [o9_14]
theorem dep9_15 : ∀ e ∈ o9_15.after, e.on < 15 := by simp [o9_15]
theorem dep9_16 : ∀ e ∈ o9_16.after, e.on < 16 := by simp [o9_16]
theorem dep9_17 : ∀ e ∈ o9_17.after, e.on < 17 := by simp [o9_17]
theorem dep9_18 : ∀ e ∈ o9_18.after, e.on < 18 := by simp [o9_18]
theorem dep9_19 : ∀ e ∈ o9_19.after, e.on < 19 := by simp [o9_19]
def slot9 (i : Nat) : Nat := if i < 12 then 37 + i else i - 5
def val9 (B : Nat) (c : Nat → BA) (A : Nat → Value) (G : Nat → Nat) (i : Nat) : Value :=
  if i < 12 then (if i % 3 = 0 then .pointer (some ⟨B, i / 3, none⟩) else if i % 3 = 1 then .string (c (i / 3)) else sv (A (i / 3)) (.slice none 0 0)) else .pointer (some ⟨G (i - 12), 0, none⟩)
theorem slot9_inj {i j : Nat} (hi : i < 16) (hj : j < 16) (h : slot9 i = slot9 j) : i = j := by
  unfold slot9 at h
  split at h <;> split at h <;> omega
theorem slot9_lt {i : Nat} (hi : i < 16) : slot9 i < 118 := by unfold slot9; split <;> omega
theorem flag_set {l : Array Bool} {i k : Nat} (hs : l.size = 20) (hi : i < 20) : (l.setIfInBounds i true).getD k false = true ↔ k = i ∨ l.getD k false = true := by
  rw [Array.getD_eq_getD_getElem?, Array.getD_eq_getD_getElem?, Array.getElem?_setIfInBounds]
  by_cases e : i = k
  · subst e; simp [hs, hi]
  · simp [e, Ne.symm e]

/-- What the operations that are listed have left. -/
structure St9 (W0 : World) (c : Nat → BA) (l : Array Bool) (A : Nat → Value) (G : Nat → Nat) (w : World) : Prop where
  ca : ∀ k, k < 4 → l.getD (2 + 3 * k) false = true → IsSum w (A k) (.slice none 0 0) ⟨[c k], []⟩
  al : ∀ j, j < 4 → l.getD (12 + j) false = true → W0.heap.size ≤ G j ∧ SBox w (G j) (if l.getD (16 + j) false = true then A j else .slice none 0 0) (.slice none 0 0)
  di : ∀ i, i < 4 → ∀ j, j < 4 → i ≠ j → l.getD (12 + i) false = true → l.getD (12 + j) false = true → G i ≠ G j
  o1 : ∀ j, j < 4 → l.getD (16 + j) false = true → l.getD (2 + 3 * j) false = true ∧ l.getD (12 + j) false = true
structure R9 (W0 : World) (B : Nat) (c : Nat → BA) (a0 : Act) (l : Array Bool) (a : Act) (w : World) : Prop where
  sz : l.size = 20
  tm : a.tmps.size = 118
  df : a.defers = a0.defers
  keep : ∀ t, (∀ i, i < 16 → t ≠ slot9 i) → a.tmps[t]? = a0.tmps[t]?
  b : Below W0.heap.size W0 w
  ex : ∃ A G, (∀ i, i < 16 → l.getD i false = true → a.tmps[slot9 i]? = some (val9 B c A G i)) ∧ St9 W0 c l A G w
theorem R9.put {W0 : World} {B : Nat} {c : Nat → BA} {a0 : Act} {l : Array Bool} {a : Act} {w : World} (h : R9 W0 B c a0 l a w) {A : Nat → Value} {G : Nat → Nat}
    (hA : ∀ i, i < 16 → l.getD i false = true → a.tmps[slot9 i]? = some (val9 B c A G i)) {i : Nat} (hi : i < 16) {v : Value} {w' : World} (b' : Below W0.heap.size W0 w') {A' : Nat → Value} {G' : Nat → Nat}
    (hv : v = val9 B c A' G' i) (hval : ∀ j, j < 16 → j ≠ i → l.getD j false = true → val9 B c A' G' j = val9 B c A G j) (st : St9 W0 c (l.setIfInBounds i true) A' G' w') : R9 W0 B c a0 (l.setIfInBounds i true) (a.put (some (slot9 i)) v) w' := by
  refine ⟨by rw [Array.size_setIfInBounds]; exact h.sz, ?_, h.df, fun t ht => ?_, b', A', G', fun j hj hl => ?_, st⟩
  · simp only [Act.put]; rw [Array.size_setIfInBounds]; exact h.tm
  · simp only [Act.put]
    rw [Array.getElem?_setIfInBounds, if_neg (Ne.symm (ht i hi))]
    exact h.keep t ht
  · simp only [Act.put]
    rw [Array.getElem?_setIfInBounds]
    by_cases e : j = i
    · subst e
      rw [if_pos rfl, if_pos (by rw [h.tm]; exact slot9_lt hj), hv]
    · rw [if_neg (fun q => e (slot9_inj hj hi q.symm))]
      rcases (flag_set h.sz (by omega)).1 hl with q | q
      · exact absurd q e
      · rw [hA j hj q, hval j hj e q]
/-- An operation that only looks. -/
theorem R9.look {W0 : World} {B : Nat} {c : Nat → BA} {a0 : Act} {l : Array Bool} {a : Act} {w : World} (h : R9 W0 B c a0 l a w) {i : Nat} (hi : i < 12) (h3 : i % 3 ≠ 2) {v : Value} (hv : v = if i % 3 = 0 then .pointer (some ⟨B, i / 3, none⟩) else .string (c (i / 3))) :
    R9 W0 B c a0 (l.setIfInBounds i true) (a.put (some (slot9 i)) v) w := by
  obtain ⟨A, G, hA, st⟩ := h.ex
  have hs := h.sz
  refine h.put hA (by omega) h.b (A' := A) (G' := G) ?_ (fun _ _ _ _ => rfl) ⟨fun k hk hl => ?_, fun j hj hl => ?_, fun i' hi' j hj hne h1 h2 => ?_, fun j hj hl => ?_⟩
  · rw [hv]; unfold val9; rw [if_pos hi]
    by_cases e : i % 3 = 0
    · rw [if_pos e, if_pos e]
    · rw [if_neg e, if_neg e, if_pos (by omega)]
  · exact st.ca k hk (((flag_set hs (by omega)).1 hl).resolve_left (by omega))
  · have := st.al j hj (((flag_set hs (by omega)).1 hl).resolve_left (by omega))
    refine ⟨this.1, ?_⟩
    have e : ((l.setIfInBounds i true).getD (16 + j) false = true) = (l.getD (16 + j) false = true) := propext ((flag_set hs (by omega)).trans ⟨fun q => q.resolve_left (by omega), .inr⟩)
    simp only [e]
    exact this.2
  · exact st.di i' hi' j hj hne (((flag_set hs (by omega)).1 h1).resolve_left (by omega)) (((flag_set hs (by omega)).1 h2).resolve_left (by omega))
  · have := st.o1 j hj (((flag_set hs (by omega)).1 hl).resolve_left (by omega))
    exact ⟨(flag_set hs (by omega)).2 (.inr this.1), (flag_set hs (by omega)).2 (.inr this.2)⟩
/-- The call that makes a value. -/
theorem R9.call {W0 : World} {B : Nat} {c : Nat → BA} {a0 : Act} {l : Array Bool} {a : Act} {w : World} (h : R9 W0 B c a0 l a w) {k : Nat} (hk : k < 4) (hl : l.getD (2 + 3 * k) true = false) {va : Value} {w' : World} (hs' : IsSum w' va (.slice none 0 0) ⟨[c k], []⟩) (hb : Below w.heap.size w w') :
    R9 W0 B c a0 (l.setIfInBounds (2 + 3 * k) true) (a.put (some (slot9 (2 + 3 * k))) (sv va (.slice none 0 0))) w' := by
  obtain ⟨A, G, hA, st⟩ := h.ex
  have hs := h.sz
  have hf : ¬ l.getD (2 + 3 * k) false = true := by
    rw [Array.getD_eq_getD_getElem?, Array.getElem?_eq_getElem (by omega)] at hl ⊢
    simp only [Option.getD_some] at hl ⊢
    rw [hl]; simp
  refine h.put hA (by omega) (h.b.trans (hb.mono h.b.size)) (A' := fun x => if x = k then va else A x) (G' := G) ?_ (fun j hj hne hlj => ?_) ⟨fun k' hk' hl' => ?_, fun j hj hlj => ?_, fun i' hi' j hj hne h1 h2 => ?_, fun j hj hlj => ?_⟩
  · unfold val9
    rw [if_pos (by omega), if_neg (by omega), if_neg (by omega)]
    have : (2 + 3 * k) / 3 = k := by omega
    simp [this]
  · unfold val9
    by_cases e : j < 12
    · rw [if_pos e, if_pos e]
      by_cases e0 : j % 3 = 0
      · rw [if_pos e0, if_pos e0]
      · rw [if_neg e0, if_neg e0]
        by_cases e1 : j % 3 = 1
        · rw [if_pos e1, if_pos e1]
        · rw [if_neg e1, if_neg e1]
          have : ¬ j / 3 = k := by omega
          simp only [this, if_false]
    · rw [if_neg e, if_neg e]
  · by_cases e : k' = k
    · subst e; simpa using hs'
    · simp only [e, if_false]
      exact (st.ca k' hk' (((flag_set hs (by omega)).1 hl').resolve_left (by omega))).below hb (Nat.le_refl _)
  · have := st.al j hj (((flag_set hs (by omega)).1 hlj).resolve_left (by omega))
    have e : ((l.setIfInBounds (2 + 3 * k) true).getD (16 + j) false = true) = (l.getD (16 + j) false = true) := propext ((flag_set hs (by omega)).trans ⟨fun q => q.resolve_left (by omega), .inr⟩)
    refine ⟨this.1, ?_⟩
    simp only [e]
    have hx := this.2.below hb this.2.lt
    by_cases q : l.getD (16 + j) false = true
    · rw [if_pos q] at hx ⊢
      have : ¬ j = k := fun e => hf (by rw [← e]; exact (st.o1 j hj q).1)
      simpa [this] using hx
    · rw [if_neg q] at hx ⊢
      exact hx
  · exact st.di i' hi' j hj hne (((flag_set hs (by omega)).1 h1).resolve_left (by omega)) (((flag_set hs (by omega)).1 h2).resolve_left (by omega))
  · have := st.o1 j hj (((flag_set hs (by omega)).1 hlj).resolve_left (by omega))
    exact ⟨(flag_set hs (by omega)).2 (.inr this.1), (flag_set hs (by omega)).2 (.inr this.2)⟩
/-- A new variable. -/
theorem R9.alloc {W0 : World} {B : Nat} {c : Nat → BA} {a0 : Act} {l : Array Bool} {a : Act} {w : World} (h : R9 W0 B c a0 l a w) {j : Nat} (hj : j < 4) (hl : l.getD (12 + j) true = false) :
    R9 W0 B c a0 (l.setIfInBounds (12 + j) true) (a.put (some (slot9 (12 + j))) (.pointer (some ⟨w.heap.size, 0, none⟩))) (w.alloc (.cells #[.slice none 0 0, .slice none 0 0] 24)) := by
  obtain ⟨A, G, hA, st⟩ := h.ex
  have hs := h.sz
  have hb := (Below.refl w.heap.size w).alloc (Nat.le_refl _) (.cells #[.slice none 0 0, .slice none 0 0] 24)
  have hf : ¬ l.getD (12 + j) false = true := by
    rw [Array.getD_eq_getD_getElem?, Array.getElem?_eq_getElem (by omega)] at hl ⊢
    simp only [Option.getD_some] at hl ⊢
    rw [hl]; simp
  refine h.put hA (by omega) (h.b.trans (hb.mono h.b.size)) (A' := A) (G' := fun x => if x = j then w.heap.size else G x) ?_ (fun i hi hne hli => ?_) ⟨fun k' hk' hl' => ?_, fun i hi hli => ?_, fun i' hi' i hi hne h1 h2 => ?_, fun i hi hli => ?_⟩
  · unfold val9
    rw [if_neg (by omega)]
    have : 12 + j - 12 = j := by omega
    simp [this]
  · unfold val9
    by_cases e : i < 12
    · rw [if_pos e, if_pos e]
    · rw [if_neg e, if_neg e]
      have : ¬ i - 12 = j := by omega
      simp only [this, if_false]
  · exact (st.ca k' hk' (((flag_set hs (by omega)).1 hl').resolve_left (by omega))).below hb (Nat.le_refl _)
  · have e : ((l.setIfInBounds (12 + j) true).getD (16 + i) false = true) = (l.getD (16 + i) false = true) := propext ((flag_set hs (by omega)).trans ⟨fun q => q.resolve_left (by omega), .inr⟩)
    simp only [e]
    by_cases q : i = j
    · subst q
      have hn : ¬ l.getD (16 + i) false = true := fun q => hf (st.o1 i hi q).2
      rw [if_neg hn, if_pos rfl]
      exact ⟨h.b.size, SBox.new w _ _⟩
    · rw [if_neg q]
      have := st.al i hi (((flag_set hs (by omega)).1 hli).resolve_left (by omega))
      exact ⟨this.1, this.2.below hb this.2.lt⟩
  · have lt : ∀ x, x < 4 → l.getD (12 + x) false = true → G x < w.heap.size := fun x hx q => (st.al x hx q).2.lt
    have f1 := (flag_set hs (by omega)).1 h1
    have f2 := (flag_set hs (by omega)).1 h2
    by_cases q1 : i' = j
    · by_cases q2 : i = j
      · exact absurd (q1.trans q2.symm) hne
      · rw [if_pos q1, if_neg q2]
        have := lt i hi (f2.resolve_left (by omega))
        omega
    · by_cases q2 : i = j
      · rw [if_neg q1, if_pos q2]
        have := lt i' hi' (f1.resolve_left (by omega))
        omega
      · rw [if_neg q1, if_neg q2]
        exact st.di i' hi' i hi hne (f1.resolve_left (by omega)) (f2.resolve_left (by omega))
  · have := st.o1 i hi (((flag_set hs (by omega)).1 hli).resolve_left (by omega))
    exact ⟨(flag_set hs (by omega)).2 (.inr this.1), (flag_set hs (by omega)).2 (.inr this.2)⟩
/-- The store of a value into its variable. -/
theorem R9.store {W0 : World} {B : Nat} {c : Nat → BA} {a0 : Act} {l : Array Bool} {a : Act} {w : World} (h : R9 W0 B c a0 l a w) {A : Nat → Value} {G : Nat → Nat}
    (hA : ∀ i, i < 16 → l.getD i false = true → a.tmps[slot9 i]? = some (val9 B c A G i)) (st : St9 W0 c l A G w) {j : Nat} (hj : j < 4) (hl : l.getD (16 + j) true = false) (hc : l.getD (2 + 3 * j) false = true) (ha : l.getD (12 + j) false = true) :
    R9 W0 B c a0 (l.setIfInBounds (16 + j) true) a ((w.setCell ⟨G j, 0, none⟩ (A j)).setCell ⟨G j, 1, none⟩ (.slice none 0 0)) := by
  have hs := h.sz
  have hf : ¬ l.getD (16 + j) false = true := by
    rw [Array.getD_eq_getD_getElem?, Array.getElem?_eq_getElem (by omega)] at hl ⊢
    simp only [Option.getD_some] at hl ⊢
    rw [hl]; simp
  have hal := st.al j hj ha
  rw [if_neg hf] at hal
  have hbx := hal.2
  obtain ⟨pa, ca, pr, cr, ea, er, -, -⟩ := (st.ca j hj hc).parts
  have hbx1 := hbx.set0 (A j)
  rw [ea] at hbx1
  refine ⟨by rw [Array.size_setIfInBounds]; exact hs, h.tm, h.df, h.keep, (h.b.setCell (p := ⟨G j, 0, none⟩) hal.1 _).setCell (p := ⟨G j, 1, none⟩) hal.1 _, A, G, fun i hi hli => hA i hi (((flag_set hs (by omega)).1 hli).resolve_left (by omega)), ⟨fun k' hk' hl' => ?_, fun i hi hli => ?_, fun i' hi' i hi hne h1 h2 => ?_, fun i hi hli => ?_⟩⟩
  · have q := st.ca k' hk' (((flag_set hs (by omega)).1 hl').resolve_left (by omega))
    rw [ea]
    exact ⟨(q.a.box hbx 0 _).box hbx1 1 _, (q.r.box hbx 0 _).box hbx1 1 _⟩
  · have q := st.al i hi (((flag_set hs (by omega)).1 hli).resolve_left (by omega))
    refine ⟨q.1, ?_⟩
    by_cases e : i = j
    · subst e
      rw [if_pos ((flag_set hs (by omega)).2 (.inl rfl))]
      exact (hbx.set0 (A i)).set1 _
    · have e2 : ((l.setIfInBounds (16 + j) true).getD (16 + i) false = true) = (l.getD (16 + i) false = true) := propext ((flag_set hs (by omega)).trans ⟨fun q => q.resolve_left (by omega), .inr⟩)
      simp only [e2]
      have hne := st.di i hi j hj e (((flag_set hs (by omega)).1 hli).resolve_left (by omega)) ha
      exact (q.2.other hne 0 _).other hne 1 _
  · exact st.di i' hi' i hi hne (((flag_set hs (by omega)).1 h1).resolve_left (by omega)) (((flag_set hs (by omega)).1 h2).resolve_left (by omega))
  · rcases (flag_set hs (by omega)).1 hli with q | q
    · obtain rfl : i = j := by omega
      exact ⟨(flag_set hs (by omega)).2 (.inr hc), (flag_set hs (by omega)).2 (.inr ha)⟩
    · have := st.o1 i hi q
      exact ⟨(flag_set hs (by omega)).2 (.inr this.1), (flag_set hs (by omega)).2 (.inr this.2)⟩

theorem wpOp_of {P : Program} {ops : Array Oper} {Q : Exit → Act → World → Prop} {i : Nat} {o : Oper} {K : Act → World → Prop} {a : Act} {w : World} (ho : ops[i]? = some o) (hg : o.guard = none) (h : o.wp P a w K Q) : wpOp P ops Q i K a w := by
  unfold wpOp
  rw [ho]
  simp only [Region.wanted, hg]
  exact .inl h
theorem op_index {o : Oper} {a : Act} {w : World} {K : Act → World → Prop} {Q : Exit → Act → World → Prop} (B k : Nat) (hk : k < 4) (z : Int) (hzk : z = k) (hop : o.op = Op.indexAddr 44 (Operand.tmp 3) (Operand.const (Value.int IntKind.i64 z)))
    (h3 : a.tmps[3]? = some (.pointer (some ⟨B, 0, none⟩))) (hK : K (a.put o.dst (.pointer (some ⟨B, k, none⟩))) w) : o.wp Try.prog a w K Q := by
  unfold Oper.wp
  subst hzk
  have : k = 0 ∨ k = 1 ∨ k = 2 ∨ k = 3 := by omega
  rcases this with rfl | rfl | rfl | rfl <;> simp [execOp, hop, go_sem, h3] <;> exact hK
theorem op_load {o : Oper} {a : Act} {w : World} {K : Act → World → Prop} {Q : Exit → Act → World → Prop} (s : Nat) (B k : Nat) (x : BA) (hop : o.op = Op.load 9 (Operand.tmp s))
    (hs : a.tmps[s]? = some (.pointer (some ⟨B, k, none⟩))) (hx : w.cell? ⟨B, k, none⟩ = some (.string x)) (hK : K (a.put o.dst (.string x)) w) : o.wp Try.prog a w K Q := by
  unfold Oper.wp
  simp [execOp, hop, go_sem, hs, hx]
  exact hK
theorem op_of {o : Oper} {a : Act} {w : World} {K : Act → World → Prop} {Q : Exit → Act → World → Prop} (s : Nat) (x : BA) (hop : o.op = Op.call { callee := Callee.value (Operand.func 19), args := #[Operand.tmp s], argTypes := #[9] })
    (hs : a.tmps[s]? = some (.string x)) (hK : ∀ va w', IsSum w' va (.slice none 0 0) ⟨[x], []⟩ → Below w.heap.size w w' → K (a.put o.dst (sv va (.slice none 0 0))) w') : o.wp Try.prog a w K Q := by
  unfold Oper.wp
  simp [execOp, hop, go_sem, hs]
  refine (of_any x w).mono ?_
  rintro e w' ⟨va, rfl, h1, h2⟩
  exact hK va w' h1 h2
theorem op_alloc {o : Oper} {a : Act} {w : World} {K : Act → World → Prop} {Q : Exit → Act → World → Prop} (hop : o.op = Op.alloc 24)
    (hK : K (a.put o.dst (.pointer (some ⟨w.heap.size, 0, none⟩))) (w.alloc (.cells #[.slice none 0 0, .slice none 0 0] 24))) : o.wp Try.prog a w K Q := by
  unfold Oper.wp
  simp [execOp, hop, go_sem]
  exact hK
theorem op_store {o : Oper} {a : Act} {w : World} {K : Act → World → Prop} {Q : Exit → Act → World → Prop} (s t : Nat) (g : Nat) (p : Option Addr) (n q : Nat) (hop : o.op = Op.store 24 (Operand.tmp s) (Operand.tmp t)) (hd : o.dst = none)
    (hs : a.tmps[s]? = some (.pointer (some ⟨g, 0, none⟩))) (ht : a.tmps[t]? = some (sv (.slice p n q) (.slice none 0 0))) (hb : SBox w g (.slice none 0 0) (.slice none 0 0)) (hK : K a ((w.setCell ⟨g, 0, none⟩ (.slice p n q)).setCell ⟨g, 1, none⟩ (.slice none 0 0))) : o.wp Try.prog a w K Q := by
  unfold Oper.wp
  have c0 := hb.c0
  have f0 := hb.f0 0
  have e0 := (hb.set0 (.slice p n q)).c1
  have e1 := (hb.set0 (.slice p n q)).f0 1
  simp [execOp, hop, go_sem, hs, ht, c0, f0, e0, e1]
  simpa [Act.put, hd] using hK
/-- A box with four texts. -/
def QBox (W : World) (B : Nat) (c : Nat → BA) : Prop := W.heap[B]? = some (.cells #[.string (c 0), .string (c 1), .string (c 2), .string (c 3)] 44 (0, 0))
theorem QBox.new (W : World) (c : Nat → BA) : QBox (W.alloc (.cells #[.string (c 0), .string (c 1), .string (c 2), .string (c 3)] 44)) W.heap.size c := World.alloc_heap_new W _
theorem QBox.lt {W : World} {B : Nat} {c : Nat → BA} (h : QBox W B c) : B < W.heap.size := (Array.getElem?_eq_some_iff.1 h).1
theorem QBox.cell {W : World} {B : Nat} {c : Nat → BA} (h : QBox W B c) {k : Nat} (hk : k < 4) : W.cell? ⟨B, k, none⟩ = some (.string (c k)) := by
  have : k = 0 ∨ k = 1 ∨ k = 2 ∨ k = 3 := by omega
  rcases this with rfl | rfl | rfl | rfl <;> simp [World.cell?, show W.heap[B]? = _ from h]
theorem QBox.on {W W' : World} {B : Nat} {c : Nat → BA} (h : QBox W B c) (hb : Below W.heap.size W W') : QBox W' B c := (hb.block B h.lt).trans h

set_option maxRecDepth 100000 in
theorem step9_0 {W0 : World} {B : Nat} {c : Nat → BA} {a0 : Act} {Q : Exit → Act → World → Prop} (_hB : QBox W0 B c) (h3 : a0.tmps[3]? = some (.pointer (some ⟨B, 0, none⟩))) {l : Array Bool} {a : Act} {w : World} {o : Oper} (h : R9 W0 B c a0 l a w) (ho : ops9[0]? = some o) (_hl : l.getD 0 true = false)
    (_hd : ∀ e ∈ o.after, Region.binds .any e = true → l.getD e.on false = true) : wpOp Try.prog ops9 Q 0 (R9 W0 B c a0 (l.setIfInBounds 0 true)) a w := by
  obtain rfl := Option.some.inj (at9_0.symm.trans ho)
  refine wpOp_of ho rfl ?_
  refine op_index B 0 (by omega) 0 (by simp) (by simp only [o9_0]) (by rw [h.keep 3 (by intro i hi; unfold slot9; split <;> omega)]; exact h3) ?_
  have r := h.look (i := 0) (by omega) (by omega) (v := .pointer (some ⟨B, 0, none⟩)) (by simp)
  rw [show slot9 0 = 37 from by simp [slot9]] at r
  exact r
theorem step9_1 {W0 : World} {B : Nat} {c : Nat → BA} {a0 : Act} {Q : Exit → Act → World → Prop} (hB : QBox W0 B c) (_h3 : a0.tmps[3]? = some (.pointer (some ⟨B, 0, none⟩))) {l : Array Bool} {a : Act} {w : World} {o : Oper} (h : R9 W0 B c a0 l a w) (ho : ops9[1]? = some o) (_hl : l.getD 1 true = false)
    (hd : ∀ e ∈ o.after, Region.binds .any e = true → l.getD e.on false = true) : wpOp Try.prog ops9 Q 1 (R9 W0 B c a0 (l.setIfInBounds 1 true)) a w := by
  obtain ⟨A, G, hA, -⟩ := h.ex
  obtain rfl := Option.some.inj (at9_1.symm.trans ho)
  refine wpOp_of ho rfl ?_
  have d := hA 0 (by omega) (hd { on := 0, ground := Ground.data } (by simp [o9_1]) rfl)
  refine op_load 37 B 0 (c 0) rfl d (hB.on h.b |>.cell (by omega)) ?_
  have r := h.look (i := 1) (by omega) (by omega) (v := .string (c 0)) (by simp)
  rw [show slot9 1 = 38 from by simp [slot9]] at r
  exact r
theorem step9_2 {W0 : World} {B : Nat} {c : Nat → BA} {a0 : Act} {Q : Exit → Act → World → Prop} (_hB : QBox W0 B c) (_h3 : a0.tmps[3]? = some (.pointer (some ⟨B, 0, none⟩))) {l : Array Bool} {a : Act} {w : World} {o : Oper} (h : R9 W0 B c a0 l a w) (ho : ops9[2]? = some o) (hl : l.getD 2 true = false)
    (hd : ∀ e ∈ o.after, Region.binds .any e = true → l.getD e.on false = true) : wpOp Try.prog ops9 Q 2 (R9 W0 B c a0 (l.setIfInBounds 2 true)) a w := by
  obtain ⟨A, G, hA, -⟩ := h.ex
  obtain rfl := Option.some.inj (at9_2.symm.trans ho)
  refine wpOp_of ho rfl ?_
  have d := hA 1 (by omega) (hd { on := 1, ground := Ground.data } (by simp [o9_2]) rfl)
  refine op_of 38 (c 0) rfl d fun va w' h1 h2 => ?_
  have r := h.call (k := 0) (by omega) hl h1 h2
  rw [show slot9 (2 + 3 * 0) = 39 from by simp [slot9]] at r
  exact r
set_option maxRecDepth 100000 in
theorem step9_3 {W0 : World} {B : Nat} {c : Nat → BA} {a0 : Act} {Q : Exit → Act → World → Prop} (_hB : QBox W0 B c) (h3 : a0.tmps[3]? = some (.pointer (some ⟨B, 0, none⟩))) {l : Array Bool} {a : Act} {w : World} {o : Oper} (h : R9 W0 B c a0 l a w) (ho : ops9[3]? = some o) (_hl : l.getD 3 true = false)
    (_hd : ∀ e ∈ o.after, Region.binds .any e = true → l.getD e.on false = true) : wpOp Try.prog ops9 Q 3 (R9 W0 B c a0 (l.setIfInBounds 3 true)) a w := by
  obtain rfl := Option.some.inj (at9_3.symm.trans ho)
  refine wpOp_of ho rfl ?_
  refine op_index B 1 (by omega) 1 (by simp) (by simp only [o9_3]) (by rw [h.keep 3 (by intro i hi; unfold slot9; split <;> omega)]; exact h3) ?_
  have r := h.look (i := 3) (by omega) (by omega) (v := .pointer (some ⟨B, 1, none⟩)) (by simp)
  rw [show slot9 3 = 40 from by simp [slot9]] at r
  exact r
theorem step9_4 {W0 : World} {B : Nat} {c : Nat → BA} {a0 : Act} {Q : Exit → Act → World → Prop} (hB : QBox W0 B c) (_h3 : a0.tmps[3]? = some (.pointer (some ⟨B, 0, none⟩))) {l : Array Bool} {a : Act} {w : World} {o : Oper} (h : R9 W0 B c a0 l a w) (ho : ops9[4]? = some o) (_hl : l.getD 4 true = false)
    (hd : ∀ e ∈ o.after, Region.binds .any e = true → l.getD e.on false = true) : wpOp Try.prog ops9 Q 4 (R9 W0 B c a0 (l.setIfInBounds 4 true)) a w := by
  obtain ⟨A, G, hA, -⟩ := h.ex
  obtain rfl := Option.some.inj (at9_4.symm.trans ho)
  refine wpOp_of ho rfl ?_
  have d := hA 3 (by omega) (hd { on := 3, ground := Ground.data } (by simp [o9_4]) rfl)
  refine op_load 40 B 1 (c 1) rfl d (hB.on h.b |>.cell (by omega)) ?_
  have r := h.look (i := 4) (by omega) (by omega) (v := .string (c 1)) (by simp)
  rw [show slot9 4 = 41 from by simp [slot9]] at r
  exact r
theorem step9_5 {W0 : World} {B : Nat} {c : Nat → BA} {a0 : Act} {Q : Exit → Act → World → Prop} (_hB : QBox W0 B c) (_h3 : a0.tmps[3]? = some (.pointer (some ⟨B, 0, none⟩))) {l : Array Bool} {a : Act} {w : World} {o : Oper} (h : R9 W0 B c a0 l a w) (ho : ops9[5]? = some o) (hl : l.getD 5 true = false)
    (hd : ∀ e ∈ o.after, Region.binds .any e = true → l.getD e.on false = true) : wpOp Try.prog ops9 Q 5 (R9 W0 B c a0 (l.setIfInBounds 5 true)) a w := by
  obtain ⟨A, G, hA, -⟩ := h.ex
  obtain rfl := Option.some.inj (at9_5.symm.trans ho)
  refine wpOp_of ho rfl ?_
  have d := hA 4 (by omega) (hd { on := 4, ground := Ground.data } (by simp [o9_5]) rfl)
  refine op_of 41 (c 1) rfl d fun va w' h1 h2 => ?_
  have r := h.call (k := 1) (by omega) hl h1 h2
  rw [show slot9 (2 + 3 * 1) = 42 from by simp [slot9]] at r
  exact r
set_option maxRecDepth 100000 in
theorem step9_6 {W0 : World} {B : Nat} {c : Nat → BA} {a0 : Act} {Q : Exit → Act → World → Prop} (_hB : QBox W0 B c) (h3 : a0.tmps[3]? = some (.pointer (some ⟨B, 0, none⟩))) {l : Array Bool} {a : Act} {w : World} {o : Oper} (h : R9 W0 B c a0 l a w) (ho : ops9[6]? = some o) (_hl : l.getD 6 true = false)
    (_hd : ∀ e ∈ o.after, Region.binds .any e = true → l.getD e.on false = true) : wpOp Try.prog ops9 Q 6 (R9 W0 B c a0 (l.setIfInBounds 6 true)) a w := by
  obtain rfl := Option.some.inj (at9_6.symm.trans ho)
  refine wpOp_of ho rfl ?_
  refine op_index B 2 (by omega) 2 (by simp) (by simp only [o9_6]) (by rw [h.keep 3 (by intro i hi; unfold slot9; split <;> omega)]; exact h3) ?_
  have r := h.look (i := 6) (by omega) (by omega) (v := .pointer (some ⟨B, 2, none⟩)) (by simp)
  rw [show slot9 6 = 43 from by simp [slot9]] at r
  exact r
theorem step9_7 {W0 : World} {B : Nat} {c : Nat → BA} {a0 : Act} {Q : Exit → Act → World → Prop} (hB : QBox W0 B c) (_h3 : a0.tmps[3]? = some (.pointer (some ⟨B, 0, none⟩))) {l : Array Bool} {a : Act} {w : World} {o : Oper} (h : R9 W0 B c a0 l a w) (ho : ops9[7]? = some o) (_hl : l.getD 7 true = false)
    (hd : ∀ e ∈ o.after, Region.binds .any e = true → l.getD e.on false = true) : wpOp Try.prog ops9 Q 7 (R9 W0 B c a0 (l.setIfInBounds 7 true)) a w := by
  obtain ⟨A, G, hA, -⟩ := h.ex
  obtain rfl := Option.some.inj (at9_7.symm.trans ho)
  refine wpOp_of ho rfl ?_
  have d := hA 6 (by omega) (hd { on := 6, ground := Ground.data } (by simp [o9_7]) rfl)
  refine op_load 43 B 2 (c 2) rfl d (hB.on h.b |>.cell (by omega)) ?_
  have r := h.look (i := 7) (by omega) (by omega) (v := .string (c 2)) (by simp)
  rw [show slot9 7 = 44 from by simp [slot9]] at r
  exact r
theorem step9_8 {W0 : World} {B : Nat} {c : Nat → BA} {a0 : Act} {Q : Exit → Act → World → Prop} (_hB : QBox W0 B c) (_h3 : a0.tmps[3]? = some (.pointer (some ⟨B, 0, none⟩))) {l : Array Bool} {a : Act} {w : World} {o : Oper} (h : R9 W0 B c a0 l a w) (ho : ops9[8]? = some o) (hl : l.getD 8 true = false)
    (hd : ∀ e ∈ o.after, Region.binds .any e = true → l.getD e.on false = true) : wpOp Try.prog ops9 Q 8 (R9 W0 B c a0 (l.setIfInBounds 8 true)) a w := by
  obtain ⟨A, G, hA, -⟩ := h.ex
  obtain rfl := Option.some.inj (at9_8.symm.trans ho)
  refine wpOp_of ho rfl ?_
  have d := hA 7 (by omega) (hd { on := 7, ground := Ground.data } (by simp [o9_8]) rfl)
  refine op_of 44 (c 2) rfl d fun va w' h1 h2 => ?_
  have r := h.call (k := 2) (by omega) hl h1 h2
  rw [show slot9 (2 + 3 * 2) = 45 from by simp [slot9]] at r
  exact r
set_option maxRecDepth 100000 in
theorem step9_9 {W0 : World} {B : Nat} {c : Nat → BA} {a0 : Act} {Q : Exit → Act → World → Prop} (_hB : QBox W0 B c) (h3 : a0.tmps[3]? = some (.pointer (some ⟨B, 0, none⟩))) {l : Array Bool} {a : Act} {w : World} {o : Oper} (h : R9 W0 B c a0 l a w) (ho : ops9[9]? = some o) (_hl : l.getD 9 true = false)
    (_hd : ∀ e ∈ o.after, Region.binds .any e = true → l.getD e.on false = true) : wpOp Try.prog ops9 Q 9 (R9 W0 B c a0 (l.setIfInBounds 9 true)) a w := by
  obtain rfl := Option.some.inj (at9_9.symm.trans ho)
  refine wpOp_of ho rfl ?_
  refine op_index B 3 (by omega) 3 (by simp) (by simp only [o9_9]) (by rw [h.keep 3 (by intro i hi; unfold slot9; split <;> omega)]; exact h3) ?_
  have r := h.look (i := 9) (by omega) (by omega) (v := .pointer (some ⟨B, 3, none⟩)) (by simp)
  rw [show slot9 9 = 46 from by simp [slot9]] at r
  exact r
theorem step9_10 {W0 : World} {B : Nat} {c : Nat → BA} {a0 : Act} {Q : Exit → Act → World → Prop} (hB : QBox W0 B c) (_h3 : a0.tmps[3]? = some (.pointer (some ⟨B, 0, none⟩))) {l : Array Bool} {a : Act} {w : World} {o : Oper} (h : R9 W0 B c a0 l a w) (ho : ops9[10]? = some o) (_hl : l.getD 10 true = false)
    (hd : ∀ e ∈ o.after, Region.binds .any e = true → l.getD e.on false = true) : wpOp Try.prog ops9 Q 10 (R9 W0 B c a0 (l.setIfInBounds 10 true)) a w := by
  obtain ⟨A, G, hA, -⟩ := h.ex
  obtain rfl := Option.some.inj (at9_10.symm.trans ho)
  refine wpOp_of ho rfl ?_
  have d := hA 9 (by omega) (hd { on := 9, ground := Ground.data } (by simp [o9_10]) rfl)
  refine op_load 46 B 3 (c 3) rfl d (hB.on h.b |>.cell (by omega)) ?_
  have r := h.look (i := 10) (by omega) (by omega) (v := .string (c 3)) (by simp)
  rw [show slot9 10 = 47 from by simp [slot9]] at r
  exact r
theorem step9_11 {W0 : World} {B : Nat} {c : Nat → BA} {a0 : Act} {Q : Exit → Act → World → Prop} (_hB : QBox W0 B c) (_h3 : a0.tmps[3]? = some (.pointer (some ⟨B, 0, none⟩))) {l : Array Bool} {a : Act} {w : World} {o : Oper} (h : R9 W0 B c a0 l a w) (ho : ops9[11]? = some o) (hl : l.getD 11 true = false)
    (hd : ∀ e ∈ o.after, Region.binds .any e = true → l.getD e.on false = true) : wpOp Try.prog ops9 Q 11 (R9 W0 B c a0 (l.setIfInBounds 11 true)) a w := by
  obtain ⟨A, G, hA, -⟩ := h.ex
  obtain rfl := Option.some.inj (at9_11.symm.trans ho)
  refine wpOp_of ho rfl ?_
  have d := hA 10 (by omega) (hd { on := 10, ground := Ground.data } (by simp [o9_11]) rfl)
  refine op_of 47 (c 3) rfl d fun va w' h1 h2 => ?_
  have r := h.call (k := 3) (by omega) hl h1 h2
  rw [show slot9 (2 + 3 * 3) = 48 from by simp [slot9]] at r
  exact r
set_option maxRecDepth 100000 in
theorem step9_12 {W0 : World} {B : Nat} {c : Nat → BA} {a0 : Act} {Q : Exit → Act → World → Prop} (_hB : QBox W0 B c) (_h3 : a0.tmps[3]? = some (.pointer (some ⟨B, 0, none⟩))) {l : Array Bool} {a : Act} {w : World} {o : Oper} (h : R9 W0 B c a0 l a w) (ho : ops9[12]? = some o) (hl : l.getD 12 true = false)
    (_hd : ∀ e ∈ o.after, Region.binds .any e = true → l.getD e.on false = true) : wpOp Try.prog ops9 Q 12 (R9 W0 B c a0 (l.setIfInBounds 12 true)) a w := by
  obtain rfl := Option.some.inj (at9_12.symm.trans ho)
  refine wpOp_of ho rfl ?_
  refine op_alloc (by simp only [o9_12]) ?_
  have r := h.alloc (j := 0) (by omega) hl
  rw [show slot9 (12 + 0) = 7 from by simp [slot9]] at r
  exact r
set_option maxRecDepth 100000 in
theorem step9_13 {W0 : World} {B : Nat} {c : Nat → BA} {a0 : Act} {Q : Exit → Act → World → Prop} (_hB : QBox W0 B c) (_h3 : a0.tmps[3]? = some (.pointer (some ⟨B, 0, none⟩))) {l : Array Bool} {a : Act} {w : World} {o : Oper} (h : R9 W0 B c a0 l a w) (ho : ops9[13]? = some o) (hl : l.getD 13 true = false)
    (_hd : ∀ e ∈ o.after, Region.binds .any e = true → l.getD e.on false = true) : wpOp Try.prog ops9 Q 13 (R9 W0 B c a0 (l.setIfInBounds 13 true)) a w := by
  obtain rfl := Option.some.inj (at9_13.symm.trans ho)
  refine wpOp_of ho rfl ?_
  refine op_alloc (by simp only [o9_13]) ?_
  have r := h.alloc (j := 1) (by omega) hl
  rw [show slot9 (12 + 1) = 8 from by simp [slot9]] at r
  exact r
set_option maxRecDepth 100000 in
theorem step9_14 {W0 : World} {B : Nat} {c : Nat → BA} {a0 : Act} {Q : Exit → Act → World → Prop} (_hB : QBox W0 B c) (_h3 : a0.tmps[3]? = some (.pointer (some ⟨B, 0, none⟩))) {l : Array Bool} {a : Act} {w : World} {o : Oper} (h : R9 W0 B c a0 l a w) (ho : ops9[14]? = some o) (hl : l.getD 14 true = false)
    (_hd : ∀ e ∈ o.after, Region.binds .any e = true → l.getD e.on false = true) : wpOp Try.prog ops9 Q 14 (R9 W0 B c a0 (l.setIfInBounds 14 true)) a w := by
  obtain rfl := Option.some.inj (at9_14.symm.trans ho)
  refine wpOp_of ho rfl ?_
  refine op_alloc (by simp only [o9_14]) ?_
  have r := h.alloc (j := 2) (by omega) hl
  rw [show slot9 (12 + 2) = 9 from by simp [slot9]] at r
  exact r
set_option maxRecDepth 100000 in
theorem step9_15 {W0 : World} {B : Nat} {c : Nat → BA} {a0 : Act} {Q : Exit → Act → World → Prop} (_hB : QBox W0 B c) (_h3 : a0.tmps[3]? = some (.pointer (some ⟨B, 0, none⟩))) {l : Array Bool} {a : Act} {w : World} {o : Oper} (h : R9 W0 B c a0 l a w) (ho : ops9[15]? = some o) (hl : l.getD 15 true = false)
    (_hd : ∀ e ∈ o.after, Region.binds .any e = true → l.getD e.on false = true) : wpOp Try.prog ops9 Q 15 (R9 W0 B c a0 (l.setIfInBounds 15 true)) a w := by
  obtain rfl := Option.some.inj (at9_15.symm.trans ho)
  refine wpOp_of ho rfl ?_
  refine op_alloc (by simp only [o9_15]) ?_
  have r := h.alloc (j := 3) (by omega) hl
  rw [show slot9 (12 + 3) = 10 from by simp [slot9]] at r
  exact r
theorem step9_16 {W0 : World} {B : Nat} {c : Nat → BA} {a0 : Act} {Q : Exit → Act → World → Prop} (_hB : QBox W0 B c) (_h3 : a0.tmps[3]? = some (.pointer (some ⟨B, 0, none⟩))) {l : Array Bool} {a : Act} {w : World} {o : Oper} (h : R9 W0 B c a0 l a w) (ho : ops9[16]? = some o) (hl : l.getD 16 true = false)
    (hd : ∀ e ∈ o.after, Region.binds .any e = true → l.getD e.on false = true) : wpOp Try.prog ops9 Q 16 (R9 W0 B c a0 (l.setIfInBounds 16 true)) a w := by
  obtain ⟨A, G, hA, st⟩ := h.ex
  obtain rfl := Option.some.inj (at9_16.symm.trans ho)
  refine wpOp_of ho rfl ?_
  have dc := hd { on := 2, ground := Ground.data } (by simp [o9_16]) rfl
  have da := hd { on := 12, ground := Ground.data } (by simp [o9_16]) rfl
  have q1 := hA 12 (by omega) da
  have q2 := hA 2 (by omega) dc
  obtain ⟨p, cp, pr, cr, ea, -, -, -⟩ := (st.ca 0 (by omega) dc).parts
  have hal := st.al 0 (by omega) da
  have hf : ¬ l.getD 16 false = true := by
    have hs := h.sz
    rw [Array.getD_eq_getD_getElem?, Array.getElem?_eq_getElem (by omega)] at hl ⊢
    simp only [Option.getD_some] at hl ⊢
    rw [hl]; simp
  rw [if_neg hf] at hal
  have hst := h.store hA st (j := 0) (by omega) hl dc da
  have q2' : a.tmps[39]? = some (sv (A 0) (.slice none 0 0)) := q2
  rw [ea] at hst q2'
  exact op_store 7 39 (G 0) p _ cp rfl rfl q1 q2' hal.2 hst
theorem step9_17 {W0 : World} {B : Nat} {c : Nat → BA} {a0 : Act} {Q : Exit → Act → World → Prop} (_hB : QBox W0 B c) (_h3 : a0.tmps[3]? = some (.pointer (some ⟨B, 0, none⟩))) {l : Array Bool} {a : Act} {w : World} {o : Oper} (h : R9 W0 B c a0 l a w) (ho : ops9[17]? = some o) (hl : l.getD 17 true = false)
    (hd : ∀ e ∈ o.after, Region.binds .any e = true → l.getD e.on false = true) : wpOp Try.prog ops9 Q 17 (R9 W0 B c a0 (l.setIfInBounds 17 true)) a w := by
  obtain ⟨A, G, hA, st⟩ := h.ex
  obtain rfl := Option.some.inj (at9_17.symm.trans ho)
  refine wpOp_of ho rfl ?_
  have dc := hd { on := 5, ground := Ground.data } (by simp [o9_17]) rfl
  have da := hd { on := 13, ground := Ground.data } (by simp [o9_17]) rfl
  have q1 := hA 13 (by omega) da
  have q2 := hA 5 (by omega) dc
  obtain ⟨p, cp, pr, cr, ea, -, -, -⟩ := (st.ca 1 (by omega) dc).parts
  have hal := st.al 1 (by omega) da
  have hf : ¬ l.getD 17 false = true := by
    have hs := h.sz
    rw [Array.getD_eq_getD_getElem?, Array.getElem?_eq_getElem (by omega)] at hl ⊢
    simp only [Option.getD_some] at hl ⊢
    rw [hl]; simp
  rw [if_neg hf] at hal
  have hst := h.store hA st (j := 1) (by omega) hl dc da
  have q2' : a.tmps[42]? = some (sv (A 1) (.slice none 0 0)) := q2
  rw [ea] at hst q2'
  exact op_store 8 42 (G 1) p _ cp rfl rfl q1 q2' hal.2 hst
theorem step9_18 {W0 : World} {B : Nat} {c : Nat → BA} {a0 : Act} {Q : Exit → Act → World → Prop} (_hB : QBox W0 B c) (_h3 : a0.tmps[3]? = some (.pointer (some ⟨B, 0, none⟩))) {l : Array Bool} {a : Act} {w : World} {o : Oper} (h : R9 W0 B c a0 l a w) (ho : ops9[18]? = some o) (hl : l.getD 18 true = false)
    (hd : ∀ e ∈ o.after, Region.binds .any e = true → l.getD e.on false = true) : wpOp Try.prog ops9 Q 18 (R9 W0 B c a0 (l.setIfInBounds 18 true)) a w := by
  obtain ⟨A, G, hA, st⟩ := h.ex
  obtain rfl := Option.some.inj (at9_18.symm.trans ho)
  refine wpOp_of ho rfl ?_
  have dc := hd { on := 8, ground := Ground.data } (by simp [o9_18]) rfl
  have da := hd { on := 14, ground := Ground.data } (by simp [o9_18]) rfl
  have q1 := hA 14 (by omega) da
  have q2 := hA 8 (by omega) dc
  obtain ⟨p, cp, pr, cr, ea, -, -, -⟩ := (st.ca 2 (by omega) dc).parts
  have hal := st.al 2 (by omega) da
  have hf : ¬ l.getD 18 false = true := by
    have hs := h.sz
    rw [Array.getD_eq_getD_getElem?, Array.getElem?_eq_getElem (by omega)] at hl ⊢
    simp only [Option.getD_some] at hl ⊢
    rw [hl]; simp
  rw [if_neg hf] at hal
  have hst := h.store hA st (j := 2) (by omega) hl dc da
  have q2' : a.tmps[45]? = some (sv (A 2) (.slice none 0 0)) := q2
  rw [ea] at hst q2'
  exact op_store 9 45 (G 2) p _ cp rfl rfl q1 q2' hal.2 hst
theorem step9_19 {W0 : World} {B : Nat} {c : Nat → BA} {a0 : Act} {Q : Exit → Act → World → Prop} (_hB : QBox W0 B c) (_h3 : a0.tmps[3]? = some (.pointer (some ⟨B, 0, none⟩))) {l : Array Bool} {a : Act} {w : World} {o : Oper} (h : R9 W0 B c a0 l a w) (ho : ops9[19]? = some o) (hl : l.getD 19 true = false)
    (hd : ∀ e ∈ o.after, Region.binds .any e = true → l.getD e.on false = true) : wpOp Try.prog ops9 Q 19 (R9 W0 B c a0 (l.setIfInBounds 19 true)) a w := by
  obtain ⟨A, G, hA, st⟩ := h.ex
  obtain rfl := Option.some.inj (at9_19.symm.trans ho)
  refine wpOp_of ho rfl ?_
  have dc := hd { on := 11, ground := Ground.data } (by simp [o9_19]) rfl
  have da := hd { on := 15, ground := Ground.data } (by simp [o9_19]) rfl
  have q1 := hA 15 (by omega) da
  have q2 := hA 11 (by omega) dc
  obtain ⟨p, cp, pr, cr, ea, -, -, -⟩ := (st.ca 3 (by omega) dc).parts
  have hal := st.al 3 (by omega) da
  have hf : ¬ l.getD 19 false = true := by
    have hs := h.sz
    rw [Array.getD_eq_getD_getElem?, Array.getElem?_eq_getElem (by omega)] at hl ⊢
    simp only [Option.getD_some] at hl ⊢
    rw [hl]; simp
  rw [if_neg hf] at hal
  have hst := h.store hA st (j := 3) (by omega) hl dc da
  have q2' : a.tmps[48]? = some (sv (A 3) (.slice none 0 0)) := q2
  rw [ea] at hst q2'
  exact op_store 10 48 (G 3) p _ cp rfl rfl q1 q2' hal.2 hst

/-- The frame behind the region. -/
def fin9 (B : Nat) (c : Nat → BA) (A : Nat → Value) (G : Nat → Nat) (a0 : Act) : Nat → Act
  | 0 => a0
  | n + 1 => (fin9 B c A G a0 n).put (some (slot9 n)) (val9 B c A G n)
theorem fin9_facts (B : Nat) (c : Nat → BA) (A : Nat → Value) (G : Nat → Nat) (a0 : Act) (hz : a0.tmps.size = 118) : ∀ n, n ≤ 16 → (fin9 B c A G a0 n).tmps.size = 118 ∧ (fin9 B c A G a0 n).defers = a0.defers ∧ (∀ i, i < n → (fin9 B c A G a0 n).tmps[slot9 i]? = some (val9 B c A G i)) ∧ ∀ t, (∀ i, i < n → t ≠ slot9 i) → (fin9 B c A G a0 n).tmps[t]? = a0.tmps[t]?
  | 0, _ => ⟨hz, rfl, fun i hi => absurd hi (Nat.not_lt_zero _), fun _ _ => rfl⟩
  | n + 1, h => by
    obtain ⟨f1, f2, f3, f4⟩ := fin9_facts B c A G a0 hz n (by omega)
    simp only [fin9, Act.put]
    refine ⟨by rw [Array.size_setIfInBounds]; exact f1, f2, fun i hi => ?_, fun t ht => ?_⟩
    · rw [Array.getElem?_setIfInBounds]
      by_cases e : i = n
      · subst e
        rw [if_pos rfl, if_pos (by rw [f1]; exact slot9_lt (by omega))]
      · rw [if_neg (fun q => e (slot9_inj (by omega) (by omega) q.symm)), f3 i (by omega)]
    · rw [Array.getElem?_setIfInBounds, if_neg (Ne.symm (ht n (by omega))), f4 t fun i hi => ht i (by omega)]
theorem act_ext {a b : Act} (h1 : a.tmps = b.tmps) (h2 : a.defers = b.defers) : a = b := by cases a; cases b; simp at h1 h2; rw [h1, h2]
/-- What the region leaves: four variables with a value each. -/
structure Four (W0 W : World) (c : Nat → BA) (A : Nat → Value) (G : Nat → Nat) : Prop where
  b : Below W0.heap.size W0 W
  x : ∀ k, k < 4 → W0.heap.size ≤ G k ∧ SBox W (G k) (A k) (.slice none 0 0) ∧ IsSum W (A k) (.slice none 0 0) ⟨[c k], []⟩
theorem region9 {id : Nat} {W0 : World} {B : Nat} {c : Nat → BA} {a0 : Act} {Q : Exit → Act → World → Prop} (hB : QBox W0 B c) (h3 : a0.tmps[3]? = some (.pointer (some ⟨B, 0, none⟩))) (hz : a0.tmps.size = 118)
    (hend : ∀ A G W, Four W0 W c A G → Q .normal (fin9 B c A G a0 16) W) : (Code.region id ops9 true).wp Try.prog Q a0 W0 := by
  refine wp_region_any (by kernel_rfl) ?_
  refine wpAny_inv (ops := ops9) (R9 W0 B c a0) ?_ (fun l a w h => h.sz) ?_ ?_ _ _ _ _ ⟨rfl, hz, rfl, fun _ _ => rfl, (Below.refl _ _).drew, fun _ => .slice none 0 0, fun _ => 0, ?_, ?_⟩ (Nat.le_refl _)
  · intro i o ho e he
    have hi : i < 20 := (Array.getElem?_eq_some_iff.1 ho).1
    have hc : i = 0 ∨ i = 1 ∨ i = 2 ∨ i = 3 ∨ i = 4 ∨ i = 5 ∨ i = 6 ∨ i = 7 ∨ i = 8 ∨ i = 9 ∨ i = 10 ∨ i = 11 ∨ i = 12 ∨ i = 13 ∨ i = 14 ∨ i = 15 ∨ i = 16 ∨ i = 17 ∨ i = 18 ∨ i = 19 := by omega
    rcases hc with rfl | rfl | rfl | rfl | rfl | rfl | rfl | rfl | rfl | rfl | rfl | rfl | rfl | rfl | rfl | rfl | rfl | rfl | rfl | rfl
    · obtain rfl := Option.some.inj (at9_0.symm.trans ho); exact dep9_0 e he
    · obtain rfl := Option.some.inj (at9_1.symm.trans ho); exact dep9_1 e he
    · obtain rfl := Option.some.inj (at9_2.symm.trans ho); exact dep9_2 e he
    · obtain rfl := Option.some.inj (at9_3.symm.trans ho); exact dep9_3 e he
    · obtain rfl := Option.some.inj (at9_4.symm.trans ho); exact dep9_4 e he
    · obtain rfl := Option.some.inj (at9_5.symm.trans ho); exact dep9_5 e he
    · obtain rfl := Option.some.inj (at9_6.symm.trans ho); exact dep9_6 e he
    · obtain rfl := Option.some.inj (at9_7.symm.trans ho); exact dep9_7 e he
    · obtain rfl := Option.some.inj (at9_8.symm.trans ho); exact dep9_8 e he
    · obtain rfl := Option.some.inj (at9_9.symm.trans ho); exact dep9_9 e he
    · obtain rfl := Option.some.inj (at9_10.symm.trans ho); exact dep9_10 e he
    · obtain rfl := Option.some.inj (at9_11.symm.trans ho); exact dep9_11 e he
    · obtain rfl := Option.some.inj (at9_12.symm.trans ho); exact dep9_12 e he
    · obtain rfl := Option.some.inj (at9_13.symm.trans ho); exact dep9_13 e he
    · obtain rfl := Option.some.inj (at9_14.symm.trans ho); exact dep9_14 e he
    · obtain rfl := Option.some.inj (at9_15.symm.trans ho); exact dep9_15 e he
    · obtain rfl := Option.some.inj (at9_16.symm.trans ho); exact dep9_16 e he
    · obtain rfl := Option.some.inj (at9_17.symm.trans ho); exact dep9_17 e he
    · obtain rfl := Option.some.inj (at9_18.symm.trans ho); exact dep9_18 e he
    · obtain rfl := Option.some.inj (at9_19.symm.trans ho); exact dep9_19 e he
  · intro l a w i o h ho hl hd
    have hi : i < 20 := (Array.getElem?_eq_some_iff.1 ho).1
    have hc : i = 0 ∨ i = 1 ∨ i = 2 ∨ i = 3 ∨ i = 4 ∨ i = 5 ∨ i = 6 ∨ i = 7 ∨ i = 8 ∨ i = 9 ∨ i = 10 ∨ i = 11 ∨ i = 12 ∨ i = 13 ∨ i = 14 ∨ i = 15 ∨ i = 16 ∨ i = 17 ∨ i = 18 ∨ i = 19 := by omega
    rcases hc with rfl | rfl | rfl | rfl | rfl | rfl | rfl | rfl | rfl | rfl | rfl | rfl | rfl | rfl | rfl | rfl | rfl | rfl | rfl | rfl
    · exact step9_0 hB h3 h ho hl hd
    · exact step9_1 hB h3 h ho hl hd
    · exact step9_2 hB h3 h ho hl hd
    · exact step9_3 hB h3 h ho hl hd
    · exact step9_4 hB h3 h ho hl hd
    · exact step9_5 hB h3 h ho hl hd
    · exact step9_6 hB h3 h ho hl hd
    · exact step9_7 hB h3 h ho hl hd
    · exact step9_8 hB h3 h ho hl hd
    · exact step9_9 hB h3 h ho hl hd
    · exact step9_10 hB h3 h ho hl hd
    · exact step9_11 hB h3 h ho hl hd
    · exact step9_12 hB h3 h ho hl hd
    · exact step9_13 hB h3 h ho hl hd
    · exact step9_14 hB h3 h ho hl hd
    · exact step9_15 hB h3 h ho hl hd
    · exact step9_16 hB h3 h ho hl hd
    · exact step9_17 hB h3 h ho hl hd
    · exact step9_18 hB h3 h ho hl hd
    · exact step9_19 hB h3 h ho hl hd
  · intro l a w h hall
    obtain ⟨A, G, hA, st⟩ := h.ex
    have hall : ∀ i, i < 20 → l.getD i false = true := hall
    have e : a = fin9 B c A G a0 16 := by
      obtain ⟨f1, f2, f3, f4⟩ := fin9_facts B c A G a0 hz 16 (Nat.le_refl _)
      refine act_ext (Array.ext_getElem? fun t => ?_) (h.df.trans f2.symm)
      by_cases q : ∃ i, i < 16 ∧ t = slot9 i
      · obtain ⟨i, hi, rfl⟩ := q
        rw [hA i hi (hall i (by omega)), f3 i hi]
      · have q : ∀ i, i < 16 → t ≠ slot9 i := fun i hi e => q ⟨i, hi, e⟩
        rw [h.keep t q, f4 t q]
    rw [e]
    refine hend A G w ⟨h.b, fun k hk => ?_⟩
    have h1 := st.al k hk (hall _ (by omega))
    rw [if_pos (hall _ (by omega))] at h1
    exact ⟨h1.1, h1.2, st.ca k hk (hall _ (by omega))⟩
  · intro i hi hl
    exfalso
    have : (Array.replicate ops9.size false).getD i false = false := by
      rw [Array.getD_eq_getD_getElem?, Array.getElem?_replicate]
      split <;> rfl
    rw [this] at hl
    cases hl
  · have hn : ∀ i, ¬ (Array.replicate ops9.size false).getD i false = true := by
      intro i hl
      have : (Array.replicate ops9.size false).getD i false = false := by
        rw [Array.getD_eq_getD_getElem?, Array.getElem?_replicate]
        split <;> rfl
      rw [this] at hl
      cases hl
    exact ⟨fun k _ q => absurd q (hn _), fun k _ q => absurd q (hn _), fun _ _ _ _ _ q => absurd q (hn _), fun _ _ q => absurd q (hn _)⟩
end Go.Proofs.Ytgnkfikihjjpeaa
