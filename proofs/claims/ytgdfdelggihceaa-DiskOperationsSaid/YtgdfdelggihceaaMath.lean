/- Plain mathematics of a disk: whether it is valid, its current data, what a loss of power leaves. -/
namespace Go.Proofs.Ytgdfdelggihceaa

structure Dk where
  size : Int
  secs : List ByteArray
  pend : List (Int × ByteArray)
  left : Int

def cw (D : Dk) (s : Int) (x : ByteArray) : Int := if s < 0 ∨ (D.secs.length : Int) ≤ s then 2 else if (x.size : Int) = D.size then 0 else 11
def chkP (D : Dk) : List (Int × ByteArray) → Int
  | [] => if D.left < -1 then 2 else 0
  | p :: l => if cw D p.1 p.2 = 0 then chkP D l else cw D p.1 p.2
def chkS (D : Dk) : List ByteArray → Int
  | [] => chkP D D.pend
  | x :: l => if (x.size : Int) = D.size then chkS D l else 11
def chk (D : Dk) : Int := if D.size < 1 ∨ 512 < D.size ∨ D.secs.length < 1 ∨ 1000 < D.secs.length then 2 else chkS D D.secs

structure Dk.Ok (D : Dk) : Prop where
  s1 : 1 ≤ D.size
  s2 : D.size ≤ 512
  l1 : 1 ≤ D.secs.length
  l2 : D.secs.length ≤ 1000
  secs : ∀ x ∈ D.secs, (x.size : Int) = D.size
  pend : ∀ p ∈ D.pend, 0 ≤ p.1 ∧ p.1 < D.secs.length ∧ (p.2.size : Int) = D.size
  left : -1 ≤ D.left

theorem cw_zero (D : Dk) (s : Int) (x : ByteArray) : cw D s x = 0 ↔ 0 ≤ s ∧ s < D.secs.length ∧ (x.size : Int) = D.size := by
  unfold cw
  split
  · constructor
    · intro h; cases h
    · intro h; omega
  · split
    · rename_i h1 h2
      constructor
      · intro _; exact ⟨by omega, by omega, h2⟩
      · intro _; rfl
    · constructor
      · intro h; cases h
      · intro h; omega
theorem chkP_zero (D : Dk) (l : List (Int × ByteArray)) : chkP D l = 0 ↔ (∀ p ∈ l, 0 ≤ p.1 ∧ p.1 < D.secs.length ∧ (p.2.size : Int) = D.size) ∧ -1 ≤ D.left := by
  induction l with
  | nil =>
    simp only [chkP]
    split
    · constructor
      · intro h; cases h
      · rintro ⟨_, h⟩; omega
    · exact ⟨fun _ => ⟨by simp, by omega⟩, fun _ => rfl⟩
  | cons p l ih =>
    rw [chkP]
    by_cases h : cw D p.1 p.2 = 0
    · rw [if_pos h, ih]
      have := (cw_zero D p.1 p.2).1 h
      simp only [List.mem_cons, forall_eq_or_imp]
      exact ⟨fun ⟨a, b⟩ => ⟨⟨this, a⟩, b⟩, fun ⟨a, b⟩ => ⟨a.2, b⟩⟩
    · rw [if_neg h]
      constructor
      · intro h2; exact absurd h2 h
      · intro h2; exact absurd ((cw_zero D p.1 p.2).2 (h2.1 p List.mem_cons_self)) h
theorem chkS_zero (D : Dk) (l : List ByteArray) : chkS D l = 0 ↔ (∀ x ∈ l, (x.size : Int) = D.size) ∧ chkP D D.pend = 0 := by
  induction l with
  | nil => simp [chkS]
  | cons x l ih =>
    rw [chkS]
    by_cases h : (x.size : Int) = D.size
    · rw [if_pos h, ih]
      simp only [List.mem_cons, forall_eq_or_imp]
      exact ⟨fun ⟨a, b⟩ => ⟨⟨h, a⟩, b⟩, fun ⟨a, b⟩ => ⟨a.2, b⟩⟩
    · rw [if_neg h]
      constructor
      · intro h2; cases h2
      · intro h2; exact absurd (h2.1 x List.mem_cons_self) h
theorem chk_zero (D : Dk) : chk D = 0 ↔ D.Ok := by
  unfold chk
  split
  · constructor
    · intro h; cases h
    · intro h; have := h.s1; have := h.s2; have := h.l1; have := h.l2; omega
  · rw [chkS_zero, chkP_zero]
    constructor
    · rintro ⟨a, b, c⟩; exact ⟨by omega, by omega, by omega, by omega, a, b, c⟩
    · intro h; exact ⟨h.secs, h.pend, h.left⟩

/-- The current data of a sector: what was written to it last. -/
def curAt (i : Int) (x : ByteArray) : List (Int × ByteArray) → ByteArray := List.foldl (fun y p => if p.1 = i then p.2 else y) x
theorem curAt_snoc (i : Int) (x : ByteArray) (l : List (Int × ByteArray)) (p : Int × ByteArray) : curAt i x (l ++ [p]) = if p.1 = i then p.2 else curAt i x l := by
  simp [curAt]
/-- The first n bytes of new data, and the rest of the old data. -/
def tear (n : Nat) (x y : ByteArray) : ByteArray := x.extract 0 n ++ y.extract n y.size
theorem getD_at (L : List ByteArray) (i : Nat) (h : i < L.length) : L.getD i ByteArray.empty = L[i] := by simp [List.getD, h]
theorem tear_size (n : Nat) (x y : ByteArray) (hx : n ≤ x.size) (hy : x.size = y.size) : (tear n x y).size = x.size := by
  unfold tear; rw [ByteArray.size_append, ByteArray.size_extract, ByteArray.size_extract]; omega
/-- The sectors when the writes from number i on have been processed. -/
def settleL (kept : Nat → Nat) : Nat → List (Int × ByteArray) → List ByteArray → List ByteArray
  | _, [], L => L
  | i, p :: l, L => settleL kept (i + 1) l (L.set p.1.toNat (tear (kept i) p.2 (L.getD p.1.toNat ByteArray.empty)))
theorem settleL_length (kept : Nat → Nat) (l : List (Int × ByteArray)) : ∀ i L, (settleL kept i l L).length = L.length := by
  induction l with
  | nil => intro i L; rfl
  | cons p l ih => intro i L; rw [settleL, ih, List.length_set]
theorem settleL_size (kept : Nat → Nat) (z : Nat) (hk : ∀ i, kept i ≤ z) (l : List (Int × ByteArray)) : ∀ i L, (∀ x ∈ L, x.size = z) → (∀ p ∈ l, p.1.toNat < L.length ∧ p.2.size = z) → ∀ x ∈ settleL kept i l L, x.size = z := by
  induction l with
  | nil => intro i L h _; exact h
  | cons p l ih =>
    intro i L h hp
    rw [settleL]
    obtain ⟨h1, h2⟩ := hp p List.mem_cons_self
    refine ih _ _ ?_ fun q hq => by rw [List.length_set]; exact hp q (List.mem_cons_of_mem _ hq)
    intro x hx
    rcases List.mem_or_eq_of_mem_set hx with hx | rfl
    · exact h x hx
    · rw [getD_at _ _ h1, tear_size _ _ _ (by rw [h2]; exact hk i) (by rw [h2, h _ (List.getElem_mem h1)]), h2]
theorem tear_all (x y : ByteArray) (h : x.size = y.size) : tear x.size x y = x := by
  unfold tear
  apply ByteArray.ext
  rw [h]
  simp [ByteArray.data_extract]
  omega
theorem tear_none (x y : ByteArray) : tear 0 x y = y := by
  unfold tear
  apply ByteArray.ext
  simp
/-- When all bytes are kept, each sector has its current data. -/
theorem settle_all (z : Nat) (l : List (Int × ByteArray)) : ∀ i L, (∀ x ∈ L, x.size = z) → (∀ p ∈ l, 0 ≤ p.1 ∧ p.1.toNat < L.length ∧ p.2.size = z) →
    ∀ (j : Nat) (h : j < L.length), (settleL (fun _ => z) i l L)[j]'(by rw [settleL_length]; exact h) = curAt j L[j] l := by
  induction l with
  | nil => intro i L _ _ j h; rfl
  | cons p l ih =>
    intro i L hL hp j h
    obtain ⟨h0, h1, h2⟩ := hp p List.mem_cons_self
    have e : tear z p.2 (L.getD p.1.toNat ByteArray.empty) = p.2 := by
      rw [getD_at _ _ h1, ← h2]; exact tear_all _ _ (by rw [h2, hL _ (List.getElem_mem h1)])
    simp only [settleL, e]
    rw [ih (i + 1) (L.set p.1.toNat p.2) ?_ ?_ j (by rw [List.length_set]; exact h)]
    · show curAt _ _ l = curAt _ (if p.1 = _ then p.2 else L[j]) l
      rw [List.getElem_set]
      by_cases hj : p.1.toNat = j
      · rw [if_pos hj, if_pos (by omega)]
      · rw [if_neg hj, if_neg (by omega)]
    · intro x hx
      rcases List.mem_or_eq_of_mem_set hx with hx | rfl
      · exact hL x hx
      · exact h2
    · intro q hq; rw [List.length_set]; exact hp q (List.mem_cons_of_mem _ hq)
/-- A sector to which nothing is written stays as it was. -/
theorem settle_other (kept : Nat → Nat) (l : List (Int × ByteArray)) : ∀ i L (j : Nat) (h : j < L.length), (∀ p ∈ l, p.1.toNat ≠ j) → (settleL kept i l L)[j]'(by rw [settleL_length]; exact h) = L[j] := by
  induction l with
  | nil => intro i L j h _; rfl
  | cons p l ih =>
    intro i L j h hp
    simp only [settleL]
    rw [ih _ _ j (by rw [List.length_set]; exact h) fun q hq => hp q (List.mem_cons_of_mem _ hq)]
    rw [List.getElem_set, if_neg (hp p List.mem_cons_self)]
theorem settle_none (l : List (Int × ByteArray)) : ∀ i (L : List ByteArray), (∀ p ∈ l, p.1.toNat < L.length) → settleL (fun _ => 0) i l L = L := by
  induction l with
  | nil => intro i L _; rfl
  | cons p l ih =>
    intro i L hp
    have h1 := hp p List.mem_cons_self
    simp only [settleL]
    rw [tear_none, getD_at _ _ h1, List.set_getElem_self, ih _ _ fun q hq => hp q (List.mem_cons_of_mem _ hq)]
theorem settle_congr (k1 k2 : Nat → Nat) (l : List (Int × ByteArray)) : ∀ i L, (∀ j, i ≤ j → j < i + l.length → k1 j = k2 j) → settleL k1 i l L = settleL k2 i l L := by
  induction l with
  | nil => intro i L _; rfl
  | cons p l ih =>
    intro i L h
    simp only [settleL]
    rw [h i (Nat.le_refl _) (by simp), ih (i + 1) _ fun j h1 h2 => h j (by omega) (by simp at h2 ⊢; omega)]
end Go.Proofs.Ytgdfdelggihceaa
