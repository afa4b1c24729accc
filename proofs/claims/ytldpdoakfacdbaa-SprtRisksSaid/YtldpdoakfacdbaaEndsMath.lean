/- Plain mathematics of the ends of a test: the rows, what comes out, and that the counts make 2 ^ n together. -/
import Derived.Test.YtldpdoakfacdbaaDec
namespace Go.Proofs.Ytldpdoakfacdbaa

/-- f 0 + .. + f (m - 1). -/
def sumTo (f : Nat → Nat) : Nat → Nat
  | 0 => 0
  | m + 1 => sumTo f m + f m
theorem sumTo_congr {f g : Nat → Nat} (m : Nat) (h : ∀ i, i < m → f i = g i) : sumTo f m = sumTo g m := by
  induction m with
  | zero => rfl
  | succ m ih => simp only [sumTo]; rw [ih fun i hi => h i (by omega), h m (by omega)]
theorem sumTo_add (f g : Nat → Nat) (m : Nat) : sumTo (fun i => f i + g i) m = sumTo f m + sumTo g m := by
  induction m with
  | zero => rfl
  | succ m ih => simp only [sumTo, ih]; omega
theorem sumTo_zero (m : Nat) : sumTo (fun _ => 0) m = 0 := by
  induction m with
  | zero => rfl
  | succ m ih => simp only [sumTo, ih]
theorem sumTo_one (a x : Nat) : ∀ m, sumTo (fun i => if i = a then x else 0) m = if a < m then x else 0
  | 0 => by simp [sumTo]
  | m + 1 => by
    simp only [sumTo, sumTo_one a x m]
    by_cases h : a < m
    · rw [if_pos h, if_neg (by omega), if_pos (by omega)]; omega
    · by_cases h2 : m = a
      · subst h2; simp
      · rw [if_neg h, if_neg h2, if_neg (by omega)]
theorem le_sumTo (f : Nat → Nat) (m i : Nat) (h : i < m) : f i ≤ sumTo f m := by
  induction m with
  | zero => omega
  | succ m ih =>
    simp only [sumTo]
    rcases Nat.lt_or_ge i m with h2 | h2
    · have := ih h2; omega
    · obtain rfl : i = m := by omega
      omega

/-- An end: passes, fails, decision, count. -/
structure EndR where
  p : Nat
  f : Nat
  d : Int
  c : Nat

section
variable (dec : Nat → Nat → Int) (n : Nat)
/-- What goes on at q after k outcomes. -/
def keepE (k : Nat) (row : Nat → Nat) (q : Nat) : Nat := if dec q (k - q) ≠ 0 ∨ k = n then 0 else row q
/-- What ends there. -/
def dropE (k : Nat) (row : Nat → Nat) (q : Nat) : Nat := if dec q (k - q) ≠ 0 ∨ k = n then row q else 0
theorem keep_drop (k : Nat) (row : Nat → Nat) (q : Nat) : keepE dec n k row q + dropE dec n k row q = row q := by
  unfold keepE dropE; split <;> simp
/-- The next row when the places below p have been done. -/
def nextE (k : Nat) (row : Nat → Nat) (p j : Nat) : Nat := (if j < p then keepE dec n k row j else 0) + (if 1 ≤ j ∧ j ≤ p then keepE dec n k row (j - 1) else 0)
theorem nextE_zero (k : Nat) (row : Nat → Nat) (j : Nat) : nextE dec n k row 0 j = 0 := by
  unfold nextE; rw [if_neg (by omega), if_neg (by omega)]
theorem nextE_succ (k : Nat) (row : Nat → Nat) (p j : Nat) :
    nextE dec n k row (p + 1) j = nextE dec n k row p j + (if j = p then keepE dec n k row p else 0) + (if j = p + 1 then keepE dec n k row p else 0) := by
  unfold nextE
  by_cases h1 : j < p
  · rw [if_pos (by omega : j < p + 1), if_pos h1, if_neg (by omega : ¬ j = p), if_neg (by omega : ¬ j = p + 1)]
    by_cases h2 : 1 ≤ j
    · rw [if_pos (by omega), if_pos (by omega)]; omega
    · rw [if_neg (by omega), if_neg (by omega)]
  · by_cases h2 : j = p
    · subst h2
      rw [if_pos (by omega : j < j + 1), if_neg h1, if_pos rfl, if_neg (by omega : ¬ j = j + 1)]
      by_cases h3 : 1 ≤ j
      · rw [if_pos (by omega), if_pos (by omega)]; omega
      · rw [if_neg (by omega), if_neg (by omega)]; omega
    · rw [if_neg (by omega : ¬ j < p + 1), if_neg h1, if_neg h2, if_neg (by omega : ¬ (1 ≤ j ∧ j ≤ p))]
      by_cases h3 : j = p + 1
      · subst h3; rw [if_pos (by omega), if_pos rfl]; simp
      · rw [if_neg (by omega), if_neg h3]
theorem nextE_skip (k : Nat) (row : Nat → Nat) (p j : Nat) (h : keepE dec n k row p = 0) : nextE dec n k row (p + 1) j = nextE dec n k row p j := by
  rw [nextE_succ, h]; simp
theorem nextE_sum (k : Nat) (row : Nat → Nat) (m : Nat) : ∀ p, p < m → sumTo (nextE dec n k row p) m = 2 * sumTo (keepE dec n k row) p
  | 0, _ => by rw [sumTo_congr m fun i _ => nextE_zero dec n k row i, sumTo_zero]; rfl
  | p + 1, h => by
    rw [sumTo_congr m fun i _ => nextE_succ dec n k row p i, sumTo_add, sumTo_add, nextE_sum k row m p (by omega), sumTo_one, sumTo_one, if_pos (by omega), if_pos h]
    simp only [sumTo]; omega
/-- What comes out of the places below p. -/
def outE (k : Nat) (row : Nat → Nat) : Nat → List EndR
  | 0 => []
  | q + 1 => outE k row q ++ (if row q = 0 then [] else if dec q (k - q) ≠ 0 ∨ k = n then [⟨q, k - q, dec q (k - q), row q⟩] else [])
/-- The rows. -/
def rowE : Nat → Nat → Nat
  | 0 => fun j => if j = 0 then 1 else 0
  | k + 1 => nextE dec n k (rowE k) (k + 1)
/-- What comes out before k. -/
def outsE : Nat → List EndR
  | 0 => []
  | k + 1 => outsE k ++ outE dec n k (rowE dec n k) (k + 1)
theorem rowE_sum (k : Nat) : sumTo (rowE dec n k) (k + 1) ≤ 2 ^ k := by
  induction k with
  | zero => simp [sumTo, rowE]
  | succ k ih =>
    rw [rowE, nextE_sum _ _ _ _ _ _ (by omega), Nat.pow_succ]
    have : sumTo (keepE dec n k (rowE dec n k)) (k + 1) + sumTo (dropE dec n k (rowE dec n k)) (k + 1) = sumTo (rowE dec n k) (k + 1) := by
      rw [← sumTo_add]; exact sumTo_congr _ fun i _ => keep_drop dec n k _ i
    omega
theorem rowE_out (k j : Nat) (h : k < j) : rowE dec n k j = 0 := by
  cases k with
  | zero => simp [rowE]; omega
  | succ k => rw [rowE]; unfold nextE; rw [if_neg (by omega), if_neg (by omega)]
theorem rowE_le (k j : Nat) : rowE dec n k j ≤ 2 ^ k := by
  rcases Nat.lt_or_ge k j with h | h
  · rw [rowE_out dec n k j h]; exact Nat.zero_le _
  · exact Nat.le_trans (le_sumTo _ _ _ (by omega)) (rowE_sum dec n k)
theorem nextE_le (k p j : Nat) : nextE dec n k (rowE dec n k) p j ≤ 2 ^ (k + 1) := by
  have h1 := rowE_le dec n k j
  have h2 := rowE_le dec n k (j - 1)
  have h3 : ∀ i, keepE dec n k (rowE dec n k) i ≤ rowE dec n k i := fun i => by have := keep_drop dec n k (rowE dec n k) i; omega
  have h4 := h3 j
  have h5 := h3 (j - 1)
  rw [Nat.pow_succ]
  unfold nextE
  split <;> split <;> omega
/-- The weight of a list of ends. -/
def weighE (m : Nat) (l : List EndR) : Nat := (l.map fun e => e.c * 2 ^ (m - e.p - e.f)).sum
theorem weighE_append (m : Nat) (l r : List EndR) : weighE m (l ++ r) = weighE m l + weighE m r := by simp [weighE]
theorem outE_weigh (m k : Nat) (row : Nat → Nat) (p : Nat) (hp : p ≤ k + 1) : weighE m (outE dec n k row p) = sumTo (dropE dec n k row) p * 2 ^ (m - k) := by
  induction p with
  | zero => simp [outE, weighE, sumTo]
  | succ p ih =>
    rw [outE, weighE_append, ih (by omega), sumTo, Nat.add_mul]
    congr 1
    have e : m - p - (k - p) = m - k := by omega
    unfold dropE
    by_cases h0 : row p = 0
    · rw [if_pos h0, h0]; simp [weighE]
    · rw [if_neg h0]
      split
      · simp [weighE, e]
      · simp [weighE]
theorem outs_inv (k : Nat) (h : k ≤ n) : weighE n (outsE dec n k) + sumTo (rowE dec n k) (k + 1) * 2 ^ (n - k) = 2 ^ n := by
  induction k with
  | zero => simp [outsE, weighE, sumTo, rowE]
  | succ k ih =>
    have e : 2 ^ (n - k) = 2 * 2 ^ (n - (k + 1)) := by rw [show n - k = n - (k + 1) + 1 by omega, Nat.pow_succ]; omega
    have s : sumTo (keepE dec n k (rowE dec n k)) (k + 1) + sumTo (dropE dec n k (rowE dec n k)) (k + 1) = sumTo (rowE dec n k) (k + 1) := by
      rw [← sumTo_add]; exact sumTo_congr _ fun i _ => keep_drop dec n k _ i
    have i := ih (by omega)
    rw [outsE, weighE_append, outE_weigh _ _ _ _ _ _ (by omega), rowE, nextE_sum _ _ _ _ _ _ (by omega)]
    rw [← s, Nat.add_mul] at i
    rw [e] at i ⊢
    have m1 : 2 * sumTo (keepE dec n k (rowE dec n k)) (k + 1) * 2 ^ (n - (k + 1)) = sumTo (keepE dec n k (rowE dec n k)) (k + 1) * (2 * 2 ^ (n - (k + 1))) := by
      rw [Nat.mul_comm 2, Nat.mul_assoc]
    omega
/-- The counts, each times its continuations, make 2 ^ n. -/
theorem outs_all : weighE n (outsE dec n (n + 1)) = 2 ^ n := by
  have h := outs_inv dec n n (Nat.le_refl _)
  have d : sumTo (dropE dec n n (rowE dec n n)) (n + 1) = sumTo (rowE dec n n) (n + 1) := sumTo_congr _ fun i _ => by simp [dropE]
  rw [outsE, weighE_append, outE_weigh _ _ _ _ _ _ (Nat.le_refl _), d]
  exact h
/-- What each end is. -/
theorem outE_mem (k : Nat) (p : Nat) (hp : p ≤ k + 1) : ∀ e ∈ outE dec n k (rowE dec n k) p, e.p + e.f = k ∧ e.d = dec e.p e.f ∧ 1 ≤ e.c ∧ e.c ≤ 2 ^ k ∧ (e.d ≠ 0 ∨ k = n) := by
  induction p with
  | zero => simp [outE]
  | succ p ih =>
    intro e he
    rw [outE] at he
    rcases List.mem_append.1 he with h | h
    · exact ih (by omega) e h
    · by_cases h0 : rowE dec n k p = 0
      · rw [if_pos h0] at h; simp at h
      · rw [if_neg h0] at h
        split at h
        · rename_i hd
          obtain rfl := List.mem_singleton.1 h
          exact ⟨by show p + (k - p) = k; omega, rfl, by show 1 ≤ rowE dec n k p; omega, rowE_le dec n k p, hd⟩
        · simp at h
theorem outsE_mem (k : Nat) : ∀ e ∈ outsE dec n k, e.p + e.f < k ∧ e.d = dec e.p e.f ∧ 1 ≤ e.c ∧ e.c ≤ 2 ^ (e.p + e.f) ∧ (e.d ≠ 0 ∨ e.p + e.f = n) := by
  induction k with
  | zero => simp [outsE]
  | succ k ih =>
    intro e he
    rw [outsE] at he
    rcases List.mem_append.1 he with h | h
    · have := ih e h; exact ⟨by omega, this.2⟩
    · obtain ⟨a, b, c, d, f⟩ := outE_mem dec n k (k + 1) (Nat.le_refl _) e h
      exact ⟨by omega, b, c, by rw [a]; exact d, by rw [a]; exact f⟩
end
end Go.Proofs.Ytldpdoakfacdbaa
