/- Plain mathematics of numbers in base 128: their bytes, and what is read from bytes. -/
namespace Go.Proofs.Ytiaahjoldahlnaa.Cd

/-- The bytes of a number. -/
def enc7 (n : Nat) : List Nat := if n < 128 then [n] else (n % 128 + 128) :: enc7 (n / 128)
termination_by n
decreasing_by exact Nat.div_lt_self (by omega) (by omega)

theorem enc7_small (n : Nat) (h : n < 128) : enc7 n = [n] := by rw [enc7, if_pos h]
theorem enc7_big (n : Nat) (h : 128 ≤ n) : enc7 n = (n % 128 + 128) :: enc7 (n / 128) := by rw [enc7, if_neg (by omega)]
theorem enc7_pos (n : Nat) : 0 < (enc7 n).length := by rw [enc7]; split <;> simp
theorem enc7_byte (n : Nat) : ∀ d ∈ enc7 n, d < 256 := by
  induction n using Nat.strongRecOn with
  | _ n ih =>
    by_cases h : n < 128
    · rw [enc7_small n h]; intro d hd; simp at hd; omega
    · rw [enc7_big n (by omega)]
      intro d hd
      rcases List.mem_cons.1 hd with rfl | hd
      · omega
      · exact ih _ (Nat.div_lt_self (by omega) (by omega)) d hd
/-- A number with k bytes at most is less than 128 ^ k. -/
theorem enc7_len (n k : Nat) (hk : 1 ≤ k) : (enc7 n).length ≤ k ↔ n < 128 ^ k := by
  induction k generalizing n with
  | zero => omega
  | succ k ih =>
    by_cases h : n < 128
    · rw [enc7_small n h]
      have : 128 ^ 1 ≤ 128 ^ (k + 1) := Nat.pow_le_pow_right (by decide) (by omega)
      simp; omega
    · rw [enc7_big n (by omega), List.length_cons, Nat.pow_succ]
      by_cases hk0 : k = 0
      · subst hk0
        have := enc7_pos (n / 128)
        rw [Nat.pow_zero, Nat.one_mul]
        omega
      · have := ih (n / 128) (by omega)
        rw [Nat.div_lt_iff_lt_mul (by decide)] at this
        omega
theorem enc7_mono (n m : Nat) (h : n ≤ m) : (enc7 n).length ≤ (enc7 m).length :=
  (enc7_len n _ (enc7_pos m)).2 (Nat.lt_of_le_of_lt h ((enc7_len m _ (enc7_pos m)).1 (Nat.le_refl _)))

/-- What GetInt reads: the number, its number of bytes, and why not (0: it can be read; 7: there are too few bytes; 8: it isn't an encoding). -/
def getL (sh de : Int) : Nat → Nat → Nat → List Nat → Nat × Nat × Int
  | 0, _, _, _ => (0, 0, de)
  | _ + 1, _, _, [] => (0, 0, sh)
  | f + 1, i, a, d :: l => if d < 128 then (if 1099511627776 < a + d % 128 * 128 ^ i ∨ (0 < i ∧ d = 0) then (0, 0, de) else (a + d % 128 * 128 ^ i, i + 1, 0)) else getL sh de f (i + 1) (a + d % 128 * 128 ^ i) l

/-- With a last digit of d at place i, a number has i + 1 bytes exactly if d is not 0, or i is. -/
theorem enc7_size (a d i : Nat) (ha : a < 128 ^ i) (hd : d < 128) : (enc7 (a + d * 128 ^ i)).length = i + 1 ↔ ¬ (0 < i ∧ d = 0) := by
  have hpow : 0 < 128 ^ i := Nat.pow_pos (by decide)
  have hup : a + d * 128 ^ i < 128 ^ (i + 1) := by
    have : (d + 1) * 128 ^ i ≤ 128 * 128 ^ i := Nat.mul_le_mul_right _ (by omega)
    rw [Nat.pow_succ, Nat.mul_comm (128 ^ i) 128]
    rw [Nat.add_mul, Nat.one_mul] at this
    omega
  have h1 := (enc7_len (a + d * 128 ^ i) (i + 1) (by omega)).2 hup
  by_cases hi : i = 0
  · subst hi
    have := enc7_pos (a + d * 128 ^ 0)
    omega
  · have h2 := enc7_len (a + d * 128 ^ i) i (by omega)
    by_cases h0 : d = 0
    · subst h0
      have := h2.2 (by omega)
      omega
    · have : 128 ^ i ≤ d * 128 ^ i := Nat.le_mul_of_pos_left _ (by omega)
      have : ¬ (enc7 (a + d * 128 ^ i)).length ≤ i := fun h => by have := h2.1 h; omega
      omega

/-- Reading an encoding, with anything behind it, from a place on. -/
theorem getL_enc (sh de : Int) (n i a : Nat) (l : List Nat) (f : Nat) (hf : (enc7 n).length ≤ f) (hn : 0 < i → 0 < n) (hmax : a + n * 128 ^ i ≤ 1099511627776) :
    getL sh de f i a (enc7 n ++ l) = (a + n * 128 ^ i, i + (enc7 n).length, 0) := by
  induction n using Nat.strongRecOn generalizing i a f with
  | _ n ih =>
    by_cases h : n < 128
    · rw [enc7_small n h] at hf ⊢
      obtain ⟨f, rfl⟩ : ∃ f', f = f' + 1 := ⟨f - 1, by simp at hf; omega⟩
      rw [List.singleton_append, getL, if_pos h, Nat.mod_eq_of_lt h, if_neg (by omega)]
      rfl
    · rw [enc7_big n (by omega)] at hf ⊢
      obtain ⟨f, rfl⟩ : ∃ f', f = f' + 1 := ⟨f - 1, by simp at hf; omega⟩
      have e1 : (n % 128 + 128) % 128 = n % 128 := by omega
      have e2 : a + n % 128 * 128 ^ i + n / 128 * 128 ^ (i + 1) = a + n * 128 ^ i := by
        have := Nat.mod_add_div n 128
        calc _ = a + (n % 128 + 128 * (n / 128)) * 128 ^ i := by rw [Nat.pow_succ, Nat.add_mul]; ac_rfl
          _ = _ := by rw [this]
      rw [List.cons_append, getL, if_neg (by omega), e1, ih (n / 128) (Nat.div_lt_self (by omega) (by omega)) (i + 1) _ f (by simpa using hf) (by omega) (by rw [e2]; exact hmax), e2]
      simp; omega
/-- A proper beginning of an encoding is too short. -/
theorem getL_short (sh de : Int) (n k i a : Nat) (f : Nat) (hf : (enc7 n).length ≤ f) (hk : k < (enc7 n).length) :
    getL sh de f i a ((enc7 n).take k) = (0, 0, sh) := by
  induction n using Nat.strongRecOn generalizing i a f k with
  | _ n ih =>
    obtain ⟨f, rfl⟩ : ∃ f', f = f' + 1 := ⟨f - 1, by have := enc7_pos n; omega⟩
    cases k with
    | zero => rw [List.take_zero, getL]
    | succ k =>
      by_cases h : n < 128
      · rw [enc7_small n h] at hk; simp at hk
      · rw [enc7_big n (by omega)] at hf hk ⊢
        rw [List.take_succ_cons, getL, if_neg (by omega)]
        exact ih (n / 128) (Nat.div_lt_self (by omega) (by omega)) k _ _ f (by simpa using hf) (by simpa using hk)
/-- What can be read has the encoding that was read. -/
theorem getL_canon (sh de : Int) (hsh : sh ≠ 0) (hde : de ≠ 0) : ∀ (f i a : Nat) (l : List Nat) (n k : Nat), (∀ d ∈ l, d < 256) → a < 128 ^ i → getL sh de f i a l = (n, k, 0) →
    ∃ m, i + (enc7 m).length = k ∧ n = a + m * 128 ^ i ∧ (0 < i → 0 < m) ∧ n ≤ 1099511627776 ∧ enc7 m <+: l := by
  intro f
  induction f with
  | zero => intro i a l n k _ _ h; simp [getL] at h; exact absurd h.2.2 hde
  | succ f ih =>
    intro i a l n k hb ha h
    cases l with
    | nil => simp [getL] at h; exact absurd h.2.2 hsh
    | cons d l =>
      rw [getL] at h
      by_cases hd : d < 128
      · rw [if_pos hd, Nat.mod_eq_of_lt hd] at h
        by_cases hc : 1099511627776 < a + d * 128 ^ i ∨ (0 < i ∧ d = 0)
        · rw [if_pos hc] at h; simp at h; exact absurd h.2.2 hde
        · rw [if_neg hc] at h
          simp only [Prod.mk.injEq] at h
          exact ⟨d, by rw [enc7_small d hd]; simp; omega, h.1.symm, by omega, by omega, by rw [enc7_small d hd]; exact ⟨l, rfl⟩⟩
      · rw [if_neg hd] at h
        have ha' : a + d % 128 * 128 ^ i < 128 ^ (i + 1) := by
          have : (d % 128 + 1) * 128 ^ i ≤ 128 * 128 ^ i := Nat.mul_le_mul_right _ (by omega)
          rw [Nat.pow_succ, Nat.mul_comm (128 ^ i) 128]
          rw [Nat.add_mul, Nat.one_mul] at this
          omega
        obtain ⟨m, e1, e2, e3, e4, r, e5⟩ := ih (i + 1) _ l n k (fun x hx => hb x (by simp [hx])) ha' h
        have hb0 := hb d (by simp)
        have hm := e3 (by omega)
        have hdm : (d % 128 + 128 * m) / 128 = m := by omega
        have hdm2 : (d % 128 + 128 * m) % 128 = d % 128 := by omega
        refine ⟨d % 128 + 128 * m, ?_, ?_, by omega, e4, r, ?_⟩
        · rw [enc7_big _ (by omega), hdm]; simp; omega
        · rw [e2, Nat.pow_succ, Nat.add_mul]; ac_rfl
        · rw [enc7_big _ (by omega), hdm, hdm2, ← e5]
          simp; omega
end Go.Proofs.Ytiaahjoldahlnaa.Cd
