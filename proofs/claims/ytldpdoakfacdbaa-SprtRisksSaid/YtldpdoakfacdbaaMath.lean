/- Plain mathematics of numbers in a base: their digits, a product by a small number, a comparison from the top. -/
namespace Go.Proofs.Ytldpdoakfacdbaa

/-- The digits of a number in a base, the least one first; none for 0. -/
def digs (B : Nat) (m : Nat) : List Nat :=
  if _h : m = 0 ∨ B < 2 then [] else m % B :: digs B (m / B)
termination_by m
decreasing_by
  exact Nat.div_lt_self (by omega) (by omega)

theorem digs_zero (B : Nat) : digs B 0 = [] := by unfold digs; simp
theorem digs_pos (B m : Nat) (hB : 2 ≤ B) (hm : 0 < m) : digs B m = m % B :: digs B (m / B) := by
  rw [digs, dif_neg (by omega)]
theorem digs_lt (B m : Nat) (hB : 2 ≤ B) : ∀ d ∈ digs B m, d < B := by
  induction m using Nat.strongRecOn with
  | _ m ih =>
    by_cases hm : m = 0
    · subst hm; simp [digs_zero]
    · rw [digs_pos B m hB (by omega)]
      intro d hd
      rcases List.mem_cons.1 hd with rfl | hd
      · exact Nat.mod_lt _ (by omega)
      · exact ih _ (Nat.div_lt_self (by omega) (by omega)) d hd

def val (B : Nat) : List Nat → Nat
  | [] => 0
  | d :: l => d + B * val B l

theorem val_digs (B m : Nat) (hB : 2 ≤ B) : val B (digs B m) = m := by
  induction m using Nat.strongRecOn with
  | _ m ih =>
    by_cases hm : m = 0
    · subst hm; simp [digs_zero, val]
    · rw [digs_pos B m hB (by omega), val, ih _ (Nat.div_lt_self (by omega) (by omega))]
      exact Nat.mod_add_div m B

theorem digs_len_lt (B m : Nat) (hB : 2 ≤ B) : m < B ^ (digs B m).length := by
  induction m using Nat.strongRecOn with
  | _ m ih =>
    by_cases hm : m = 0
    · subst hm; simp [digs_zero]
    · rw [digs_pos B m hB (by omega), List.length_cons, Nat.pow_succ]
      have := ih _ (Nat.div_lt_self (show 0 < m by omega) (show 1 < B by omega))
      exact (Nat.div_lt_iff_lt_mul (by omega)).1 this

theorem digs_len_le (B m k : Nat) (hB : 2 ≤ B) (h : m < B ^ k) : (digs B m).length ≤ k := by
  induction k generalizing m with
  | zero => 
    have : m = 0 := by simpa using h
    subst this; simp [digs_zero]
  | succ k ih =>
    by_cases hm : m = 0
    · subst hm; simp [digs_zero]
    · rw [digs_pos B m hB (by omega), List.length_cons]
      have := ih (m / B) (by rw [Nat.div_lt_iff_lt_mul (by omega)]; rwa [Nat.pow_succ] at h)
      omega

/-- Lengths decide. -/
theorem lt_of_len (B a b : Nat) (hB : 2 ≤ B) (h : (digs B a).length < (digs B b).length) : a < b := by
  rcases Nat.lt_or_ge a b with h' | h'
  · exact h'
  · exfalso
    have h1 := digs_len_lt B a hB
    have h2 := digs_len_le B b _ hB (Nat.lt_of_le_of_lt h' h1)
    omega

theorem val_append (B : Nat) (x y : List Nat) : val B (x ++ y) = val B x + B ^ x.length * val B y := by
  induction x with
  | nil => simp [val]
  | cons d x ih => simp only [List.cons_append, val, ih, List.length_cons, Nat.pow_succ]; rw [Nat.mul_add, Nat.mul_comm (B ^ x.length) B, Nat.mul_assoc]; omega
theorem val_lt (B : Nat) (x : List Nat) (h : ∀ d ∈ x, d < B) : val B x < B ^ x.length := by
  induction x with
  | nil => simp [val]
  | cons d x ih =>
    have h1 := ih fun e he => h e (by simp [he])
    have h2 := h d (by simp)
    simp only [val, List.length_cons, Nat.pow_succ]
    have h3 : B * val B x + B ≤ B * B ^ x.length := by rw [← Nat.mul_succ]; exact Nat.mul_le_mul_left _ h1
    rw [Nat.mul_comm (B ^ x.length) B]; omega

/-- Of two lists of digits of one length, the top-most digit that differs decides. -/
theorem val_lt_of_top (B : Nat) (x y : List Nat) (k : Nat) (hx : ∀ d ∈ x, d < B) (hk : k < x.length) (hk' : k < y.length)
    (ht : x.drop (k + 1) = y.drop (k + 1)) (hd : x[k] < y[k]) : val B x < val B y := by
  have ex : x = x.take k ++ x[k] :: x.drop (k + 1) := by rw [List.getElem_cons_drop, List.take_append_drop]
  have ey : y = y.take k ++ y[k] :: y.drop (k + 1) := by rw [List.getElem_cons_drop, List.take_append_drop]
  rw [ex, ey, val_append, val_append, ← ht]
  have lx : (x.take k).length = k := by simp; omega
  have ly : (y.take k).length = k := by simp; omega
  rw [lx, ly]
  simp only [val]
  have h1 := val_lt B (x.take k) (fun d hd => hx d (List.mem_of_mem_take hd))
  rw [lx] at h1
  have h2 : B ^ k * (x[k] + B * val B (x.drop (k + 1))) + B ^ k ≤ B ^ k * (y[k] + B * val B (x.drop (k + 1))) := by
    rw [← Nat.mul_succ]; exact Nat.mul_le_mul_left _ (by omega)
  omega

/-- A product of a list of digits by a number, with what is carried in. -/
def mulC (B n : Nat) : List Nat → Nat → List Nat
  | [], c => if c = 0 then [] else [c]
  | d :: l, c => (d * n + c) % B :: mulC B n l ((d * n + c) / B)
theorem digs_one (B c : Nat) (hB : 2 ≤ B) (hc : c < B) : digs B c = if c = 0 then [] else [c] := by
  by_cases h : c = 0
  · subst h; simp [digs_zero]
  · rw [digs_pos B c hB (by omega), if_neg h, Nat.mod_eq_of_lt hc, Nat.div_eq_of_lt hc, digs_zero]
theorem mulC_digs (B n m c : Nat) (hB : 2 ≤ B) (hn : 1 ≤ n) (hn' : n < B) (hc : c < n) : mulC B n (digs B m) c = digs B (m * n + c) := by
  induction m using Nat.strongRecOn generalizing c with
  | _ m ih =>
    by_cases hm : m = 0
    · subst hm; rw [digs_zero, mulC, Nat.zero_mul, Nat.zero_add, digs_one B c hB (by omega)]
    · have hp : 0 < m * n := Nat.mul_pos (by omega) hn
      rw [digs_pos B m hB (by omega), mulC, digs_pos B (m * n + c) hB (by omega)]
      have e : m * n + c = B * (m / B * n) + (m % B * n + c) := by
        have := Nat.mod_add_div m B
        calc m * n + c = (m % B + B * (m / B)) * n + c := by rw [this]
          _ = _ := by rw [Nat.add_mul, Nat.mul_assoc]; omega
      have hc' : (m % B * n + c) / B < n := by
        rw [Nat.div_lt_iff_lt_mul (by omega)]
        have : m % B + 1 ≤ B := Nat.mod_lt _ (by omega)
        have := Nat.mul_le_mul_right n this
        rw [Nat.add_mul] at this
        rw [Nat.mul_comm n B]; omega
      rw [ih _ (Nat.div_lt_self (by omega) (by omega)) _ hc', e, Nat.mul_add_mod, Nat.mul_add_div (by omega)]

/-- One of three: less, equal, greater. -/
def cmp3 (a b : Nat) : Int := if a < b then -1 else if a = b then 0 else 1
end Go.Proofs.Ytldpdoakfacdbaa
