/- sprt's power of a long number, and the comparison of two numbers, at this translation. -/
import Derived.Test.YtldpdoakfacdbaaTimes
namespace Go.Proofs.Ytldpdoakfacdbaa
open Go.RowKit

theorem digs_len_mul (B m n : Nat) (hB : 2 ≤ B) (hn : n ≤ B) : (digs B (m * n)).length ≤ (digs B m).length + 1 := by
  by_cases hm : m = 0
  · subst hm; simp [digs_zero]
  · refine digs_len_le B _ _ hB ?_
    rw [Nat.pow_succ]
    have h := digs_len_lt B m hB
    by_cases hn0 : n = 0
    · subst hn0; rw [Nat.mul_zero]; exact Nat.mul_pos (Nat.pow_pos (by omega)) (by omega)
    · exact Nat.mul_lt_mul_of_lt_of_le h hn (by omega)
theorem digs_len_pow (B m n k : Nat) (hB : 2 ≤ B) (hn : n ≤ B) : (digs B (m * n ^ k)).length ≤ (digs B m).length + k := by
  induction k with
  | zero => simp
  | succ k ih =>
    have := digs_len_mul B (m * n ^ k) n hB hn
    rw [Nat.pow_succ, ← Nat.mul_assoc]
    omega

set_option maxHeartbeats 1000000 in
theorem power_any (m n k : Nat) (v : Value) (w : World) (hm : 1 ≤ m) (hn : 1 ≤ n) (hn' : n ≤ 400) (hk : k ≤ 500) (hl : (digs B9 m).length ≤ 500) (hv : IsLong w v (digs B9 m)) :
    Calls Try.prog 29 #[v, .int .i64 n, .int .i64 k] w fun e w' => ∃ v', e = .returned v' ∧ IsLong w' v' (digs B9 (m * n ^ k)) ∧ Below w.heap.size w w' := by
  have HV := Lib.hid hv
  clear hv
  go_enter Try.func29, Try.ntmps29
  go_wp2
  go_loopw [0, 8] (fun s i wr => ∃ (j : Nat) (v' : Value), j ≤ k ∧ s = v' ∧ i = .int .i64 j ∧ IsLong wr v' (digs B9 (m * n ^ j)) ∧ Below w.heap.size w wr) (fun _ i _ => k - (intOf i).toNat)
  case atStart => exact ⟨0, v, Nat.zero_le _, rfl, rfl, by rw [Nat.pow_zero, Nat.mul_one]; exact HV.out, Below.refl _ _⟩
  case round =>
    obtain ⟨j, v', hj, rfl, rfl, hL, hB⟩ := hrel
    by_cases hlt : j < k
    · have HL := Lib.hid hL
      clear hL
      go_wp2_with fail
      ((with_reducible refine (times_any (m * n ^ j) n _ _ (Nat.mul_pos hm (Nat.pow_pos hn)) hn hn' (Nat.le_trans (digs_len_pow B9 m n j (by decide) (by show n ≤ 1000000000; omega)) (by omega)) HL.out).mono ?_); rintro e w2 ⟨v2, rfl, hL2, hb2⟩)
      rw [Nat.mul_assoc, ← Nat.pow_succ] at hL2
      go_wp2
      go_roundw
      case rel => exact ⟨j + 1, v2, by omega, rfl, by go_num, hL2, hB.trans (hb2.mono hB.size)⟩
      case measure => simp [intOf]; omega
    · obtain rfl : j = k := by omega
      have HL := Lib.hid hL
      clear hL
      go_wp2
      go_ret
      exact ⟨_, rfl, HL.out, hB⟩

/-- One of three: less, equal, greater. -/
def cmpZ (a b : Int) : Int := if a < b then -1 else if a = b then 0 else 1

theorem isNaN_any (a : Int) (w : World) : Calls Try.prog 38 #[.int .i64 a] w fun e w' => e = .returned (.bool false) ∧ w = w' := by
  go_enter Try.func38, Try.ntmps38
  go_wp2
  go_ret
  exact ⟨by simp, rfl⟩
theorem compare_less (a b : Int) (h : a < b) (w : World) : Calls Try.prog 35 #[.int .i64 a, .int .i64 b] w fun e w' => e = .returned (.int .i64 (-1)) ∧ w = w' := by
  go_enter Try.func35, Try.ntmps35
  go_wp2_with (go_at_call 38; refine (isNaN_any _ _).mono ?_; rintro e w' ⟨rfl, rfl⟩)
  go_ret
  exact ⟨rfl, rfl⟩
theorem compare_same (a b : Int) (h : a = b) (w : World) : Calls Try.prog 35 #[.int .i64 a, .int .i64 b] w fun e w' => e = .returned (.int .i64 0) ∧ w = w' := by
  subst h
  go_enter Try.func35, Try.ntmps35
  go_wp2_with (go_at_call 38; refine (isNaN_any _ _).mono ?_; rintro e w' ⟨rfl, rfl⟩)
  go_ret
  exact ⟨rfl, rfl⟩
theorem compare_more (a b : Int) (h : b < a) (w : World) : Calls Try.prog 35 #[.int .i64 a, .int .i64 b] w fun e w' => e = .returned (.int .i64 1) ∧ w = w' := by
  have h2 : ¬ a < b := by omega
  go_enter Try.func35, Try.ntmps35
  go_wp2_with (go_at_call 38; refine (isNaN_any _ _).mono ?_; rintro e w' ⟨rfl, rfl⟩)
  go_ret
  exact ⟨rfl, rfl⟩
theorem compare_any (a b : Int) (w : World) : Calls Try.prog 35 #[.int .i64 a, .int .i64 b] w fun e w' => e = .returned (.int .i64 (cmpZ a b)) ∧ w = w' := by
  unfold cmpZ
  by_cases h : a < b
  · rw [if_pos h]; exact compare_less a b h w
  · rw [if_neg h]
    by_cases h2 : a = b
    · rw [if_pos h2]; exact compare_same a b h2 w
    · rw [if_neg h2]; exact compare_more a b (by omega) w
end Go.Proofs.Ytldpdoakfacdbaa
