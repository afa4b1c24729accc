/- Leaves, and the sizes of left subtrees, of program and reference, at this translation. -/
import Derived.Test.YtamhokedekhocaaBits
import Derived.Test.YtamhokedekhocaaPair
namespace Go.Proofs.Ytamhokedekhocaa
open Go.RowKit
attribute [local go_sem] eq_arr

theorem bitLenAux_spec : ∀ (f x : Nat), 1 ≤ x → x < 2 ^ f → ∃ j, Lib.bitLenAux f x = j + 1 ∧ 2 ^ j ≤ x ∧ x < 2 ^ (j + 1)
  | 0, x, h, h2 => by simp at h2; omega
  | f + 1, x, h, h2 => by
    unfold Lib.bitLenAux
    rw [if_neg (by omega)]
    by_cases h1 : x = 1
    · subst h1
      refine ⟨0, ?_, by simp, by simp⟩
      cases f <;> simp [Lib.bitLenAux]
    · obtain ⟨j, e, a, b⟩ := bitLenAux_spec f (x / 2) (by omega) (by rw [Nat.pow_succ] at h2; omega)
      refine ⟨j + 1, by omega, ?_, ?_⟩
      · rw [Nat.pow_succ]; omega
      · rw [Nat.pow_succ]; omega
/-- How many of n digests are in the left subtree. -/
def leftN (n : Nat) : Nat := 2 ^ (Lib.bitLen (n - 1) - 1)
theorem leftN_spec (n : Nat) (h : 2 ≤ n) (h2 : n ≤ 2 ^ 40) : ∃ j, Lib.bitLen (n - 1) = j + 1 ∧ j < 40 ∧ leftN n = 2 ^ j ∧ leftN n < n ∧ n ≤ 2 * leftN n := by
  obtain ⟨j, e, a, b⟩ := bitLenAux_spec 64 (n - 1) (by omega) (by omega)
  have e' : Lib.bitLen (n - 1) = j + 1 := e
  have hl : leftN n = 2 ^ j := by unfold leftN; rw [e']; simp
  rw [Nat.pow_succ] at b
  refine ⟨j, e', ?_, hl, by rw [hl]; omega, by rw [hl]; omega⟩
  rcases Nat.lt_or_ge j 40 with h3 | h3
  · exact h3
  · have := Nat.pow_le_pow_right (n := 2) (by decide) h3
    omega
theorem leftN_unique (n j : Nat) (h : 2 ≤ n) (h2 : n ≤ 2 ^ 40) (h3 : 2 ^ j < n) (h4 : n ≤ 2 * 2 ^ j) : leftN n = 2 ^ j := by
  obtain ⟨i, _, _, e, a, b⟩ := leftN_spec n h h2
  rw [e] at a b ⊢
  have h5 : i = j := by
    rcases Nat.lt_trichotomy i j with h6 | h6 | h6
    · have := Nat.pow_le_pow_right (n := 2) (by decide) (show i + 1 ≤ j from h6)
      rw [Nat.pow_succ] at this; omega
    · exact h6
    · have := Nat.pow_le_pow_right (n := 2) (by decide) (show j + 1 ≤ i from h6)
      rw [Nat.pow_succ] at this; omega
  rw [h5]
theorem pow_lt40 (j : Nat) (h : j < 40) : 2 ^ j < 1099511627776 := by
  have := Nat.pow_lt_pow_right (a := 2) (by decide) h
  omega

set_option maxHeartbeats 400000 in
theorem left_any (n : Nat) (h : 2 ≤ n) (h2 : n ≤ 1099511627776) (w : World) : Calls Try.prog 43 #[.int .i64 n] w fun e w' => e = .returned (.int .i64 (leftN n)) ∧ w = w' := by
  go_enter Try.func43, Try.ntmps43
  go_wp2
  go_loop [3] (fun k => ∃ j : Nat, j < 40 ∧ 2 ^ j < n ∧ k = .int .i64 (((2 ^ j : Nat) : Int))) (fun k => n - (intOf k).toNat)
  case atStart => exact ⟨0, by omega, by omega, rfl⟩
  case round =>
    obtain ⟨j, hj, hlt, rfl⟩ := hrel
    obtain ⟨p, hp⟩ : ∃ p : Nat, p = 2 ^ j := ⟨_, rfl⟩
    rw [← hp] at hlt ⊢
    have HP := Lib.hid hp
    have hpos : 0 < p := by rw [hp]; exact Nat.pow_pos (by decide)
    clear hp
    by_cases hq : 2 * p < n
    · have hq' : 2 * (p : Int) < (n : Int) := by omega
      go_wp2
      go_round
      case rel =>
        refine ⟨j + 1, ?_, by rw [Nat.pow_succ, ← HP.out]; omega, ?_⟩
        · rcases Nat.lt_or_ge (j + 1) 40 with h3 | h3
          · exact h3
          · have h4 := Nat.pow_le_pow_right (n := 2) (by decide) (show 39 ≤ j by omega)
            rw [← HP.out] at h4
            omega
        · rw [Nat.pow_succ, ← HP.out, Nat.mul_comm]; go_num
      case measure => simp [intOf]; omega
    · have hq' : ¬ 2 * (p : Int) < (n : Int) := by omega
      have HE := Lib.hid (leftN_unique n j h (by omega) (by rw [← HP.out]; exact hlt) (by rw [← HP.out]; omega))
      go_wp2
      go_ret
      exact ⟨ret_int (by rw [HE.out, ← HP.out]), rfl⟩
set_option maxHeartbeats 400000 in
theorem half_any (n : Nat) (h : 2 ≤ n) (h2 : n ≤ 1099511627776) (w : World) : Calls Try.prog 45 #[.int .i64 n] w fun e w' => e = .returned (.int .i64 (leftN n)) ∧ w = w' := by
  obtain ⟨j, e, hj, hl, _, _⟩ := leftN_spec n h (by omega)
  have hpw := pow_lt40 j hj
  have HL := Lib.hid hl
  have HE := Lib.hid e
  clear hl e
  have wu : IntKind.u64.wrap ((n : Int) - 1) = ((n - 1 : Nat) : Int) := by rw [IntKind.wrap_u64]; omega
  go_enter Try.func45, Try.ntmps45
  go_wp2_with fail
  refine (Try.bits_Len _ _ (by omega) (by omega)).mono ?_
  rintro e w' ⟨rfl, rfl⟩
  rw [Int.toNat_natCast, HE.out]
  have hs : ((((j + 1 : Nat) : Int)) - 1) = (j : Int) := by omega
  have hj1 : (0 : Int) ≤ (j : Int) := by omega
  have hj2 : (j : Int) < 40 := by omega
  have hw : wrap64 ((2 : Int) ^ j) = ((2 ^ j : Nat) : Int) := by
    have : ((2 : Int) ^ j) = ((2 ^ j : Nat) : Int) := by simp
    rw [this]
    clear this
    generalize (2 : Nat) ^ j = p at hpw ⊢
    unfold wrap64
    omega
  have HW := Lib.hid hw
  clear hw
  go_wp2
  go_ret
  exact ⟨ret_int (by rw [HW.out, HL.out]), rfl⟩

/-- A digest as a pair of numbers. -/
abbrev Dig := Nat × Nat
def Dig.v (d : Dig) : Value := .agg #[.int .u64 d.1, .int .u64 d.2]
theorem u64_pos (x : Int) : 0 ≤ IntKind.u64.wrap x := by rw [IntKind.wrap_u64]; omega
theorem hs_pos (g : Int → Int → Int) (hg : ∀ a b, 0 ≤ g a b) (l : List UInt8) : 0 ≤ hs g l := by
  rcases List.eq_nil_or_concat l with rfl | ⟨l', c, rfl⟩
  · simp [hs, start]
  · rw [List.concat_eq_append, hs_snoc]; exact hg _ _
theorem of0_pos (l : List UInt8) : 0 ≤ of0 l := hs_pos g1 (fun _ _ => u64_pos _) l
theorem of1_pos (l : List UInt8) : 0 ≤ of1 l := by
  unfold of1
  split
  · decide
  · exact hs_pos g2 (fun a b => u64_pos _) l
/-- The digest of a string. -/
def ofD (l : List UInt8) : Dig := ((of0 l).toNat, (of1 l).toNat)
theorem ofD_v (l : List UInt8) : Value.agg #[.int .u64 (of0 l), .int .u64 (of1 l)] = (ofD l).v := by
  unfold ofD Dig.v
  simp only [Int.toNat_of_nonneg (of0_pos l), Int.toNat_of_nonneg (of1_pos l)]
def leafD (d : Dig) : Dig := ofD (ByteArray.mk #[0] ++ byS d.1 d.2).data.toList
def pairD (a b : Dig) : Dig := ofD (nodeS a.1 a.2 b.1 b.2).data.toList
theorem pairD_any (a b : Dig) (w : World) : Calls Try.prog 15 #[a.v, b.v] w fun e w' => e = .returned (pairD a b).v ∧ Below w.heap.size w w' := by
  refine (pair_any a.1 a.2 b.1 b.2 w).mono ?_
  rintro e w' ⟨rfl, hB⟩
  exact ⟨by rw [ofD_v]; rfl, hB⟩
theorem refPairD_any (a b : Dig) (w : World) : Calls Try.prog 16 #[a.v, b.v] w fun e w' => e = .returned (pairD a b).v ∧ Below w.heap.size w w' := by
  refine (refPair_any a.1 a.2 b.1 b.2 w).mono ?_
  rintro e w' ⟨rfl, hB⟩
  exact ⟨by rw [ofD_v]; rfl, hB⟩
theorem leafS_size (n0 n1 : Nat) : (ByteArray.mk #[0] ++ byS n0 n1).size ≤ maxLen := by
  rw [ByteArray.size_append, byS_size]; decide
set_option maxHeartbeats 400000 in
theorem refLeaf_any (n0 n1 : Nat) (w : World) : Calls Try.prog 46 #[.agg #[.int .u64 n0, .int .u64 n1]] w fun e w' => e = .returned (.string (ByteArray.mk #[0] ++ byS n0 n1)) ∧ Below w.heap.size w w' := by
  have z0 := byS_size n0 n1
  go_enter Try.func46, Try.ntmps46
  go_wp2_with fail
  refine (byS_ref n0 n1 _).mono ?_
  rintro e w1 ⟨rfl, hb1⟩
  go_wp2
  go_ret
  exact ⟨rfl, bl (bla (Below.refl _ _) _) hb1⟩
set_option maxHeartbeats 400000 in
theorem leafV_any (n0 n1 : Nat) (w : World) : Calls Try.prog 44 #[.agg #[.int .u64 n0, .int .u64 n1]] w fun e w' => e = .returned (leafD (n0, n1)).v ∧ Below w.heap.size w w' := by
  have z0 := byS_size n0 n1
  obtain ⟨x, y, hxy⟩ : ∃ x y : Int, (of0 (ByteArray.mk #[0] ++ byS n0 n1).data.toList = x ∧ of1 (ByteArray.mk #[0] ++ byS n0 n1).data.toList = y) := ⟨_, _, rfl, rfl⟩
  have HXY := Lib.hid hxy
  have hv : Value.agg #[.int .u64 x, .int .u64 y] = (leafD (n0, n1)).v := by rw [← hxy.1, ← hxy.2, ofD_v]; rfl
  have HV := Lib.hid hv
  clear hxy hv
  rw [← HV.out]
  go_enter Try.func44, Try.ntmps44
  go_wp2_with fail
  refine (byS_of n0 n1 _).mono ?_
  rintro e w1 ⟨rfl, hb1⟩
  go_wp2_with fail
  refine (of_any _ _ (leafS_size n0 n1)).mono ?_
  rintro e w2 ⟨rfl, hb2⟩
  rw [HXY.out.1, HXY.out.2]
  have r0 := Two.fresh (w.alloc (.cells #[.int .u64 n0, .int .u64 n1] 24)) 0 0 24
  rw [World.size_alloc] at r0
  obtain ⟨q0, q1, q2, q3⟩ := (r0.below hb1 (by simp)).below hb2 (by have := hb1.size; simp at this; omega)
  have hQ : Two w2 (w.heap.size + 1) 0 0 := ⟨q0, q1, q2, q3⟩
  go_wp2
  refine bodyPost_ret (v := .agg #[.int .u64 x, .int .u64 y]) ?_ rfl ⟨rfl, ?_⟩
  · obtain ⟨s0, s1, _, _⟩ := (hQ.set0 x).set1 y
    simp [results, Try.results44, go_sem, s0, s1]
  · exact ((bl (bl (bla (bla (Below.refl _ _) _) _) hb1) hb2).setCell (p := ⟨w.heap.size + 1, 0, none⟩) (by simp) _).setCell (p := ⟨w.heap.size + 1, 1, none⟩) (by simp) _
end Go.Proofs.Ytamhokedekhocaa
