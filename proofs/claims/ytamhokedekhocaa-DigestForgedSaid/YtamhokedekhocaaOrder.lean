/- The walk of the law DigestOrder: digests compare as their texts do. -/
import Derived.Test.YtamhokedekhocaaCompare
import Derived.BigQuiet
namespace Go.Proofs.Ytamhokedekhocaa
open Go.RowKit
attribute [local go_sem] eq_arr

theorem hx_lt : ∀ i j : Fin 16, (hx i < hx j ↔ i < j) := by decide
theorem hx_lt' (i j : Nat) (hi : i < 16) (hj : j < 16) : (hx i < hx j ↔ i < j) := hx_lt ⟨i, hi⟩ ⟨j, hj⟩
theorem cmp_fmtW (w m n : Nat) (hm : m < 16 ^ w) (hn : n < 16 ^ w) (r s : List UInt8) :
    Lib.compareBytes (fmtW w m ++ r) (fmtW w n ++ s) = if m < n then -1 else if n < m then 1 else Lib.compareBytes r s := by
  induction w generalizing m n r s with
  | zero =>
    simp at hm hn
    subst hm hn
    simp [fmtW]
  | succ w ih =>
    have h1 : m / 16 < 16 ^ w := by rw [Nat.pow_succ] at hm; omega
    have h2 : n / 16 < 16 ^ w := by rw [Nat.pow_succ] at hn; omega
    simp only [fmtW, List.append_assoc, List.singleton_append]
    rw [ih _ _ h1 h2, Lib.compareBytes]
    have a := hx_lt' (m % 16) (n % 16) (by omega) (by omega)
    have b := hx_lt' (n % 16) (m % 16) (by omega) (by omega)
    by_cases c1 : m / 16 < n / 16
    · rw [if_pos c1, if_pos (by omega)]
    · rw [if_neg c1]
      by_cases c2 : n / 16 < m / 16
      · rw [if_pos c2, if_neg (by omega), if_pos (by omega)]
      · rw [if_neg c2]
        by_cases c3 : m % 16 < n % 16
        · rw [if_pos (a.2 c3), if_pos (by omega)]
        · rw [if_neg (fun h => c3 (a.1 h))]
          by_cases c4 : n % 16 < m % 16
          · rw [if_pos (b.2 c4), if_neg (by omega), if_pos (by omega)]
          · rw [if_neg (fun h => c4 (b.1 h)), if_neg (by omega), if_neg (by omega)]
theorem cmp_fmtS (a0 a1 b0 b1 : Nat) (h0 : a0 < 2 ^ 64) (h1 : a1 < 2 ^ 64) (h2 : b0 < 2 ^ 64) (h3 : b1 < 2 ^ 64) :
    Lib.compareBytes (fmtS a0 a1).data.toList (fmtS b0 b1).data.toList = orI (cmpI a0 b0) (cmpI a1 b1) := by
  show Lib.compareBytes (fmtW 16 a0 ++ fmtW 16 a1) (fmtW 16 b0 ++ fmtW 16 b1) = _
  have e := cmp_fmtW 16 a1 b1 (by omega) (by omega) [] []
  simp only [List.append_nil] at e
  rw [cmp_fmtW 16 a0 b0 (by omega) (by omega), e]
  unfold orI cmpI
  simp only [Int.ofNat_lt]
  by_cases c1 : a0 < b0
  · simp [c1]
  · by_cases c2 : b0 < a0
    · simp [c1, c2]
    · simp [c1, c2, Lib.compareBytes]
theorem cmp_zero (a0 a1 b0 b1 : Int) : (orI (cmpI a0 b0) (cmpI a1 b1) == 0) = (a0 == b0 && a1 == b1) := by
  unfold orI cmpI
  rw [Bool.eq_iff_iff]
  simp only [beq_iff_eq, Bool.and_eq_true]
  by_cases c1 : a0 < b0
  · simp [c1]; omega
  · by_cases c2 : b0 < a0
    · simp [c1, c2]; omega
    · have : a0 = b0 := by omega
      subst this
      by_cases c3 : a1 < b1
      · simp [c3]; omega
      · by_cases c4 : b1 < a1
        · simp [c3, c4]; omega
        · simp [c3, c4]; omega

/-- What the law's two boxes hold, in a later world. -/
def Held (w : World) (a0 a1 b0 b1 : Int) (w' : World) : Prop :=
  (w'.cell? ⟨w.heap.size, 0, none⟩ = some (.int .u64 a0) ∧ w'.cell? ⟨w.heap.size, 1, none⟩ = some (.int .u64 a1) ∧ w'.cell? ⟨w.heap.size + 1, 0, none⟩ = some (.int .u64 b0) ∧ w'.cell? ⟨w.heap.size + 1, 1, none⟩ = some (.int .u64 b1)) ∧
    w.heap.size + 2 ≤ w'.heap.size ∧ Below w.heap.size w w'
theorem Held.on {w W W' : World} {a0 a1 b0 b1 : Int} (h : Held w a0 a1 b0 b1 W) (hB : Below W.heap.size W W') : Held w a0 a1 b0 b1 W' := by
  obtain ⟨⟨c1, c2, c3, c4⟩, hz, hb⟩ := h
  refine ⟨⟨(hB.cell (p := ⟨w.heap.size, 0, none⟩) ?_).trans c1, (hB.cell (p := ⟨w.heap.size, 1, none⟩) ?_).trans c2, (hB.cell (p := ⟨w.heap.size + 1, 0, none⟩) ?_).trans c3, (hB.cell (p := ⟨w.heap.size + 1, 1, none⟩) ?_).trans c4⟩, Nat.le_trans hz hB.size, bl hb hB⟩ <;> (show _ < W.heap.size; simp; omega)

theorem textCmp_any (a0 a1 b0 b1 : Nat) (h0 : a0 < 2 ^ 64) (h1 : a1 < 2 ^ 64) (h2 : b0 < 2 ^ 64) (h3 : b1 < 2 ^ 64) (w : World) :
    Calls Try.prog 28 #[.string (fmtS a0 a1), .string (fmtS b0 b1)] w fun e w' => e = .returned (.int .i64 (orI (cmpI a0 b0) (cmpI a1 b1))) ∧ w = w' := by
  refine (Try.strings_Compare _ _ w).mono ?_
  rintro e w' ⟨rfl, rfl⟩
  exact ⟨ret_int (cmp_fmtS a0 a1 b0 b1 h0 h1 h2 h3), rfl⟩

set_option maxHeartbeats 4000000 in
theorem order_way (a0 a1 b0 b1 : Nat) (h0 : a0 < 2 ^ 64) (h1 : a1 < 2 ^ 64) (h2 : b0 < 2 ^ 64) (h3 : b1 < 2 ^ 64) (t : Bool) (hz : (orI (cmpI a0 b0) (cmpI a1 b1) == 0) = t) (hq : ((a0 : Int) == b0 && (a1 : Int) == b1) = t) (w : World) :
    Calls Try.prog 8 #[.agg #[.int .u64 a0, .int .u64 a1], .agg #[.int .u64 b0, .int .u64 b1]] w fun e w' => e = .returned (.bool true) ∧ Below w.heap.size w w' := by
  cases t
  all_goals
   go_enter Try.func8, Try.ntmps8
   go_wp2
   have start : Held w a0 a1 b0 b1 ((w.alloc (.cells #[.int .u64 a0, .int .u64 a1] 24)).alloc (.cells #[.int .u64 b0, .int .u64 b1] 24)).drew := by
     refine ⟨?_, by simp, (bla (bla (Below.refl _ _) _) _).drew⟩
     go_simp
   go_region_held3 (fun w' => (w'.cell? ⟨w.heap.size, 0, none⟩ = some (.int .u64 a0) ∧ w'.cell? ⟨w.heap.size, 1, none⟩ = some (.int .u64 a1) ∧ w'.cell? ⟨w.heap.size + 1, 0, none⟩ = some (.int .u64 b0) ∧ w'.cell? ⟨w.heap.size + 1, 1, none⟩ = some (.int .u64 b1)) ∧
     w.heap.size + 2 ≤ w'.heap.size ∧ Below w.heap.size w w') (first | exact hh | exact start)
     (first | (go_at_call 13; refine (compare_any _ _ _ _ _).mono ?_; rintro e w' ⟨rfl, hb⟩; have hh := Held.on (by first | exact hh | exact start) hb; clear hb) | (go_at_call 19; refine (format_s _ _ (by assumption) (by assumption) _).mono ?_; rintro e w' ⟨rfl, hb⟩; have hh := Held.on (by first | exact hh | exact start) hb; clear hb) | (go_at_call 28; refine (textCmp_any _ _ _ _ (by assumption) (by assumption) (by assumption) (by assumption) _).mono ?_; rintro e w' ⟨rfl, rfl⟩) | (go_at_call 10; refine (awake_any _).mono ?_; rintro e w' ⟨rfl, hb⟩; have hh := Held.on (by first | exact hh | exact start) hb; clear hb))
   go_wp2
   go_ret
   exact ⟨rfl, hh.2.2⟩
theorem order_any (a0 a1 b0 b1 : Nat) (h0 : a0 < 2 ^ 64) (h1 : a1 < 2 ^ 64) (h2 : b0 < 2 ^ 64) (h3 : b1 < 2 ^ 64) (w : World) :
    Calls Try.prog 8 #[.agg #[.int .u64 a0, .int .u64 a1], .agg #[.int .u64 b0, .int .u64 b1]] w fun e w' => e = .returned (.bool true) ∧ Below w.heap.size w w' :=
  order_way a0 a1 b0 b1 h0 h1 h2 h3 _ rfl (cmp_zero a0 a1 b0 b1).symm w
end Go.Proofs.Ytamhokedekhocaa
