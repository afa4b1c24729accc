/- digest.Compare: the order of two pairs of numbers, at this translation. -/
import Derived.Test.YtamhokedekhocaaTextWalk
import Derived.Deep.RegionHeld3
namespace Go.Proofs.Ytamhokedekhocaa
open Go.RowKit
attribute [local go_sem] eq_arr

def orI (x y : Int) : Int := if x = 0 then y else x
def cmpI (a b : Int) : Int := if a < b then -1 else if b < a then 1 else 0

theorem isNaN_any (a : Int) (w : World) : Calls Try.prog 52 #[.int .u64 a] w fun e w' => e = .returned (.bool false) ∧ w = w' := by
  go_enter Try.func52, Try.ntmps52
  go_wp2
  go_ret
  exact ⟨by simp, rfl⟩
theorem cmp1_any (a b : Int) (w : World) : Calls Try.prog 34 #[.int .u64 a, .int .u64 b] w fun e w' => e = .returned (.int .i64 (cmpI a b)) ∧ w = w' := by
  by_cases h1 : a < b
  · go_enter Try.func34, Try.ntmps34
    go_wp2_with (go_at_call 52; refine (isNaN_any _ _).mono ?_; rintro e w' ⟨rfl, rfl⟩)
    go_ret
    exact ⟨by simp [cmpI, h1], rfl⟩
  · by_cases h2 : b < a
    · go_enter Try.func34, Try.ntmps34
      go_wp2_with (go_at_call 52; refine (isNaN_any _ _).mono ?_; rintro e w' ⟨rfl, rfl⟩)
      go_ret
      exact ⟨by simp [cmpI, h1, h2], rfl⟩
    · go_enter Try.func34, Try.ntmps34
      go_wp2_with (go_at_call 52; refine (isNaN_any _ _).mono ?_; rintro e w' ⟨rfl, rfl⟩)
      go_ret
      exact ⟨ret_int (by unfold cmpI; rw [if_neg (by omega), if_neg (by omega)]), rfl⟩

set_option maxHeartbeats 400000 in
/-- cmp.Or of two numbers. -/
theorem or_any (b : Nat) (x y : Int) (w : World) (h0 : w.cell? ⟨b, 0, none⟩ = some (.int .i64 x)) (h1 : w.cell? ⟨b, 1, none⟩ = some (.int .i64 y)) :
    Calls Try.prog 33 #[.slice (some ⟨b, 0, none⟩) 2 2] w fun e w' => e = .returned (.int .i64 (orI x y)) ∧ w = w' := by
  go_enter Try.func33, Try.ntmps33
  go_wp2
  go_loop [8] (fun i => i = .int .i64 0 ∨ (i = .int .i64 1 ∧ (x == 0) = true) ∨ (i = .int .i64 2 ∧ (x == 0) = true ∧ (y == 0) = true)) (fun i => (2 - intOf i).toNat)
  case atStart => exact .inl rfl
  case round =>
    obtain rfl | ⟨rfl, hx⟩ | ⟨rfl, hx, hy⟩ := hrel
    · cases hx : (x == 0)
      · have hx' : (x != 0) = true := by simpa [bne] using hx
        have hxx : ¬ x = 0 := by simpa using hx
        have HX := Lib.hid hxx
        clear hx hxx
        go_wp2
        go_ret
        exact ⟨ret_int (by unfold orI; rw [if_neg HX.out]), rfl⟩
      · have hx' : (x != 0) = false := by simpa [bne] using hx
        have HX := Lib.hid hx
        clear hx
        go_wp2
        go_round
        case rel => exact .inr (.inl ⟨rfl, trivial⟩)
        case measure => simp [intOf]
    · have hxx : x = 0 := by simpa using hx
      have HX := Lib.hid hxx
      have HX2 := Lib.hid hx
      clear hx hxx
      cases hy : (y == 0)
      · have hy' : (y != 0) = true := by simpa [bne] using hy
        clear hy
        go_wp2
        go_ret
        exact ⟨ret_int (by unfold orI; rw [if_pos HX.out]), rfl⟩
      · have hy' : (y != 0) = false := by simpa [bne] using hy
        have HY := Lib.hid hy
        clear hy
        go_wp2
        go_round
        case rel => exact .inr (.inr ⟨rfl, HX2.out, trivial⟩)
        case measure => simp [intOf]
    · have hxx : x = 0 := by simpa using hx
      have hyy : y = 0 := by simpa using hy
      have HX := Lib.hid hxx
      have HY := Lib.hid hyy
      clear hx hxx hy hyy
      go_wp2
      go_ret
      exact ⟨ret_int (by unfold orI; rw [if_pos HX.out, HY.out]), rfl⟩

set_option maxHeartbeats 1000000 in
theorem compare_any (a0 a1 b0 b1 : Int) (w : World) :
    Calls Try.prog 13 #[.agg #[.int .u64 a0, .int .u64 a1], .agg #[.int .u64 b0, .int .u64 b1]] w fun e w' => e = .returned (.int .i64 (orI (cmpI a0 b0) (cmpI a1 b1))) ∧ Below w.heap.size w w' := by
  go_enter Try.func13, Try.ntmps13
  go_wp2
  go_region_held3 (fun w' => w'.cell? ⟨w.heap.size, 0, none⟩ = some (.int .u64 a0) ∧ w'.cell? ⟨w.heap.size, 1, none⟩ = some (.int .u64 a1) ∧ w'.cell? ⟨w.heap.size + 1, 0, none⟩ = some (.int .u64 b0) ∧ w'.cell? ⟨w.heap.size + 1, 1, none⟩ = some (.int .u64 b1)) (go_keep)
    (first | (go_at_call 34; refine (cmp1_any _ _ _).mono ?_; rintro e w' ⟨rfl, rfl⟩) | (go_at_call 33; refine (or_any _ (cmpI a0 b0) (cmpI a1 b1) _ (by go_simp) (by go_simp)).mono ?_; rintro e w' ⟨rfl, rfl⟩))
  go_wp2
  go_ret
  exact ⟨rfl, (bla (bla (bla (Below.refl _ _) _) _) _).drew⟩
end Go.Proofs.Ytamhokedekhocaa
