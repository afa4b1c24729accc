/- Verify, of program and reference, at this translation. -/
import Derived.Test.YtamhokedekhocaaVerify3
namespace Go.Proofs.Ytamhokedekhocaa
open Go.RowKit
attribute [local go_sem] eq_arr

set_option maxHeartbeats 1000000 in
theorem bad26 (n i x0 x1 d0 d1 : Int) (a : Option Addr) (len cap : Nat) (h : n < 1 ∨ 1099511627776 < n ∨ i < 0 ∨ n ≤ i) (w : World) :
    Calls Try.prog 26 #[.agg #[.int .u64 x0, .int .u64 x1], .int .i64 n, .int .i64 i, .agg #[.int .u64 d0, .int .u64 d1], .slice a len cap] w fun e w' => e = .returned (.bool false) ∧ Below w.heap.size w w' := by
  by_cases h1 : n < 1
  · clear h
    go_enter Try.func26, Try.ntmps26
    go_wp2
    go_ret
    exact ⟨rfl, bla (bla (Below.refl _ _) _) _⟩
  · by_cases h2 : 1099511627776 < n
    · clear h
      go_enter Try.func26, Try.ntmps26
      go_wp2
      go_ret
      exact ⟨rfl, bla (bla (Below.refl _ _) _) _⟩
    · by_cases h3 : i < 0
      · clear h
        go_enter Try.func26, Try.ntmps26
        go_wp2
        go_ret
        exact ⟨rfl, bla (bla (Below.refl _ _) _) _⟩
      · have h4 : n ≤ i := by omega
        clear h
        go_enter Try.func26, Try.ntmps26
        go_wp2
        go_ret
        exact ⟨rfl, bla (bla (Below.refl _ _) _) _⟩
set_option maxHeartbeats 1000000 in
theorem good26 (n i x0 x1 d0 d1 r0 r1 : Int) (ok t : Bool) (a : Option Addr) (len cap : Nat) (h1 : 1 ≤ n) (h2 : n ≤ 1099511627776) (h3 : 0 ≤ i) (h4 : i < n) (w : World) (ht : (r0 == x0 && r1 == x1) = t)
    (hrec : ∀ W, Below w.heap.size w W → Calls Try.prog 47 #[.int .i64 n, .int .i64 i, .agg #[.int .u64 d0, .int .u64 d1], .slice a len cap] W fun e w' => e = .returned (.tuple #[.agg #[.int .u64 r0, .int .u64 r1], .bool ok]) ∧ Below W.heap.size W w') :
    Calls Try.prog 26 #[.agg #[.int .u64 x0, .int .u64 x1], .int .i64 n, .int .i64 i, .agg #[.int .u64 d0, .int .u64 d1], .slice a len cap] w fun e w' => e = .returned (.bool (ok && t)) ∧ Below w.heap.size w w' := by
  have HR := Lib.hid hrec
  clear hrec
  have u1 : ¬ n < 1 := by omega
  have u2 : ¬ 1099511627776 < n := by omega
  have u3 : ¬ i < 0 := by omega
  have u4 : ¬ n ≤ i := by omega
  cases ok
  · go_enter Try.func26, Try.ntmps26
    go_wp2_with fail
    refine (HR.out _ (bla (bla (Below.refl _ _) _) _)).mono ?_
    rintro e w1 ⟨rfl, hb1⟩
    go_wp2
    go_ret
    exact ⟨rfl, bla (bl (bla (bla (Below.refl _ _) _) _) hb1) _⟩
  · cases t
    all_goals
      go_enter Try.func26, Try.ntmps26
      go_wp2_with fail
      refine (HR.out _ (bla (bla (Below.refl _ _) _) _)).mono ?_
      rintro e w1 ⟨rfl, hb1⟩
      have q := ((Two.fresh w x0 x1 24).alloc (by simp) (.cells #[.int .u64 d0, .int .u64 d1] 24)).below hb1 (by simp; omega)
      have hz : w.heap.size < w1.heap.size := by have := hb1.size; simp at this; omega
      obtain ⟨q0, q1, q2, q3⟩ := q
      go_wp2
      go_ret
      exact ⟨rfl, bla (bl (bla (bla (Below.refl _ _) _) _) hb1) _⟩

set_option maxHeartbeats 1000000 in
theorem bad27 (n i x0 x1 d0 d1 : Int) (a : Option Addr) (len cap : Nat) (h : n < 1 ∨ 1099511627776 < n ∨ i < 0 ∨ n ≤ i) (w : World) :
    Calls Try.prog 27 #[.agg #[.int .u64 x0, .int .u64 x1], .int .i64 n, .int .i64 i, .agg #[.int .u64 d0, .int .u64 d1], .slice a len cap] w fun e w' => e = .returned (.bool false) ∧ Below w.heap.size w w' := by
  by_cases h1 : n < 1
  · clear h
    go_enter Try.func27, Try.ntmps27
    go_wp2
    go_ret
    exact ⟨rfl, bla (bla (Below.refl _ _) _) _⟩
  · by_cases h2 : 1099511627776 < n
    · clear h
      go_enter Try.func27, Try.ntmps27
      go_wp2
      go_ret
      exact ⟨rfl, bla (bla (Below.refl _ _) _) _⟩
    · by_cases h3 : i < 0
      · clear h
        go_enter Try.func27, Try.ntmps27
        go_wp2
        go_ret
        exact ⟨rfl, bla (bla (Below.refl _ _) _) _⟩
      · have h4 : n ≤ i := by omega
        clear h
        go_enter Try.func27, Try.ntmps27
        go_wp2
        go_ret
        exact ⟨rfl, bla (bla (Below.refl _ _) _) _⟩
set_option maxHeartbeats 1000000 in
theorem good27 (n i x0 x1 d0 d1 r0 r1 : Int) (ok t : Bool) (a : Option Addr) (len cap : Nat) (h1 : 1 ≤ n) (h2 : n ≤ 1099511627776) (h3 : 0 ≤ i) (h4 : i < n) (w : World) (ht : (r0 == x0 && r1 == x1) = t)
    (hrec : ∀ W, Below w.heap.size w W → Calls Try.prog 48 #[.int .i64 n, .int .i64 i, .agg #[.int .u64 d0, .int .u64 d1], .slice a len cap] W fun e w' => e = .returned (.tuple #[.agg #[.int .u64 r0, .int .u64 r1], .bool ok]) ∧ Below W.heap.size W w') :
    Calls Try.prog 27 #[.agg #[.int .u64 x0, .int .u64 x1], .int .i64 n, .int .i64 i, .agg #[.int .u64 d0, .int .u64 d1], .slice a len cap] w fun e w' => e = .returned (.bool (ok && t)) ∧ Below w.heap.size w w' := by
  have HR := Lib.hid hrec
  clear hrec
  have u1 : ¬ n < 1 := by omega
  have u2 : ¬ 1099511627776 < n := by omega
  have u3 : ¬ i < 0 := by omega
  have u4 : ¬ n ≤ i := by omega
  cases ok
  · go_enter Try.func27, Try.ntmps27
    go_wp2_with fail
    refine (HR.out _ (bla (bla (Below.refl _ _) _) _)).mono ?_
    rintro e w1 ⟨rfl, hb1⟩
    go_wp2
    go_ret
    exact ⟨rfl, bla (bl (bla (bla (Below.refl _ _) _) _) hb1) _⟩
  · cases t
    all_goals
      go_enter Try.func27, Try.ntmps27
      go_wp2_with fail
      refine (HR.out _ (bla (bla (Below.refl _ _) _) _)).mono ?_
      rintro e w1 ⟨rfl, hb1⟩
      have q := ((Two.fresh w x0 x1 24).alloc (by simp) (.cells #[.int .u64 d0, .int .u64 d1] 24)).below hb1 (by simp; omega)
      have hz : w.heap.size < w1.heap.size := by have := hb1.size; simp at this; omega
      obtain ⟨q0, q1, q2, q3⟩ := q
      go_wp2
      go_ret
      exact ⟨rfl, bla (bl (bla (bla (Below.refl _ _) _) _) hb1) _⟩
end Go.Proofs.Ytamhokedekhocaa
