/- The reference's only, at this translation. -/
import Derived.Test.YtiaahjoldahlnaaRefEnts
import Derived.Test.YtiaahjoldahlnaaFields
namespace Go.Proofs.Ytiaahjoldahlnaa
open Go.RowKit Go.Great

set_option maxRecDepth 100000 in
set_option maxHeartbeats 4000000 in
theorem only_1 (a b : Option Addr) (c1 n2 c2 t1 t2 : Nat) (au : BA) (ti : Int) (ms : BA) (_hn2 : n2 ≤ maxLen) (w : World) (d : BA) (q : Bool) (hq : decide ((t1, t2) = ((0, 0) : Dig) ∧ n2 = 0 ∧ au = ⟨#[]⟩ ∧ ti = 0 ∧ ms = ⟨#[]⟩) = q) :
    Calls Try.prog 45 #[.agg #[.int .i64 1, .string d, .slice a 0 c1, .int .u64 t1, .int .u64 t2, .slice b n2 c2, .string au, .int .i64 ti, .string ms]] w fun e w' => e = .returned (.bool q) ∧ Below w.heap.size w w' := by
  unfold maxLen at *
  have h0 := Bo.fresh w 1 d (.slice a 0 c1) t1 t2 (.slice b n2 c2) au ti ms
  cases hz : decide ((t1, t2) = ((0, 0) : Dig)) with
  | false =>
    obtain rfl : q = false := by rw [← hq]; simp only [of_decide_eq_false hz, false_and, decide_false]
    have HZ := Lib.hid hz
    clear hz hq
    go_enter Try.func45, Try.ntmps45
    go_wp2_with fail
    ((with_reducible refine (zero_any t1 t2 _ false HZ.out).mono ?_); rintro e w1 ⟨rfl, hb1⟩)
    obtain ⟨z0, z1, z2, z3, z4, z5, z6, z7, z8, zl, zb⟩ := h0.on hb1
    clear h0 hb1
    go_wp2
    go_ret
    exact ⟨rfl, zb⟩
  | true =>
    have HZ := Lib.hid hz
    have ht := of_decide_eq_true hz
    clear hz
    by_cases h2 : n2 = 0
    · subst h2
      by_cases h3 : au = ⟨#[]⟩
      · subst h3
        by_cases h4 : ti = 0
        · subst h4
          by_cases h5 : ms = ⟨#[]⟩
          · subst h5
            obtain rfl : q = true := by rw [← hq]; simp only [ht, and_self, decide_true]
            clear hq ht
            go_enter Try.func45, Try.ntmps45
            go_wp2_with fail
            ((with_reducible refine (zero_any t1 t2 _ true HZ.out).mono ?_); rintro e w1 ⟨rfl, hb1⟩)
            obtain ⟨z0, z1, z2, z3, z4, z5, z6, z7, z8, zl, zb⟩ := h0.on hb1
            clear h0 hb1
            go_wp2
            go_ret
            exact ⟨rfl, zb⟩
          · obtain rfl : q = false := by rw [← hq]; simp [h5]
            have e5 : (ms.toList == []) = false := by rw [eq_empty]; simp [h5]
            clear hq ht h5
            go_enter Try.func45, Try.ntmps45
            go_wp2_with fail
            ((with_reducible refine (zero_any t1 t2 _ true HZ.out).mono ?_); rintro e w1 ⟨rfl, hb1⟩)
            obtain ⟨z0, z1, z2, z3, z4, z5, z6, z7, z8, zl, zb⟩ := h0.on hb1
            clear h0 hb1
            go_wp2
            go_ret
            exact ⟨rfl, zb⟩
        · obtain rfl : q = false := by rw [← hq]; simp [h4]
          have e4 : (ti == 0) = false := by simp [h4]
          clear hq ht h4
          go_enter Try.func45, Try.ntmps45
          go_wp2_with fail
          ((with_reducible refine (zero_any t1 t2 _ true HZ.out).mono ?_); rintro e w1 ⟨rfl, hb1⟩)
          obtain ⟨z0, z1, z2, z3, z4, z5, z6, z7, z8, zl, zb⟩ := h0.on hb1
          clear h0 hb1
          go_wp2
          go_ret
          exact ⟨rfl, zb⟩
      · obtain rfl : q = false := by rw [← hq]; simp [h3]
        have e3 : (au.toList == []) = false := by rw [eq_empty]; simp [h3]
        clear hq ht h3
        go_enter Try.func45, Try.ntmps45
        go_wp2_with fail
        ((with_reducible refine (zero_any t1 t2 _ true HZ.out).mono ?_); rintro e w1 ⟨rfl, hb1⟩)
        obtain ⟨z0, z1, z2, z3, z4, z5, z6, z7, z8, zl, zb⟩ := h0.on hb1
        clear h0 hb1
        go_wp2
        go_ret
        exact ⟨rfl, zb⟩
    · obtain rfl : q = false := by rw [← hq]; simp [h2]
      have e2 : ((n2 : Int) == 0) = false := by simp; omega
      clear hq ht h2
      go_enter Try.func45, Try.ntmps45
      go_wp2_with fail
      ((with_reducible refine (zero_any t1 t2 _ true HZ.out).mono ?_); rintro e w1 ⟨rfl, hb1⟩)
      obtain ⟨z0, z1, z2, z3, z4, z5, z6, z7, z8, zl, zb⟩ := h0.on hb1
      clear h0 hb1
      go_wp2
      go_ret
      exact ⟨rfl, zb⟩

set_option maxRecDepth 100000 in
set_option maxHeartbeats 4000000 in
theorem only_2 (a b : Option Addr) (c1 n2 c2 t1 t2 : Nat) (au : BA) (ti : Int) (ms : BA) (_hn2 : n2 ≤ maxLen) (w : World) (n1 : Nat) (_hn1 : n1 ≤ maxLen) (q : Bool) (hq : decide ((t1, t2) = ((0, 0) : Dig) ∧ n2 = 0 ∧ au = ⟨#[]⟩ ∧ ti = 0 ∧ ms = ⟨#[]⟩) = q) :
    Calls Try.prog 45 #[.agg #[.int .i64 2, .string ⟨#[]⟩, .slice a n1 c1, .int .u64 t1, .int .u64 t2, .slice b n2 c2, .string au, .int .i64 ti, .string ms]] w fun e w' => e = .returned (.bool q) ∧ Below w.heap.size w w' := by
  unfold maxLen at *
  have h0 := Bo.fresh w 2 ⟨#[]⟩ (.slice a n1 c1) t1 t2 (.slice b n2 c2) au ti ms
  cases hz : decide ((t1, t2) = ((0, 0) : Dig)) with
  | false =>
    obtain rfl : q = false := by rw [← hq]; simp only [of_decide_eq_false hz, false_and, decide_false]
    have HZ := Lib.hid hz
    clear hz hq
    go_enter Try.func45, Try.ntmps45
    go_wp2_with fail
    ((with_reducible refine (zero_any t1 t2 _ false HZ.out).mono ?_); rintro e w1 ⟨rfl, hb1⟩)
    obtain ⟨z0, z1, z2, z3, z4, z5, z6, z7, z8, zl, zb⟩ := h0.on hb1
    clear h0 hb1
    go_wp2
    go_ret
    exact ⟨rfl, zb⟩
  | true =>
    have HZ := Lib.hid hz
    have ht := of_decide_eq_true hz
    clear hz
    by_cases h2 : n2 = 0
    · subst h2
      by_cases h3 : au = ⟨#[]⟩
      · subst h3
        by_cases h4 : ti = 0
        · subst h4
          by_cases h5 : ms = ⟨#[]⟩
          · subst h5
            obtain rfl : q = true := by rw [← hq]; simp only [ht, and_self, decide_true]
            clear hq ht
            go_enter Try.func45, Try.ntmps45
            go_wp2_with fail
            ((with_reducible refine (zero_any t1 t2 _ true HZ.out).mono ?_); rintro e w1 ⟨rfl, hb1⟩)
            obtain ⟨z0, z1, z2, z3, z4, z5, z6, z7, z8, zl, zb⟩ := h0.on hb1
            clear h0 hb1
            go_wp2
            go_ret
            exact ⟨rfl, zb⟩
          · obtain rfl : q = false := by rw [← hq]; simp [h5]
            have e5 : (ms.toList == []) = false := by rw [eq_empty]; simp [h5]
            clear hq ht h5
            go_enter Try.func45, Try.ntmps45
            go_wp2_with fail
            ((with_reducible refine (zero_any t1 t2 _ true HZ.out).mono ?_); rintro e w1 ⟨rfl, hb1⟩)
            obtain ⟨z0, z1, z2, z3, z4, z5, z6, z7, z8, zl, zb⟩ := h0.on hb1
            clear h0 hb1
            go_wp2
            go_ret
            exact ⟨rfl, zb⟩
        · obtain rfl : q = false := by rw [← hq]; simp [h4]
          have e4 : (ti == 0) = false := by simp [h4]
          clear hq ht h4
          go_enter Try.func45, Try.ntmps45
          go_wp2_with fail
          ((with_reducible refine (zero_any t1 t2 _ true HZ.out).mono ?_); rintro e w1 ⟨rfl, hb1⟩)
          obtain ⟨z0, z1, z2, z3, z4, z5, z6, z7, z8, zl, zb⟩ := h0.on hb1
          clear h0 hb1
          go_wp2
          go_ret
          exact ⟨rfl, zb⟩
      · obtain rfl : q = false := by rw [← hq]; simp [h3]
        have e3 : (au.toList == []) = false := by rw [eq_empty]; simp [h3]
        clear hq ht h3
        go_enter Try.func45, Try.ntmps45
        go_wp2_with fail
        ((with_reducible refine (zero_any t1 t2 _ true HZ.out).mono ?_); rintro e w1 ⟨rfl, hb1⟩)
        obtain ⟨z0, z1, z2, z3, z4, z5, z6, z7, z8, zl, zb⟩ := h0.on hb1
        clear h0 hb1
        go_wp2
        go_ret
        exact ⟨rfl, zb⟩
    · obtain rfl : q = false := by rw [← hq]; simp [h2]
      have e2 : ((n2 : Int) == 0) = false := by simp; omega
      clear hq ht h2
      go_enter Try.func45, Try.ntmps45
      go_wp2_with fail
      ((with_reducible refine (zero_any t1 t2 _ true HZ.out).mono ?_); rintro e w1 ⟨rfl, hb1⟩)
      obtain ⟨z0, z1, z2, z3, z4, z5, z6, z7, z8, zl, zb⟩ := h0.on hb1
      clear h0 hb1
      go_wp2
      go_ret
      exact ⟨rfl, zb⟩

set_option maxRecDepth 100000 in
set_option maxHeartbeats 4000000 in
theorem only_4 (a b : Option Addr) (c1 n2 c2 t1 t2 : Nat) (au : BA) (ti : Int) (ms : BA) (_hn2 : n2 ≤ maxLen) (w : World) (d : BA) (q : Bool) (hq : decide ((t1, t2) = ((0, 0) : Dig) ∧ n2 = 0 ∧ au = ⟨#[]⟩ ∧ ti = 0 ∧ ms = ⟨#[]⟩) = q) :
    Calls Try.prog 45 #[.agg #[.int .i64 4, .string d, .slice a 0 c1, .int .u64 t1, .int .u64 t2, .slice b n2 c2, .string au, .int .i64 ti, .string ms]] w fun e w' => e = .returned (.bool q) ∧ Below w.heap.size w w' := by
  unfold maxLen at *
  have h0 := Bo.fresh w 4 d (.slice a 0 c1) t1 t2 (.slice b n2 c2) au ti ms
  cases hz : decide ((t1, t2) = ((0, 0) : Dig)) with
  | false =>
    obtain rfl : q = false := by rw [← hq]; simp only [of_decide_eq_false hz, false_and, decide_false]
    have HZ := Lib.hid hz
    clear hz hq
    go_enter Try.func45, Try.ntmps45
    go_wp2_with fail
    ((with_reducible refine (zero_any t1 t2 _ false HZ.out).mono ?_); rintro e w1 ⟨rfl, hb1⟩)
    obtain ⟨z0, z1, z2, z3, z4, z5, z6, z7, z8, zl, zb⟩ := h0.on hb1
    clear h0 hb1
    go_wp2
    go_ret
    exact ⟨rfl, zb⟩
  | true =>
    have HZ := Lib.hid hz
    have ht := of_decide_eq_true hz
    clear hz
    by_cases h2 : n2 = 0
    · subst h2
      by_cases h3 : au = ⟨#[]⟩
      · subst h3
        by_cases h4 : ti = 0
        · subst h4
          by_cases h5 : ms = ⟨#[]⟩
          · subst h5
            obtain rfl : q = true := by rw [← hq]; simp only [ht, and_self, decide_true]
            clear hq ht
            go_enter Try.func45, Try.ntmps45
            go_wp2_with fail
            ((with_reducible refine (zero_any t1 t2 _ true HZ.out).mono ?_); rintro e w1 ⟨rfl, hb1⟩)
            obtain ⟨z0, z1, z2, z3, z4, z5, z6, z7, z8, zl, zb⟩ := h0.on hb1
            clear h0 hb1
            go_wp2
            go_ret
            exact ⟨rfl, zb⟩
          · obtain rfl : q = false := by rw [← hq]; simp [h5]
            have e5 : (ms.toList == []) = false := by rw [eq_empty]; simp [h5]
            clear hq ht h5
            go_enter Try.func45, Try.ntmps45
            go_wp2_with fail
            ((with_reducible refine (zero_any t1 t2 _ true HZ.out).mono ?_); rintro e w1 ⟨rfl, hb1⟩)
            obtain ⟨z0, z1, z2, z3, z4, z5, z6, z7, z8, zl, zb⟩ := h0.on hb1
            clear h0 hb1
            go_wp2
            go_ret
            exact ⟨rfl, zb⟩
        · obtain rfl : q = false := by rw [← hq]; simp [h4]
          have e4 : (ti == 0) = false := by simp [h4]
          clear hq ht h4
          go_enter Try.func45, Try.ntmps45
          go_wp2_with fail
          ((with_reducible refine (zero_any t1 t2 _ true HZ.out).mono ?_); rintro e w1 ⟨rfl, hb1⟩)
          obtain ⟨z0, z1, z2, z3, z4, z5, z6, z7, z8, zl, zb⟩ := h0.on hb1
          clear h0 hb1
          go_wp2
          go_ret
          exact ⟨rfl, zb⟩
      · obtain rfl : q = false := by rw [← hq]; simp [h3]
        have e3 : (au.toList == []) = false := by rw [eq_empty]; simp [h3]
        clear hq ht h3
        go_enter Try.func45, Try.ntmps45
        go_wp2_with fail
        ((with_reducible refine (zero_any t1 t2 _ true HZ.out).mono ?_); rintro e w1 ⟨rfl, hb1⟩)
        obtain ⟨z0, z1, z2, z3, z4, z5, z6, z7, z8, zl, zb⟩ := h0.on hb1
        clear h0 hb1
        go_wp2
        go_ret
        exact ⟨rfl, zb⟩
    · obtain rfl : q = false := by rw [← hq]; simp [h2]
      have e2 : ((n2 : Int) == 0) = false := by simp; omega
      clear hq ht h2
      go_enter Try.func45, Try.ntmps45
      go_wp2_with fail
      ((with_reducible refine (zero_any t1 t2 _ true HZ.out).mono ?_); rintro e w1 ⟨rfl, hb1⟩)
      obtain ⟨z0, z1, z2, z3, z4, z5, z6, z7, z8, zl, zb⟩ := h0.on hb1
      clear h0 hb1
      go_wp2
      go_ret
      exact ⟨rfl, zb⟩

set_option maxRecDepth 100000 in
set_option maxHeartbeats 4000000 in
theorem only_1n (a b : Option Addr) (c1 n2 c2 t1 t2 : Nat) (au : BA) (ti : Int) (ms : BA) (w : World) (n1 : Nat) (d : BA) (hn : n1 ≤ maxLen) (h : ¬ n1 = 0) :
    Calls Try.prog 45 #[.agg #[.int .i64 1, .string d, .slice a n1 c1, .int .u64 t1, .int .u64 t2, .slice b n2 c2, .string au, .int .i64 ti, .string ms]] w fun e w' => e = .returned (.bool false) ∧ Below w.heap.size w w' := by
  have h0 := Bo.fresh w 1 d (.slice a n1 c1) t1 t2 (.slice b n2 c2) au ti ms
  have zb := h0.b
  clear h0
  unfold maxLen at hn
  have e1 : (0 : Int) < (n1 : Int) := by omega
  go_enter Try.func45, Try.ntmps45
  go_wp2
  go_ret
  exact ⟨rfl, zb⟩

set_option maxRecDepth 100000 in
set_option maxHeartbeats 4000000 in
theorem only_4n (a b : Option Addr) (c1 n2 c2 t1 t2 : Nat) (au : BA) (ti : Int) (ms : BA) (w : World) (n1 : Nat) (d : BA) (hn : n1 ≤ maxLen) (h : ¬ n1 = 0) :
    Calls Try.prog 45 #[.agg #[.int .i64 4, .string d, .slice a n1 c1, .int .u64 t1, .int .u64 t2, .slice b n2 c2, .string au, .int .i64 ti, .string ms]] w fun e w' => e = .returned (.bool false) ∧ Below w.heap.size w w' := by
  have h0 := Bo.fresh w 4 d (.slice a n1 c1) t1 t2 (.slice b n2 c2) au ti ms
  have zb := h0.b
  clear h0
  unfold maxLen at hn
  have e1 : (0 : Int) < (n1 : Int) := by omega
  go_enter Try.func45, Try.ntmps45
  go_wp2
  go_ret
  exact ⟨rfl, zb⟩

set_option maxRecDepth 100000 in
set_option maxHeartbeats 4000000 in
theorem only_3n (a b : Option Addr) (c1 n2 c2 t1 t2 : Nat) (au : BA) (ti : Int) (ms : BA) (w : World) (n1 : Nat) (hn : n1 ≤ maxLen) (h : ¬ n1 = 0) :
    Calls Try.prog 45 #[.agg #[.int .i64 3, .string ⟨#[]⟩, .slice a n1 c1, .int .u64 t1, .int .u64 t2, .slice b n2 c2, .string au, .int .i64 ti, .string ms]] w fun e w' => e = .returned (.bool false) ∧ Below w.heap.size w w' := by
  have h0 := Bo.fresh w 3 ⟨#[]⟩ (.slice a n1 c1) t1 t2 (.slice b n2 c2) au ti ms
  have zb := h0.b
  clear h0
  unfold maxLen at hn
  have e1 : (0 : Int) < (n1 : Int) := by omega
  go_enter Try.func45, Try.ntmps45
  go_wp2
  go_ret
  exact ⟨rfl, zb⟩

set_option maxRecDepth 100000 in
set_option maxHeartbeats 4000000 in
theorem only_3d (a b : Option Addr) (c1 n2 c2 t1 t2 : Nat) (au : BA) (ti : Int) (ms : BA) (w : World) (n1 : Nat) (d : BA) (h : ¬ d = ⟨#[]⟩) :
    Calls Try.prog 45 #[.agg #[.int .i64 3, .string d, .slice a n1 c1, .int .u64 t1, .int .u64 t2, .slice b n2 c2, .string au, .int .i64 ti, .string ms]] w fun e w' => e = .returned (.bool false) ∧ Below w.heap.size w w' := by
  have h0 := Bo.fresh w 3 d (.slice a n1 c1) t1 t2 (.slice b n2 c2) au ti ms
  have zb := h0.b
  clear h0
  have e1 : (d.toList != []) = true := by have := eq_empty d; simp [h] at this; simp [this]
  have e2 : (d.toList == []) = false := by rw [eq_empty]; simp [h]
  clear h
  go_enter Try.func45, Try.ntmps45
  go_wp2
  go_ret
  exact ⟨rfl, zb⟩

set_option maxRecDepth 100000 in
set_option maxHeartbeats 4000000 in
theorem only_2d (a b : Option Addr) (c1 n2 c2 t1 t2 : Nat) (au : BA) (ti : Int) (ms : BA) (w : World) (n1 : Nat) (d : BA) (h : ¬ d = ⟨#[]⟩) :
    Calls Try.prog 45 #[.agg #[.int .i64 2, .string d, .slice a n1 c1, .int .u64 t1, .int .u64 t2, .slice b n2 c2, .string au, .int .i64 ti, .string ms]] w fun e w' => e = .returned (.bool false) ∧ Below w.heap.size w w' := by
  have h0 := Bo.fresh w 2 d (.slice a n1 c1) t1 t2 (.slice b n2 c2) au ti ms
  have zb := h0.b
  clear h0
  have e1 : (d.toList != []) = true := by have := eq_empty d; simp [h] at this; simp [this]
  have e2 : (d.toList == []) = false := by rw [eq_empty]; simp [h]
  clear h
  go_enter Try.func45, Try.ntmps45
  go_wp2
  go_ret
  exact ⟨rfl, zb⟩

set_option maxRecDepth 100000 in
set_option maxHeartbeats 4000000 in
theorem only_3 (a b : Option Addr) (c1 n2 c2 t1 t2 : Nat) (au : BA) (ti : Int) (ms : BA) (w : World) :
    Calls Try.prog 45 #[.agg #[.int .i64 3, .string ⟨#[]⟩, .slice a 0 c1, .int .u64 t1, .int .u64 t2, .slice b n2 c2, .string au, .int .i64 ti, .string ms]] w fun e w' => e = .returned (.bool true) ∧ Below w.heap.size w w' := by
  have h0 := Bo.fresh w 3 ⟨#[]⟩ (.slice a 0 c1) t1 t2 (.slice b n2 c2) au ti ms
  have zb := h0.b
  clear h0
  go_enter Try.func45, Try.ntmps45
  go_wp2
  go_ret
  exact ⟨rfl, zb⟩
end Go.Proofs.Ytiaahjoldahlnaa
