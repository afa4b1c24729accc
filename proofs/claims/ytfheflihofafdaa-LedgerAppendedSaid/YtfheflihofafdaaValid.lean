/- Which records are valid, of program and reference, at this translation. -/
import Derived.Test.YtfheflihofafdaaWords
namespace Go.Proofs.Ytfheflihofafdaa
open Go.RowKit Go.Great Pt Tr

set_option maxRecDepth 100000 in
set_option maxHeartbeats 1000000 in
theorem valid_any (r : Rec) (w : World) (hf : r.Fit) (q : Bool) (hq : okR r = q) :
    Calls Try.prog 31 #[rv r] w fun e w' => e = .returned (.bool q) ∧ Below w.heap.size w w' := by
  obtain ⟨t, a, b, c⟩ := r
  obtain ⟨f1, f2, f3⟩ := hf
  simp only [okR] at hq f1 f2 f3
  have m1 : (a.size : Int) ≤ 9223372036854775807 := by unfold maxLen at f1; omega
  have m3 : (c.size : Int) ≤ 9223372036854775807 := by unfold maxLen at f3; omega
  go_enter Try.func31, Try.ntmps31
  have hB : Below w.heap.size w (w.alloc (rc ⟨t, a, b, c⟩)) := (Below.refl _ _).alloc (Nat.le_refl _) _
  by_cases h1 : 0 ≤ t
  · by_cases h2 : t ≤ 1099511627776
    · cases ha : isChars a
      · obtain rfl : q = false := by rw [← hq, ha]; simp
        clear hq
        go_wp2_with fail
        ((with_reducible refine (chars_any a _ f1 false ha).mono ?_); rintro e w1 ⟨rfl, rfl⟩)
        go_wp2
        go_ret
        exact ⟨rfl, hB⟩
      · cases hb : isChars b
        · obtain rfl : q = false := by rw [← hq, hb]; simp
          clear hq
          go_wp2_with fail
          ((with_reducible refine (chars_any a _ f1 true ha).mono ?_); rintro e w1 ⟨rfl, rfl⟩)
          go_wp2_with fail
          ((with_reducible refine (chars_any b _ f2 false hb).mono ?_); rintro e w1 ⟨rfl, rfl⟩)
          go_wp2
          go_ret
          exact ⟨rfl, hB⟩
        · have HQ := Lib.hid (show decide ((c.size : Int) ≤ 65536) = q from by rw [← hq, ha, hb]; simp [h1, h2]; omega)
          clear hq
          go_wp2_with fail
          ((with_reducible refine (chars_any a _ f1 true ha).mono ?_); rintro e w1 ⟨rfl, rfl⟩)
          go_wp2_with fail
          ((with_reducible refine (chars_any b _ f2 true hb).mono ?_); rintro e w1 ⟨rfl, rfl⟩)
          go_wp2
          go_ret
          exact ⟨by rw [HQ.out]; rfl, hB⟩
    · obtain rfl : q = false := by rw [← hq]; simp [h2]
      clear hq
      go_wp2
      go_ret
      exact ⟨rfl, hB⟩
  · obtain rfl : q = false := by rw [← hq]; simp [h1]
    clear hq
    go_wp2
    go_ret
    exact ⟨rfl, hB⟩
set_option maxRecDepth 100000 in
set_option maxHeartbeats 1000000 in
theorem refValid_any (r : Rec) (w : World) (hf : r.Fit) (q : Bool) (hq : okR r = q) :
    Calls Try.prog 33 #[rv r] w fun e w' => e = .returned (.bool q) ∧ Below w.heap.size w w' := by
  obtain ⟨t, a, b, c⟩ := r
  obtain ⟨f1, f2, f3⟩ := hf
  simp only [okR] at hq f1 f2 f3
  have m1 : (a.size : Int) ≤ 9223372036854775807 := by unfold maxLen at f1; omega
  have m3 : (c.size : Int) ≤ 9223372036854775807 := by unfold maxLen at f3; omega
  go_enter Try.func33, Try.ntmps33
  have hB : Below w.heap.size w (w.alloc (rc ⟨t, a, b, c⟩)) := (Below.refl _ _).alloc (Nat.le_refl _) _
  by_cases h1 : 0 ≤ t
  · by_cases h2 : t ≤ 1099511627776
    · cases ha : isChars a
      · obtain rfl : q = false := by rw [← hq, ha]; simp
        clear hq
        go_wp2_with fail
        ((with_reducible refine (refName_any a _ f1 false ha).mono ?_); rintro e w1 ⟨rfl, rfl⟩)
        go_wp2
        go_ret
        exact ⟨rfl, hB⟩
      · cases hb : isChars b
        · obtain rfl : q = false := by rw [← hq, hb]; simp
          clear hq
          go_wp2_with fail
          ((with_reducible refine (refName_any a _ f1 true ha).mono ?_); rintro e w1 ⟨rfl, rfl⟩)
          go_wp2_with fail
          ((with_reducible refine (refName_any b _ f2 false hb).mono ?_); rintro e w1 ⟨rfl, rfl⟩)
          go_wp2
          go_ret
          exact ⟨rfl, hB⟩
        · have HQ := Lib.hid (show decide ((c.size : Int) ≤ 65536) = q from by rw [← hq, ha, hb]; simp [h1, h2]; omega)
          clear hq
          go_wp2_with fail
          ((with_reducible refine (refName_any a _ f1 true ha).mono ?_); rintro e w1 ⟨rfl, rfl⟩)
          go_wp2_with fail
          ((with_reducible refine (refName_any b _ f2 true hb).mono ?_); rintro e w1 ⟨rfl, rfl⟩)
          go_wp2
          go_ret
          exact ⟨by rw [HQ.out]; rfl, hB⟩
    · obtain rfl : q = false := by rw [← hq]; simp [h2]
      clear hq
      go_wp2
      go_ret
      exact ⟨rfl, hB⟩
  · obtain rfl : q = false := by rw [← hq]; simp [h1]
    clear hq
    go_wp2
    go_ret
    exact ⟨rfl, hB⟩
end Go.Proofs.Ytfheflihofafdaa
