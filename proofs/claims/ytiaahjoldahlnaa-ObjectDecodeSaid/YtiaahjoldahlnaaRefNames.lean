/- The reference's names, at this translation. -/
import Derived.Test.YtiaahjoldahlnaaNames
namespace Go.Proofs.Ytiaahjoldahlnaa
open Go.RowKit Go.Great

set_option maxRecDepth 100000 in
set_option maxHeartbeats 4000000 in
theorem ref_loop (s : BA) (w : World) (hs : s.size ≤ maxLen) (h1 : 1 ≤ s.size) (h2 : s.size ≤ 24) (g1 : (s.toList == [46]) = false) (g2 : (s.toList == [46, 46]) = false) (q : Bool) (hq : charsFrom s 0 = q) :
    Calls Try.prog 73 #[.string s] w fun e w' => e = .returned (.bool q) ∧ w' = w := by
  unfold maxLen at hs
  go_enter Try.func73, Try.ntmps73
  go_wp2
  go_loopw [3] (fun i wr => wr = w ∧ ∃ k : Nat, k ≤ s.size ∧ i = .int .i64 k ∧ charsFrom s 0 = charsFrom s k) (fun i _ => s.size - (intOf i).toNat)
  case atStart => exact ⟨rfl, 0, Nat.zero_le _, rfl, rfl⟩
  case round =>
    obtain ⟨rfl, k, hk, rfl, he⟩ := hrel
    have HE := Lib.hid he
    clear he
    by_cases hlt : k < s.size
    · have st := Lib.hid (chars_step s k hlt)
      rcases byte_cases (s[k]'hlt).toNat (UInt8.toNat_lt _) with ⟨b1, b2⟩ | ⟨b1, b2⟩ | ⟨b1, b2⟩ | ⟨b1, b2⟩ | ⟨b1, b2⟩ | ⟨b1, b2⟩ | ⟨b1, b2⟩ | ⟨b1, b2⟩ | ⟨b1, b2⟩ | ⟨b1, b2⟩ | ⟨b1, b2⟩ | ⟨b1, b2⟩
      · have HC := Lib.hid (show nameByte (s[k]'hlt).toNat = false from by simp [nameByte]; omega)
        have e46 : (((s[k]'hlt).toNat : Int) == 46) = false := by simp; omega
        have e95 : (((s[k]'hlt).toNat : Int) == 95) = false := by simp; omega
        have e45 : (((s[k]'hlt).toNat : Int) == 45) = false := by simp; omega
        go_wp2
        go_ret
        have : q = false := by rw [← hq, HE.out, st.out, HC.out]; rfl
        subst this
        exact ⟨rfl, rfl⟩
      · have HC := Lib.hid (show nameByte (s[k]'hlt).toNat = true from by simp [nameByte]; omega)
        have e46 : (((s[k]'hlt).toNat : Int) == 46) = false := by simp; omega
        have e95 : (((s[k]'hlt).toNat : Int) == 95) = false := by simp; omega
        have e45 : (((s[k]'hlt).toNat : Int) == 45) = true := by simp; omega
        go_wp2
        go_roundw
        case rel => exact ⟨trivial, k + 1, hlt, by go_num, by rw [HE.out, st.out, HC.out]; rfl⟩
        case measure => simp [intOf]; omega
      · have HC := Lib.hid (show nameByte (s[k]'hlt).toNat = true from by simp [nameByte]; omega)
        have e46 : (((s[k]'hlt).toNat : Int) == 46) = true := by simp; omega
        have e95 : (((s[k]'hlt).toNat : Int) == 95) = false := by simp; omega
        have e45 : (((s[k]'hlt).toNat : Int) == 45) = false := by simp; omega
        go_wp2
        go_roundw
        case rel => exact ⟨trivial, k + 1, hlt, by go_num, by rw [HE.out, st.out, HC.out]; rfl⟩
        case measure => simp [intOf]; omega
      · have HC := Lib.hid (show nameByte (s[k]'hlt).toNat = false from by simp [nameByte]; omega)
        have e46 : (((s[k]'hlt).toNat : Int) == 46) = false := by simp; omega
        have e95 : (((s[k]'hlt).toNat : Int) == 95) = false := by simp; omega
        have e45 : (((s[k]'hlt).toNat : Int) == 45) = false := by simp; omega
        go_wp2
        go_ret
        have : q = false := by rw [← hq, HE.out, st.out, HC.out]; rfl
        subst this
        exact ⟨rfl, rfl⟩
      · have HC := Lib.hid (show nameByte (s[k]'hlt).toNat = true from by simp [nameByte]; omega)
        have e46 : (((s[k]'hlt).toNat : Int) == 46) = false := by simp; omega
        have e95 : (((s[k]'hlt).toNat : Int) == 95) = false := by simp; omega
        have e45 : (((s[k]'hlt).toNat : Int) == 45) = false := by simp; omega
        go_wp2
        go_roundw
        case rel => exact ⟨trivial, k + 1, hlt, by go_num, by rw [HE.out, st.out, HC.out]; rfl⟩
        case measure => simp [intOf]; omega
      · have HC := Lib.hid (show nameByte (s[k]'hlt).toNat = false from by simp [nameByte]; omega)
        have e46 : (((s[k]'hlt).toNat : Int) == 46) = false := by simp; omega
        have e95 : (((s[k]'hlt).toNat : Int) == 95) = false := by simp; omega
        have e45 : (((s[k]'hlt).toNat : Int) == 45) = false := by simp; omega
        have l57 : (!decide (((s[k]'hlt).toNat : Int) ≤ 57)) = true := by simp; omega
        go_wp2
        go_ret
        have : q = false := by rw [← hq, HE.out, st.out, HC.out]; rfl
        subst this
        exact ⟨rfl, rfl⟩
      · have HC := Lib.hid (show nameByte (s[k]'hlt).toNat = true from by simp [nameByte]; omega)
        have e46 : (((s[k]'hlt).toNat : Int) == 46) = false := by simp; omega
        have e95 : (((s[k]'hlt).toNat : Int) == 95) = false := by simp; omega
        have e45 : (((s[k]'hlt).toNat : Int) == 45) = false := by simp; omega
        have l57 : (!decide (((s[k]'hlt).toNat : Int) ≤ 57)) = true := by simp; omega
        go_wp2
        go_roundw
        case rel => exact ⟨trivial, k + 1, hlt, by go_num, by rw [HE.out, st.out, HC.out]; rfl⟩
        case measure => simp [intOf]; omega
      · have HC := Lib.hid (show nameByte (s[k]'hlt).toNat = false from by simp [nameByte]; omega)
        have e46 : (((s[k]'hlt).toNat : Int) == 46) = false := by simp; omega
        have e95 : (((s[k]'hlt).toNat : Int) == 95) = false := by simp; omega
        have e45 : (((s[k]'hlt).toNat : Int) == 45) = false := by simp; omega
        have l57 : (!decide (((s[k]'hlt).toNat : Int) ≤ 57)) = true := by simp; omega
        have l90 : (!decide (((s[k]'hlt).toNat : Int) ≤ 90)) = true := by simp; omega
        go_wp2
        go_ret
        have : q = false := by rw [← hq, HE.out, st.out, HC.out]; rfl
        subst this
        exact ⟨rfl, rfl⟩
      · have HC := Lib.hid (show nameByte (s[k]'hlt).toNat = true from by simp [nameByte]; omega)
        have e46 : (((s[k]'hlt).toNat : Int) == 46) = false := by simp; omega
        have e95 : (((s[k]'hlt).toNat : Int) == 95) = true := by simp; omega
        have e45 : (((s[k]'hlt).toNat : Int) == 45) = false := by simp; omega
        have l57 : (!decide (((s[k]'hlt).toNat : Int) ≤ 57)) = true := by simp; omega
        have l90 : (!decide (((s[k]'hlt).toNat : Int) ≤ 90)) = true := by simp; omega
        go_wp2
        go_roundw
        case rel => exact ⟨trivial, k + 1, hlt, by go_num, by rw [HE.out, st.out, HC.out]; rfl⟩
        case measure => simp [intOf]; omega
      · have HC := Lib.hid (show nameByte (s[k]'hlt).toNat = false from by simp [nameByte]; omega)
        have e46 : (((s[k]'hlt).toNat : Int) == 46) = false := by simp; omega
        have e95 : (((s[k]'hlt).toNat : Int) == 95) = false := by simp; omega
        have e45 : (((s[k]'hlt).toNat : Int) == 45) = false := by simp; omega
        have l57 : (!decide (((s[k]'hlt).toNat : Int) ≤ 57)) = true := by simp; omega
        have l90 : (!decide (((s[k]'hlt).toNat : Int) ≤ 90)) = true := by simp; omega
        go_wp2
        go_ret
        have : q = false := by rw [← hq, HE.out, st.out, HC.out]; rfl
        subst this
        exact ⟨rfl, rfl⟩
      · have HC := Lib.hid (show nameByte (s[k]'hlt).toNat = true from by simp [nameByte]; omega)
        have e46 : (((s[k]'hlt).toNat : Int) == 46) = false := by simp; omega
        have e95 : (((s[k]'hlt).toNat : Int) == 95) = false := by simp; omega
        have e45 : (((s[k]'hlt).toNat : Int) == 45) = false := by simp; omega
        have l57 : (!decide (((s[k]'hlt).toNat : Int) ≤ 57)) = true := by simp; omega
        have l90 : (!decide (((s[k]'hlt).toNat : Int) ≤ 90)) = true := by simp; omega
        go_wp2
        go_roundw
        case rel => exact ⟨trivial, k + 1, hlt, by go_num, by rw [HE.out, st.out, HC.out]; rfl⟩
        case measure => simp [intOf]; omega
      · have HC := Lib.hid (show nameByte (s[k]'hlt).toNat = false from by simp [nameByte]; omega)
        have e46 : (((s[k]'hlt).toNat : Int) == 46) = false := by simp; omega
        have e95 : (((s[k]'hlt).toNat : Int) == 95) = false := by simp; omega
        have e45 : (((s[k]'hlt).toNat : Int) == 45) = false := by simp; omega
        have l57 : (!decide (((s[k]'hlt).toNat : Int) ≤ 57)) = true := by simp; omega
        have l90 : (!decide (((s[k]'hlt).toNat : Int) ≤ 90)) = true := by simp; omega
        have l122 : (!decide (((s[k]'hlt).toNat : Int) ≤ 122)) = true := by simp; omega
        go_wp2
        go_ret
        have : q = false := by rw [← hq, HE.out, st.out, HC.out]; rfl
        subst this
        exact ⟨rfl, rfl⟩
    · have ee := Lib.hid (chars_end s k (by omega))
      have : q = true := by rw [← hq, HE.out, ee.out]
      subst this
      clear hq
      go_wp2
      go_ret
      exact ⟨rfl, rfl⟩

set_option maxRecDepth 100000 in
set_option maxHeartbeats 1000000 in
theorem refName_any (s : BA) (w : World) (hs : s.size ≤ maxLen) (q : Bool) (hq : isName s = q) :
    Calls Try.prog 73 #[.string s] w fun e w' => e = .returned (.bool q) ∧ w' = w := by
  by_cases h1 : 1 ≤ s.size
  · by_cases h2 : s.size ≤ 24
    · by_cases d1 : s = dot1
      · subst d1
        have : q = false := by rw [← hq]; simp [isName]
        subst this
        clear hq
        have g1 : (dot1.toList == [46]) = true := by rw [dot1_list]; rfl
        go_enter Try.func73, Try.ntmps73
        go_wp2
        go_ret
        exact ⟨rfl, rfl⟩
      · have g1 : (s.toList == [46]) = false := by rw [← dot1_list, str_eq]; simp [d1]
        by_cases d2 : s = dot2
        · subst d2
          have : q = false := by rw [← hq]; simp [isName]
          subst this
          clear hq
          have g2 : (dot2.toList == [46, 46]) = true := by rw [dot2_list]; rfl
          go_enter Try.func73, Try.ntmps73
          go_wp2
          go_ret
          exact ⟨rfl, rfl⟩
        · have g2 : (s.toList == [46, 46]) = false := by rw [← dot2_list, str_eq]; simp [d2]
          exact ref_loop s w hs h1 h2 g1 g2 q (by rw [← hq]; simp [isName, isChars, h1, h2, d1, d2])
    · have : q = false := by rw [← hq]; simp [isName, isChars, h2]
      subst this
      clear hq
      go_enter Try.func73, Try.ntmps73
      go_wp2
      go_ret
      exact ⟨rfl, rfl⟩
  · have : q = false := by rw [← hq]; simp [isName, isChars, h1]
    subst this
    clear hq
    go_enter Try.func73, Try.ntmps73
    go_wp2
    go_ret
    exact ⟨rfl, rfl⟩
end Go.Proofs.Ytiaahjoldahlnaa
