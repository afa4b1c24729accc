/- Which strings are names, of program and reference, at this translation. -/
import Derived.Test.YtiaahjoldahlnaaMath
import Derived.Test.YtiaahjoldahlnaaChecked
import Derived.Lib.Hide
import Derived.KernelRfl
import Derived.WalkKit
import Derived.IntWalk
import Derived.Laws.Cover1
import Derived.Great.Walk
namespace Go.Proofs.Ytiaahjoldahlnaa
open Go.RowKit Go.Great

theorem byte_cases (c : Nat) (h : c < 256) : (0 ≤ c ∧ c ≤ 44) ∨ (45 ≤ c ∧ c ≤ 45) ∨ (46 ≤ c ∧ c ≤ 46) ∨ (47 ≤ c ∧ c ≤ 47) ∨ (48 ≤ c ∧ c ≤ 57) ∨ (58 ≤ c ∧ c ≤ 64) ∨ (65 ≤ c ∧ c ≤ 90) ∨ (91 ≤ c ∧ c ≤ 94) ∨ (95 ≤ c ∧ c ≤ 95) ∨ (96 ≤ c ∧ c ≤ 96) ∨ (97 ≤ c ∧ c ≤ 122) ∨ (123 ≤ c ∧ c ≤ 255) := by omega

set_option maxHeartbeats 2000000 in
theorem char_any (c : Nat) (hc : c < 256) (w : World) (q : Bool) (hq : nameByte c = q) :
    Calls Try.prog 91 #[.int .u8 c] w fun e w' => e = .returned (.bool q) ∧ w' = w := by
  rcases byte_cases c hc with ⟨h1, h2⟩ | ⟨h1, h2⟩ | ⟨h1, h2⟩ | ⟨h1, h2⟩ | ⟨h1, h2⟩ | ⟨h1, h2⟩ | ⟨h1, h2⟩ | ⟨h1, h2⟩ | ⟨h1, h2⟩ | ⟨h1, h2⟩ | ⟨h1, h2⟩ | ⟨h1, h2⟩
  · obtain rfl : q = false := by rw [← hq]; simp [nameByte]; omega
    clear hq
    have e46 : ((c : Int) == 46) = false := by simp; omega
    have e95 : ((c : Int) == 95) = false := by simp; omega
    have e45 : ((c : Int) == 45) = false := by simp; omega
    go_enter Try.func91, Try.ntmps91
    go_wp2
    go_ret
    exact ⟨rfl, rfl⟩
  · obtain rfl : q = true := by rw [← hq]; simp [nameByte]; omega
    clear hq
    obtain rfl : c = 45 := by omega
    go_enter Try.func91, Try.ntmps91
    go_wp2
    go_ret
    exact ⟨rfl, rfl⟩
  · obtain rfl : q = true := by rw [← hq]; simp [nameByte]; omega
    clear hq
    obtain rfl : c = 46 := by omega
    go_enter Try.func91, Try.ntmps91
    go_wp2
    go_ret
    exact ⟨rfl, rfl⟩
  · obtain rfl : q = false := by rw [← hq]; simp [nameByte]; omega
    clear hq
    obtain rfl : c = 47 := by omega
    go_enter Try.func91, Try.ntmps91
    go_wp2
    go_ret
    exact ⟨rfl, rfl⟩
  · obtain rfl : q = true := by rw [← hq]; simp [nameByte]; omega
    clear hq
    go_enter Try.func91, Try.ntmps91
    go_wp2
    go_ret
    exact ⟨rfl, rfl⟩
  · obtain rfl : q = false := by rw [← hq]; simp [nameByte]; omega
    clear hq
    have e46 : ((c : Int) == 46) = false := by simp; omega
    have e95 : ((c : Int) == 95) = false := by simp; omega
    have e45 : ((c : Int) == 45) = false := by simp; omega
    go_enter Try.func91, Try.ntmps91
    go_wp2
    go_ret
    exact ⟨rfl, rfl⟩
  · obtain rfl : q = true := by rw [← hq]; simp [nameByte]; omega
    clear hq
    go_enter Try.func91, Try.ntmps91
    go_wp2
    go_ret
    exact ⟨rfl, rfl⟩
  · obtain rfl : q = false := by rw [← hq]; simp [nameByte]; omega
    clear hq
    have e46 : ((c : Int) == 46) = false := by simp; omega
    have e95 : ((c : Int) == 95) = false := by simp; omega
    have e45 : ((c : Int) == 45) = false := by simp; omega
    go_enter Try.func91, Try.ntmps91
    go_wp2
    go_ret
    exact ⟨rfl, rfl⟩
  · obtain rfl : q = true := by rw [← hq]; simp [nameByte]; omega
    clear hq
    obtain rfl : c = 95 := by omega
    go_enter Try.func91, Try.ntmps91
    go_wp2
    go_ret
    exact ⟨rfl, rfl⟩
  · obtain rfl : q = false := by rw [← hq]; simp [nameByte]; omega
    clear hq
    obtain rfl : c = 96 := by omega
    go_enter Try.func91, Try.ntmps91
    go_wp2
    go_ret
    exact ⟨rfl, rfl⟩
  · obtain rfl : q = true := by rw [← hq]; simp [nameByte]; omega
    clear hq
    go_enter Try.func91, Try.ntmps91
    go_wp2
    go_ret
    exact ⟨rfl, rfl⟩
  · obtain rfl : q = false := by rw [← hq]; simp [nameByte]; omega
    clear hq
    have e46 : ((c : Int) == 46) = false := by simp; omega
    have e95 : ((c : Int) == 95) = false := by simp; omega
    have e45 : ((c : Int) == 45) = false := by simp; omega
    go_enter Try.func91, Try.ntmps91
    go_wp2
    go_ret
    exact ⟨rfl, rfl⟩
theorem char_idx (s : BA) (j : Nat) (h : j < s.size) (w : World) (q : Bool) (hq : nameByte (s[j]'h).toNat = q) :
    Calls Try.prog 91 #[.int .u8 ((s[j]'h).toNat : Nat)] w fun e w' => e = .returned (.bool q) ∧ w' = w :=
  char_any _ (UInt8.toNat_lt _) w q hq

set_option maxHeartbeats 1000000 in
theorem chars_any (s : BA) (w : World) (hs : s.size ≤ maxLen) (q : Bool) (hq : isChars s = q) :
    Calls Try.prog 84 #[.string s] w fun e w' => e = .returned (.bool q) ∧ w' = w := by
  unfold maxLen at hs
  go_enter Try.func84, Try.ntmps84
  go_wp2
  go_loopw [6] (fun i wr => wr = w ∧ ∃ k : Nat, k ≤ s.size ∧ i = .int .i64 k ∧ charsFrom s 0 = charsFrom s k) (fun i _ => s.size - (intOf i).toNat)
  case atStart => exact ⟨rfl, 0, Nat.zero_le _, rfl, rfl⟩
  case round =>
    obtain ⟨rfl, k, hk, rfl, he⟩ := hrel
    have HE := Lib.hid he
    clear he
    by_cases hlt : k < s.size
    · have st := Lib.hid (chars_step s k hlt)
      cases hc : nameByte (s[k]'hlt).toNat with
      | false =>
        have HC := Lib.hid hc
        clear hc
        go_wp2_with (go_at_call 91; ((with_reducible refine (char_idx s k hlt _ false HC.out).mono ?_); rintro e w' ⟨rfl, rfl⟩))
        go_ret
        have : q = false := by rw [← hq]; simp [isChars, HE.out, st.out, HC.out]
        subst this
        exact ⟨rfl, rfl⟩
      | true =>
        have HC := Lib.hid hc
        clear hc
        go_wp2_with (go_at_call 91; ((with_reducible refine (char_idx s k hlt _ true HC.out).mono ?_); rintro e w' ⟨rfl, rfl⟩))
        go_roundw
        case rel => exact ⟨trivial, k + 1, hlt, by go_num, by rw [HE.out, st.out, HC.out]; rfl⟩
        case measure => simp [intOf]; omega
    · have ee := Lib.hid (chars_end s k (by omega))
      by_cases h1 : 1 ≤ s.size
      · by_cases h2 : s.size ≤ 24
        · have : q = true := by rw [← hq]; simp [isChars, HE.out, ee.out, h1, h2]
          subst this
          clear hq
          go_wp2
          go_ret
          refine ⟨?_, rfl⟩
          simp
          omega
        · have : q = false := by rw [← hq]; simp [isChars, h2]
          subst this
          clear hq
          go_wp2
          go_ret
          refine ⟨?_, rfl⟩
          simp
          omega
      · have : q = false := by rw [← hq]; simp [isChars, h1]
        subst this
        clear hq
        go_wp2
        go_ret
        exact ⟨rfl, rfl⟩

theorem dot1_list : dot1.toList = [46] := by rw [ByteArray.toList_eq]; rfl
theorem dot2_list : dot2.toList = [46, 46] := by rw [ByteArray.toList_eq]; rfl

set_option maxHeartbeats 1000000 in
theorem name_any (s : BA) (w : World) (hs : s.size ≤ maxLen) (q : Bool) (hq : isName s = q) :
    Calls Try.prog 69 #[.string s] w fun e w' => e = .returned (.bool q) ∧ w' = w := by
  cases hc : isChars s with
  | false =>
    have HC := Lib.hid hc
    clear hc
    have : q = false := by rw [← hq]; simp [isName, HC.out]
    subst this
    go_enter Try.func69, Try.ntmps69
    go_wp2_with (go_at_call 84; ((with_reducible refine (chars_any s _ hs false HC.out).mono ?_); rintro e w' ⟨rfl, rfl⟩))
    go_ret
    exact ⟨rfl, rfl⟩
  | true =>
    have HC := Lib.hid hc
    clear hc
    by_cases h1 : s = dot1
    · subst h1
      have : q = false := by rw [← hq]; simp [isName]
      subst this
      clear hq
      have g1 : (dot1.toList == [46]) = true := by rw [dot1_list]; rfl
      go_enter Try.func69, Try.ntmps69
      go_wp2_with (go_at_call 84; ((with_reducible refine (chars_any _ _ hs true HC.out).mono ?_); rintro e w' ⟨rfl, rfl⟩))
      go_ret
      exact ⟨rfl, rfl⟩
    · by_cases h2 : s = dot2
      · subst h2
        have : q = false := by rw [← hq]; simp [isName]
        subst this
        clear hq
        have g1 : (dot2.toList == [46]) = false := by rw [dot2_list]; rfl
        have g2 : (dot2.toList == [46, 46]) = true := by rw [dot2_list]; rfl
        go_enter Try.func69, Try.ntmps69
        go_wp2_with (go_at_call 84; ((with_reducible refine (chars_any _ _ hs true HC.out).mono ?_); rintro e w' ⟨rfl, rfl⟩))
        go_ret
        exact ⟨rfl, rfl⟩
      · have : q = true := by rw [← hq]; simp [isName, HC.out, h1, h2]
        subst this
        have g1 : (s.toList == [46]) = false := by rw [← dot1_list, str_eq]; simp [h1]
        have g2 : (s.toList == [46, 46]) = false := by rw [← dot2_list, str_eq]; simp [h2]
        clear h1 h2 hq
        go_enter Try.func69, Try.ntmps69
        go_wp2_with (go_at_call 84; ((with_reducible refine (chars_any _ _ hs true HC.out).mono ?_); rintro e w' ⟨rfl, rfl⟩))
        go_ret
        exact ⟨rfl, rfl⟩
end Go.Proofs.Ytiaahjoldahlnaa
