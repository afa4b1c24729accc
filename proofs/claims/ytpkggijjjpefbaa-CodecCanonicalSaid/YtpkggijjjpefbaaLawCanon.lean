/- For every string CodecCanonical returns true and leaves it as it was: what can be got has exactly the encoding that was read. No condition. -/
import Derived.Test.YtpkggijjjpefbaaLawLists
import Derived.Test.YtpkggijjjpefbaaBack
namespace Go.Proofs.Ytpkggijjjpefbaa
open Go.ChangeShapes Go.WideShapes Go.ChangeAt Go.RowKit
open Go.ChangeMaps (open_string shut_string)

theorem eq_extract {s : ByteArray} {n : Nat} {l : List Nat} (h : nats (s.extract 0 n) = l) : strN l = s.extract 0 n := by rw [← h, strN_nats]

set_option maxHeartbeats 1000000 in
theorem canon_long (s : ByteArray) (h : 300 < s.size) (hm : s.size ≤ maxLen) (w : World) : Calls Try.prog 7 #[.string s] w fun e w' => e = .returned (.bool true) ∧ Below w.heap.size w w' := by
  unfold maxLen at hm
  have hp : (300 : Int) < s.size := by omega
  go_enter Try.func7, Try.ntmps7
  go_wp2_with fail
  ((with_reducible refine (awake_any _).mono ?_); rintro e w1 ⟨rfl, hb1⟩)
  go_wp2
  go_ret
  exact ⟨rfl, hb1⟩

set_option maxHeartbeats 4000000 in
theorem canon_ggg (s : ByteArray) (h : s.size ≤ 300) (x k : Nat) (hi : getL 12 13 6 0 0 (nats s) = (x, k, 0)) (u : ByteArray) (n : Nat) (ht : getT s = (u, n, 0)) (R : List ByteArray) (m : Nat) (hl : getTs s = (R, m, 0)) (w : World) : Calls Try.prog 7 #[.string s] w fun e w' => e = .returned (.bool true) ∧ Below w.heap.size w w' := by
  have hp : ¬ (300 : Int) < s.size := by omega
  have HM := Lib.hid (show s.size ≤ maxLen by unfold maxLen; omega)
  obtain ⟨f1, f2, f3, f4, f5, f6⟩ := getL_fits s x k hi
  have f7 : strN (enc7 x) = s.extract 0 k := eq_extract (by rw [nats_extract, List.drop_zero]; obtain ⟨r, hr⟩ := f6; rw [← hr, ← f5]; simp)
  have HI := Lib.hid hi
  have F7 := Lib.hid f7
  clear hi f5 f6 f7
  obtain ⟨g1, g2, g3, g4, g5⟩ := canon_T s u n ht
  have g7 := eq_extract g1
  have HT := Lib.hid ht
  have G7 := Lib.hid g7
  clear ht g1 g7
  obtain ⟨l1, l2, l3, l4, l5⟩ := canon_Ts s R m hl
  have l7 := eq_extract l1
  have HL := Lib.hid hl
  have L7 := Lib.hid l7
  have L5 := Lib.hid l5
  clear hl l1 l5 l7
  have B0 := Below.refl w.heap.size w
  go_enter Try.func7, Try.ntmps7
  go_wp2_with fail
  ((with_reducible refine (getInt_any s x k _ HI.out _).mono ?_); rintro e w1 ⟨rfl, hb1⟩)
  have B1 := B0.trans (hb1.mono B0.size)
  clear hb1
  go_wp2_with fail
  ((with_reducible refine (putInt_good _ x rfl f4 _).mono ?_); rintro e w2 ⟨he, hb2⟩)
  rw [F7.out] at he
  subst he
  have B2 := B1.trans (hb2.mono B1.size)
  clear hb2
  go_wp2_with fail
  ((with_reducible refine (getText_any s HM.out u n _ HT.out _).mono ?_); rintro e w3 ⟨rfl, hb3⟩)
  have B3 := B2.trans (hb3.mono B2.size)
  clear hb3
  go_wp2_with fail
  ((with_reducible refine (putText_good u g4 _).mono ?_); rintro e w4 ⟨he, hb4⟩)
  rw [G7.out] at he
  subst he
  have B4 := B3.trans (hb4.mono B3.size)
  clear hb4
  go_wp2_with fail
  ((with_reducible refine (getTexts_any s HM.out R m _ HL.out _).mono ?_); rintro e w5 ⟨v', rfl, hv', hb5⟩)
  have HV := Lib.hid hv'
  clear hv'
  have B5 := B4.trans (hb5.mono B4.size)
  clear hb5
  go_wp2_with fail
  ((with_reducible refine (putTexts_good R l4 L5.out v' _ HV.out).mono ?_); rintro e w6 ⟨he, hb6⟩)
  rw [L7.out] at he
  subst he
  have B6 := B5.trans (hb6.mono B5.size)
  clear hb6
  go_wp2_with fail
  ((with_reducible refine (awake_any _).mono ?_); rintro e w7 ⟨rfl, hb7⟩)
  have B7 := B6.trans (hb7.mono B6.size)
  clear hb7
  go_wp2
  go_ret
  exact ⟨rfl, B7⟩

set_option maxHeartbeats 4000000 in
theorem canon_ggb (s : ByteArray) (h : s.size ≤ 300) (x k : Nat) (hi : getL 12 13 6 0 0 (nats s) = (x, k, 0)) (u : ByteArray) (n : Nat) (ht : getT s = (u, n, 0)) (R : List ByteArray) (m : Nat) (e3 : Int) (hl : getTs s = (R, m, e3)) (he3 : e3 ≠ 0) (w : World) : Calls Try.prog 7 #[.string s] w fun e w' => e = .returned (.bool true) ∧ Below w.heap.size w w' := by
  have hp : ¬ (300 : Int) < s.size := by omega
  have HM := Lib.hid (show s.size ≤ maxLen by unfold maxLen; omega)
  obtain ⟨f1, f2, f3, f4, f5, f6⟩ := getL_fits s x k hi
  have f7 : strN (enc7 x) = s.extract 0 k := eq_extract (by rw [nats_extract, List.drop_zero]; obtain ⟨r, hr⟩ := f6; rw [← hr, ← f5]; simp)
  have HI := Lib.hid hi
  have F7 := Lib.hid f7
  clear hi f5 f6 f7
  obtain ⟨g1, g2, g3, g4, g5⟩ := canon_T s u n ht
  have g7 := eq_extract g1
  have HT := Lib.hid ht
  have G7 := Lib.hid g7
  clear ht g1 g7
  have a3 : (e3 == 0) = false := by simpa using he3
  have HL := Lib.hid hl
  clear hl he3
  have B0 := Below.refl w.heap.size w
  go_enter Try.func7, Try.ntmps7
  go_wp2_with fail
  ((with_reducible refine (getInt_any s x k _ HI.out _).mono ?_); rintro e w1 ⟨rfl, hb1⟩)
  have B1 := B0.trans (hb1.mono B0.size)
  clear hb1
  go_wp2_with fail
  ((with_reducible refine (putInt_good _ x rfl f4 _).mono ?_); rintro e w2 ⟨he, hb2⟩)
  rw [F7.out] at he
  subst he
  have B2 := B1.trans (hb2.mono B1.size)
  clear hb2
  go_wp2_with fail
  ((with_reducible refine (getText_any s HM.out u n _ HT.out _).mono ?_); rintro e w3 ⟨rfl, hb3⟩)
  have B3 := B2.trans (hb3.mono B2.size)
  clear hb3
  go_wp2_with fail
  ((with_reducible refine (putText_good u g4 _).mono ?_); rintro e w4 ⟨he, hb4⟩)
  rw [G7.out] at he
  subst he
  have B4 := B3.trans (hb4.mono B3.size)
  clear hb4
  go_wp2_with fail
  ((with_reducible refine (getTexts_any s HM.out R m _ HL.out _).mono ?_); rintro e w5 ⟨v', rfl, hv', hb5⟩)
  have HV := Lib.hid hv'
  clear hv'
  have B5 := B4.trans (hb5.mono B4.size)
  clear hb5
  go_wp2_with fail
  ((with_reducible refine (awake_any _).mono ?_); rintro e w6 ⟨rfl, hb6⟩)
  have B6 := B5.trans (hb6.mono B5.size)
  clear hb6
  go_wp2
  go_ret
  exact ⟨rfl, B6⟩

set_option maxHeartbeats 4000000 in
theorem canon_gbg (s : ByteArray) (h : s.size ≤ 300) (x k : Nat) (hi : getL 12 13 6 0 0 (nats s) = (x, k, 0)) (u : ByteArray) (n : Nat) (e2 : Int) (ht : getT s = (u, n, e2)) (he2 : e2 ≠ 0) (R : List ByteArray) (m : Nat) (hl : getTs s = (R, m, 0)) (w : World) : Calls Try.prog 7 #[.string s] w fun e w' => e = .returned (.bool true) ∧ Below w.heap.size w w' := by
  have hp : ¬ (300 : Int) < s.size := by omega
  have HM := Lib.hid (show s.size ≤ maxLen by unfold maxLen; omega)
  obtain ⟨f1, f2, f3, f4, f5, f6⟩ := getL_fits s x k hi
  have f7 : strN (enc7 x) = s.extract 0 k := eq_extract (by rw [nats_extract, List.drop_zero]; obtain ⟨r, hr⟩ := f6; rw [← hr, ← f5]; simp)
  have HI := Lib.hid hi
  have F7 := Lib.hid f7
  clear hi f5 f6 f7
  have a2 : (e2 == 0) = false := by simpa using he2
  have HT := Lib.hid ht
  clear ht he2
  obtain ⟨l1, l2, l3, l4, l5⟩ := canon_Ts s R m hl
  have l7 := eq_extract l1
  have HL := Lib.hid hl
  have L7 := Lib.hid l7
  have L5 := Lib.hid l5
  clear hl l1 l5 l7
  have B0 := Below.refl w.heap.size w
  go_enter Try.func7, Try.ntmps7
  go_wp2_with fail
  ((with_reducible refine (getInt_any s x k _ HI.out _).mono ?_); rintro e w1 ⟨rfl, hb1⟩)
  have B1 := B0.trans (hb1.mono B0.size)
  clear hb1
  go_wp2_with fail
  ((with_reducible refine (putInt_good _ x rfl f4 _).mono ?_); rintro e w2 ⟨he, hb2⟩)
  rw [F7.out] at he
  subst he
  have B2 := B1.trans (hb2.mono B1.size)
  clear hb2
  go_wp2_with fail
  ((with_reducible refine (getText_any s HM.out u n _ HT.out _).mono ?_); rintro e w3 ⟨rfl, hb3⟩)
  have B3 := B2.trans (hb3.mono B2.size)
  clear hb3
  go_wp2_with fail
  ((with_reducible refine (getTexts_any s HM.out R m _ HL.out _).mono ?_); rintro e w4 ⟨v', rfl, hv', hb4⟩)
  have HV := Lib.hid hv'
  clear hv'
  have B4 := B3.trans (hb4.mono B3.size)
  clear hb4
  go_wp2_with fail
  ((with_reducible refine (putTexts_good R l4 L5.out v' _ HV.out).mono ?_); rintro e w5 ⟨he, hb5⟩)
  rw [L7.out] at he
  subst he
  have B5 := B4.trans (hb5.mono B4.size)
  clear hb5
  go_wp2_with fail
  ((with_reducible refine (awake_any _).mono ?_); rintro e w6 ⟨rfl, hb6⟩)
  have B6 := B5.trans (hb6.mono B5.size)
  clear hb6
  go_wp2
  go_ret
  exact ⟨rfl, B6⟩

set_option maxHeartbeats 4000000 in
theorem canon_gbb (s : ByteArray) (h : s.size ≤ 300) (x k : Nat) (hi : getL 12 13 6 0 0 (nats s) = (x, k, 0)) (u : ByteArray) (n : Nat) (e2 : Int) (ht : getT s = (u, n, e2)) (he2 : e2 ≠ 0) (R : List ByteArray) (m : Nat) (e3 : Int) (hl : getTs s = (R, m, e3)) (he3 : e3 ≠ 0) (w : World) : Calls Try.prog 7 #[.string s] w fun e w' => e = .returned (.bool true) ∧ Below w.heap.size w w' := by
  have hp : ¬ (300 : Int) < s.size := by omega
  have HM := Lib.hid (show s.size ≤ maxLen by unfold maxLen; omega)
  obtain ⟨f1, f2, f3, f4, f5, f6⟩ := getL_fits s x k hi
  have f7 : strN (enc7 x) = s.extract 0 k := eq_extract (by rw [nats_extract, List.drop_zero]; obtain ⟨r, hr⟩ := f6; rw [← hr, ← f5]; simp)
  have HI := Lib.hid hi
  have F7 := Lib.hid f7
  clear hi f5 f6 f7
  have a2 : (e2 == 0) = false := by simpa using he2
  have HT := Lib.hid ht
  clear ht he2
  have a3 : (e3 == 0) = false := by simpa using he3
  have HL := Lib.hid hl
  clear hl he3
  have B0 := Below.refl w.heap.size w
  go_enter Try.func7, Try.ntmps7
  go_wp2_with fail
  ((with_reducible refine (getInt_any s x k _ HI.out _).mono ?_); rintro e w1 ⟨rfl, hb1⟩)
  have B1 := B0.trans (hb1.mono B0.size)
  clear hb1
  go_wp2_with fail
  ((with_reducible refine (putInt_good _ x rfl f4 _).mono ?_); rintro e w2 ⟨he, hb2⟩)
  rw [F7.out] at he
  subst he
  have B2 := B1.trans (hb2.mono B1.size)
  clear hb2
  go_wp2_with fail
  ((with_reducible refine (getText_any s HM.out u n _ HT.out _).mono ?_); rintro e w3 ⟨rfl, hb3⟩)
  have B3 := B2.trans (hb3.mono B2.size)
  clear hb3
  go_wp2_with fail
  ((with_reducible refine (getTexts_any s HM.out R m _ HL.out _).mono ?_); rintro e w4 ⟨v', rfl, hv', hb4⟩)
  have HV := Lib.hid hv'
  clear hv'
  have B4 := B3.trans (hb4.mono B3.size)
  clear hb4
  go_wp2_with fail
  ((with_reducible refine (awake_any _).mono ?_); rintro e w5 ⟨rfl, hb5⟩)
  have B5 := B4.trans (hb5.mono B4.size)
  clear hb5
  go_wp2
  go_ret
  exact ⟨rfl, B5⟩

set_option maxHeartbeats 4000000 in
theorem canon_bgg (s : ByteArray) (h : s.size ≤ 300) (x k : Nat) (e1 : Int) (hi : getL 12 13 6 0 0 (nats s) = (x, k, e1)) (he1 : e1 ≠ 0) (u : ByteArray) (n : Nat) (ht : getT s = (u, n, 0)) (R : List ByteArray) (m : Nat) (hl : getTs s = (R, m, 0)) (w : World) : Calls Try.prog 7 #[.string s] w fun e w' => e = .returned (.bool true) ∧ Below w.heap.size w w' := by
  have hp : ¬ (300 : Int) < s.size := by omega
  have HM := Lib.hid (show s.size ≤ maxLen by unfold maxLen; omega)
  have a1 : (e1 == 0) = false := by simpa using he1
  have HI := Lib.hid hi
  clear hi he1
  obtain ⟨g1, g2, g3, g4, g5⟩ := canon_T s u n ht
  have g7 := eq_extract g1
  have HT := Lib.hid ht
  have G7 := Lib.hid g7
  clear ht g1 g7
  obtain ⟨l1, l2, l3, l4, l5⟩ := canon_Ts s R m hl
  have l7 := eq_extract l1
  have HL := Lib.hid hl
  have L7 := Lib.hid l7
  have L5 := Lib.hid l5
  clear hl l1 l5 l7
  have B0 := Below.refl w.heap.size w
  go_enter Try.func7, Try.ntmps7
  go_wp2_with fail
  ((with_reducible refine (getInt_any s x k _ HI.out _).mono ?_); rintro e w1 ⟨rfl, hb1⟩)
  have B1 := B0.trans (hb1.mono B0.size)
  clear hb1
  go_wp2_with fail
  ((with_reducible refine (getText_any s HM.out u n _ HT.out _).mono ?_); rintro e w2 ⟨rfl, hb2⟩)
  have B2 := B1.trans (hb2.mono B1.size)
  clear hb2
  go_wp2_with fail
  ((with_reducible refine (putText_good u g4 _).mono ?_); rintro e w3 ⟨he, hb3⟩)
  rw [G7.out] at he
  subst he
  have B3 := B2.trans (hb3.mono B2.size)
  clear hb3
  go_wp2_with fail
  ((with_reducible refine (getTexts_any s HM.out R m _ HL.out _).mono ?_); rintro e w4 ⟨v', rfl, hv', hb4⟩)
  have HV := Lib.hid hv'
  clear hv'
  have B4 := B3.trans (hb4.mono B3.size)
  clear hb4
  go_wp2_with fail
  ((with_reducible refine (putTexts_good R l4 L5.out v' _ HV.out).mono ?_); rintro e w5 ⟨he, hb5⟩)
  rw [L7.out] at he
  subst he
  have B5 := B4.trans (hb5.mono B4.size)
  clear hb5
  go_wp2_with fail
  ((with_reducible refine (awake_any _).mono ?_); rintro e w6 ⟨rfl, hb6⟩)
  have B6 := B5.trans (hb6.mono B5.size)
  clear hb6
  go_wp2
  go_ret
  exact ⟨rfl, B6⟩

set_option maxHeartbeats 4000000 in
theorem canon_bgb (s : ByteArray) (h : s.size ≤ 300) (x k : Nat) (e1 : Int) (hi : getL 12 13 6 0 0 (nats s) = (x, k, e1)) (he1 : e1 ≠ 0) (u : ByteArray) (n : Nat) (ht : getT s = (u, n, 0)) (R : List ByteArray) (m : Nat) (e3 : Int) (hl : getTs s = (R, m, e3)) (he3 : e3 ≠ 0) (w : World) : Calls Try.prog 7 #[.string s] w fun e w' => e = .returned (.bool true) ∧ Below w.heap.size w w' := by
  have hp : ¬ (300 : Int) < s.size := by omega
  have HM := Lib.hid (show s.size ≤ maxLen by unfold maxLen; omega)
  have a1 : (e1 == 0) = false := by simpa using he1
  have HI := Lib.hid hi
  clear hi he1
  obtain ⟨g1, g2, g3, g4, g5⟩ := canon_T s u n ht
  have g7 := eq_extract g1
  have HT := Lib.hid ht
  have G7 := Lib.hid g7
  clear ht g1 g7
  have a3 : (e3 == 0) = false := by simpa using he3
  have HL := Lib.hid hl
  clear hl he3
  have B0 := Below.refl w.heap.size w
  go_enter Try.func7, Try.ntmps7
  go_wp2_with fail
  ((with_reducible refine (getInt_any s x k _ HI.out _).mono ?_); rintro e w1 ⟨rfl, hb1⟩)
  have B1 := B0.trans (hb1.mono B0.size)
  clear hb1
  go_wp2_with fail
  ((with_reducible refine (getText_any s HM.out u n _ HT.out _).mono ?_); rintro e w2 ⟨rfl, hb2⟩)
  have B2 := B1.trans (hb2.mono B1.size)
  clear hb2
  go_wp2_with fail
  ((with_reducible refine (putText_good u g4 _).mono ?_); rintro e w3 ⟨he, hb3⟩)
  rw [G7.out] at he
  subst he
  have B3 := B2.trans (hb3.mono B2.size)
  clear hb3
  go_wp2_with fail
  ((with_reducible refine (getTexts_any s HM.out R m _ HL.out _).mono ?_); rintro e w4 ⟨v', rfl, hv', hb4⟩)
  have HV := Lib.hid hv'
  clear hv'
  have B4 := B3.trans (hb4.mono B3.size)
  clear hb4
  go_wp2_with fail
  ((with_reducible refine (awake_any _).mono ?_); rintro e w5 ⟨rfl, hb5⟩)
  have B5 := B4.trans (hb5.mono B4.size)
  clear hb5
  go_wp2
  go_ret
  exact ⟨rfl, B5⟩

set_option maxHeartbeats 4000000 in
theorem canon_bbg (s : ByteArray) (h : s.size ≤ 300) (x k : Nat) (e1 : Int) (hi : getL 12 13 6 0 0 (nats s) = (x, k, e1)) (he1 : e1 ≠ 0) (u : ByteArray) (n : Nat) (e2 : Int) (ht : getT s = (u, n, e2)) (he2 : e2 ≠ 0) (R : List ByteArray) (m : Nat) (hl : getTs s = (R, m, 0)) (w : World) : Calls Try.prog 7 #[.string s] w fun e w' => e = .returned (.bool true) ∧ Below w.heap.size w w' := by
  have hp : ¬ (300 : Int) < s.size := by omega
  have HM := Lib.hid (show s.size ≤ maxLen by unfold maxLen; omega)
  have a1 : (e1 == 0) = false := by simpa using he1
  have HI := Lib.hid hi
  clear hi he1
  have a2 : (e2 == 0) = false := by simpa using he2
  have HT := Lib.hid ht
  clear ht he2
  obtain ⟨l1, l2, l3, l4, l5⟩ := canon_Ts s R m hl
  have l7 := eq_extract l1
  have HL := Lib.hid hl
  have L7 := Lib.hid l7
  have L5 := Lib.hid l5
  clear hl l1 l5 l7
  have B0 := Below.refl w.heap.size w
  go_enter Try.func7, Try.ntmps7
  go_wp2_with fail
  ((with_reducible refine (getInt_any s x k _ HI.out _).mono ?_); rintro e w1 ⟨rfl, hb1⟩)
  have B1 := B0.trans (hb1.mono B0.size)
  clear hb1
  go_wp2_with fail
  ((with_reducible refine (getText_any s HM.out u n _ HT.out _).mono ?_); rintro e w2 ⟨rfl, hb2⟩)
  have B2 := B1.trans (hb2.mono B1.size)
  clear hb2
  go_wp2_with fail
  ((with_reducible refine (getTexts_any s HM.out R m _ HL.out _).mono ?_); rintro e w3 ⟨v', rfl, hv', hb3⟩)
  have HV := Lib.hid hv'
  clear hv'
  have B3 := B2.trans (hb3.mono B2.size)
  clear hb3
  go_wp2_with fail
  ((with_reducible refine (putTexts_good R l4 L5.out v' _ HV.out).mono ?_); rintro e w4 ⟨he, hb4⟩)
  rw [L7.out] at he
  subst he
  have B4 := B3.trans (hb4.mono B3.size)
  clear hb4
  go_wp2_with fail
  ((with_reducible refine (awake_any _).mono ?_); rintro e w5 ⟨rfl, hb5⟩)
  have B5 := B4.trans (hb5.mono B4.size)
  clear hb5
  go_wp2
  go_ret
  exact ⟨rfl, B5⟩

set_option maxHeartbeats 4000000 in
theorem canon_bbb (s : ByteArray) (h : s.size ≤ 300) (x k : Nat) (e1 : Int) (hi : getL 12 13 6 0 0 (nats s) = (x, k, e1)) (he1 : e1 ≠ 0) (u : ByteArray) (n : Nat) (e2 : Int) (ht : getT s = (u, n, e2)) (he2 : e2 ≠ 0) (R : List ByteArray) (m : Nat) (e3 : Int) (hl : getTs s = (R, m, e3)) (he3 : e3 ≠ 0) (w : World) : Calls Try.prog 7 #[.string s] w fun e w' => e = .returned (.bool true) ∧ Below w.heap.size w w' := by
  have hp : ¬ (300 : Int) < s.size := by omega
  have HM := Lib.hid (show s.size ≤ maxLen by unfold maxLen; omega)
  have a1 : (e1 == 0) = false := by simpa using he1
  have HI := Lib.hid hi
  clear hi he1
  have a2 : (e2 == 0) = false := by simpa using he2
  have HT := Lib.hid ht
  clear ht he2
  have a3 : (e3 == 0) = false := by simpa using he3
  have HL := Lib.hid hl
  clear hl he3
  have B0 := Below.refl w.heap.size w
  go_enter Try.func7, Try.ntmps7
  go_wp2_with fail
  ((with_reducible refine (getInt_any s x k _ HI.out _).mono ?_); rintro e w1 ⟨rfl, hb1⟩)
  have B1 := B0.trans (hb1.mono B0.size)
  clear hb1
  go_wp2_with fail
  ((with_reducible refine (getText_any s HM.out u n _ HT.out _).mono ?_); rintro e w2 ⟨rfl, hb2⟩)
  have B2 := B1.trans (hb2.mono B1.size)
  clear hb2
  go_wp2_with fail
  ((with_reducible refine (getTexts_any s HM.out R m _ HL.out _).mono ?_); rintro e w3 ⟨v', rfl, hv', hb3⟩)
  have HV := Lib.hid hv'
  clear hv'
  have B3 := B2.trans (hb3.mono B2.size)
  clear hb3
  go_wp2_with fail
  ((with_reducible refine (awake_any _).mono ?_); rintro e w4 ⟨rfl, hb4⟩)
  have B4 := B3.trans (hb4.mono B3.size)
  clear hb4
  go_wp2
  go_ret
  exact ⟨rfl, B4⟩

theorem canon_any (s : ByteArray) (hm : s.size ≤ maxLen) (w : World) : Calls Try.prog 7 #[.string s] w fun e w' => e = .returned (.bool true) ∧ Below w.heap.size w w' := by
  rcases Nat.lt_or_ge 300 s.size with h | h
  · exact canon_long s h hm w
  · rcases hi : getL 12 13 6 0 0 (nats s) with ⟨x, k, e1⟩
    rcases ht : getT s with ⟨u, n, e2⟩
    rcases hl : getTs s with ⟨R, m, e3⟩
    by_cases h1 : e1 = 0
    · subst h1
      by_cases h2 : e2 = 0
      · subst h2
        by_cases h3 : e3 = 0
        · subst h3; exact canon_ggg s h x k hi u n ht R m hl w
        · exact canon_ggb s h x k hi u n ht R m e3 hl h3 w
      · by_cases h3 : e3 = 0
        · subst h3; exact canon_gbg s h x k hi u n e2 ht h2 R m hl w
        · exact canon_gbb s h x k hi u n e2 ht h2 R m e3 hl h3 w
    · by_cases h2 : e2 = 0
      · subst h2
        by_cases h3 : e3 = 0
        · subst h3; exact canon_bgg s h x k e1 hi h1 u n ht R m hl w
        · exact canon_bgb s h x k e1 hi h1 u n ht R m e3 hl h3 w
      · by_cases h3 : e3 = 0
        · subst h3; exact canon_bbg s h x k e1 hi h1 u n e2 ht h2 R m hl w
        · exact canon_bbb s h x k e1 hi h1 u n e2 ht h2 R m e3 hl h3 w

set_option maxRecDepth 100000 in
theorem canon_lifted (os : Os) (started : os.Started) (H : Type) (enc : TypeId × Value → H) :
    ReturnsInHanded {} Try.checked os 7 .any (Rows.codecCanonicalSpec.pre6 enc Try.prog Try.f7 Rows.codecCanonicalRow.domain false) (Rows.codecCanonicalSpec.post enc Try.prog Try.f7 false true false false) := by
  refine returnsInHanded_of_change (C := Try.checked) ownK started (by kernel_rfl) Try.func7
    (ChangeSpec.witness6 (enc := enc) (C := Try.checked) false ⟨#[], #[.string ⟨#[]⟩], []⟩ 8 (by kernel_rfl) (by kernel_rfl) (by kernel_rfl) (by kernel_rfl)) ?_
  intro W base args ds gs before hval0 hW hcnd _
  have hval : ∀ (j : Nat) t v, Try.f7.params[j]? = some t → args[j]? = some v → Value.okWide Try.prog W .any base t v := hval0
  have hW' := hW
  obtain ⟨p, q, hA0, hV, rfl, hfz, hnd⟩ := hW
  have hA : DataW.TrodAll enc Try.prog W 0 (fun _ => true) true Try.f7.params.toList args.toList ds p := hA0
  rw [Try.params7] at hA hval
  obtain ⟨v0, d0, rfl, rfl, h0⟩ := trodAll_one hA
  obtain ⟨rfl, rfl⟩ := trodVars_none hV
  obtain ⟨s, rfl, rfl, rfl, w2⟩ := open_string Try.underlying9 (hval 0 9 v0 rfl rfl) h0
  clear hA0 hval0
  refine (canon_any s w2 W).mono fun e W' ⟨he, bel⟩ => ?_
  subst he
  exact ⟨_, rfl, _, _, _, [], _, [], hW', trodAll_mk1 (shut_bool Try.underlying4 _), (trodAll_cons_mk (shut_string Try.underlying9 w2) trodAll_mk0), rfl, bel.frame _, fun h => by cases h⟩

theorem canon_holds : Rows.CodecCanonicalSaid :=
  OpenClaim.holds_of_wide 7 Try.f7 rfl rfl rfl rfl rfl rfl rfl ⟨rfl, rfl, rfl, rfl, rfl⟩ rfl rfl rfl rfl rfl (by kernel_rfl) Try.func7 (by kernel_rfl)
    (of_decide_eq_true (by kernel_rfl)) (by unfold Func.isWrapper; rw [if_neg (of_decide_eq_false (by kernel_rfl))]; exact ⟨rfl, rfl⟩)
    (fun os started H enc _ => canon_lifted os started H enc)
#print axioms canon_holds
end Go.Proofs.Ytpkggijjjpefbaa
