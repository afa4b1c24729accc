/- For every two integers CodecSizes returns true: Size is the number of bytes of PutInt, 0 exactly if there is no encoding, and greater numbers do not have smaller sizes. No condition. -/
import Derived.Test.YtpkggijjjpefbaaOpen
namespace Go.Proofs.Ytpkggijjjpefbaa
open Go.ChangeShapes Go.WideShapes Go.ChangeAt Go.RowKit


set_option maxHeartbeats 2000000 in
theorem sizes_bl_b (n m : Int) (ha : n < 0 ∨ 1099511627776 < n) (hb : m < 0 ∨ 1099511627776 < m) (hlo : n < 0) (w : World) : Calls Try.prog 8 #[.int .i64 n, .int .i64 m] w fun e w' => e = .returned (.bool true) ∧ Below w.heap.size w w' := by
  have Ha := Lib.hid ha
  have Hb := Lib.hid hb
  clear ha hb
  have B0 := Below.refl w.heap.size w
  go_enter Try.func8, Try.ntmps8
  go_wp2_with fail
  ((with_reducible refine (putInt_bad n Ha.out _).mono ?_); rintro e w1 ⟨rfl, hb1⟩)
  have B1 := B0.trans (hb1.mono B0.size)
  clear hb1
  go_wp2_with fail
  ((with_reducible refine (putInt_bad m Hb.out _).mono ?_); rintro e w2 ⟨rfl, hb2⟩)
  have B2 := B1.trans (hb2.mono B1.size)
  clear hb2
  go_wp2_with fail
  ((with_reducible refine (size_bad n Ha.out _).mono ?_); rintro e w3 ⟨rfl, hb3⟩)
  have B3 := B2.trans (hb3.mono B2.size)
  clear hb3
  go_wp2_with fail
  ((with_reducible refine (size_bad m Hb.out _).mono ?_); rintro e w4 ⟨rfl, hb4⟩)
  have B4 := B3.trans (hb4.mono B3.size)
  clear hb4
  go_wp2_with fail
  ((with_reducible refine (awake_any _).mono ?_); rintro e w5 ⟨rfl, hb5⟩)
  have B5 := B4.trans (hb5.mono B4.size)
  clear hb5
  go_wp2
  go_ret
  exact ⟨rfl, B5⟩

set_option maxHeartbeats 2000000 in
theorem sizes_bh_b (n m : Int) (ha : n < 0 ∨ 1099511627776 < n) (hb : m < 0 ∨ 1099511627776 < m) (hlo : 0 ≤ n) (hhi : 1099511627776 < n) (w : World) : Calls Try.prog 8 #[.int .i64 n, .int .i64 m] w fun e w' => e = .returned (.bool true) ∧ Below w.heap.size w w' := by
  have Ha := Lib.hid ha
  have Hb := Lib.hid hb
  clear ha hb
  have B0 := Below.refl w.heap.size w
  go_enter Try.func8, Try.ntmps8
  go_wp2_with fail
  ((with_reducible refine (putInt_bad n Ha.out _).mono ?_); rintro e w1 ⟨rfl, hb1⟩)
  have B1 := B0.trans (hb1.mono B0.size)
  clear hb1
  go_wp2_with fail
  ((with_reducible refine (putInt_bad m Hb.out _).mono ?_); rintro e w2 ⟨rfl, hb2⟩)
  have B2 := B1.trans (hb2.mono B1.size)
  clear hb2
  go_wp2_with fail
  ((with_reducible refine (size_bad n Ha.out _).mono ?_); rintro e w3 ⟨rfl, hb3⟩)
  have B3 := B2.trans (hb3.mono B2.size)
  clear hb3
  go_wp2_with fail
  ((with_reducible refine (size_bad m Hb.out _).mono ?_); rintro e w4 ⟨rfl, hb4⟩)
  have B4 := B3.trans (hb4.mono B3.size)
  clear hb4
  go_wp2_with fail
  ((with_reducible refine (awake_any _).mono ?_); rintro e w5 ⟨rfl, hb5⟩)
  have B5 := B4.trans (hb5.mono B4.size)
  clear hb5
  go_wp2
  go_ret
  exact ⟨rfl, B5⟩

set_option maxHeartbeats 2000000 in
theorem sizes_bl_g (n m : Int) (ha : n < 0 ∨ 1099511627776 < n) (b : Nat) (hb : m = b) (hmb : b ≤ 1099511627776) (hlo : n < 0) (w : World) : Calls Try.prog 8 #[.int .i64 n, .int .i64 m] w fun e w' => e = .returned (.bool true) ∧ Below w.heap.size w w' := by
  have z2 := strN_size (enc7 b)
  have l2 := enc7_pos b
  have g2 := (enc7_len b 6 (by omega)).2 (by omega)
  have p4 : (strN (enc7 b)).size ≤ 6 := by omega
  have q3 : (((enc7 b).length : Int) == ((strN (enc7 b)).size : Int)) = true := by simp [z2]
  have q4 : (((enc7 b).length : Int) != ((strN (enc7 b)).size : Int)) = false := by simp [z2]
  have Ha := Lib.hid ha
  have Hb := Lib.hid hb
  clear ha hb z2 l2 g2
  have B0 := Below.refl w.heap.size w
  go_enter Try.func8, Try.ntmps8
  go_wp2_with fail
  ((with_reducible refine (putInt_bad n Ha.out _).mono ?_); rintro e w1 ⟨rfl, hb1⟩)
  have B1 := B0.trans (hb1.mono B0.size)
  clear hb1
  go_wp2_with fail
  ((with_reducible refine (putInt_good m b Hb.out hmb _).mono ?_); rintro e w2 ⟨rfl, hb2⟩)
  have B2 := B1.trans (hb2.mono B1.size)
  clear hb2
  go_wp2_with fail
  ((with_reducible refine (size_bad n Ha.out _).mono ?_); rintro e w3 ⟨rfl, hb3⟩)
  have B3 := B2.trans (hb3.mono B2.size)
  clear hb3
  go_wp2_with fail
  ((with_reducible refine (size_good m b Hb.out hmb _).mono ?_); rintro e w4 ⟨rfl, hb4⟩)
  have B4 := B3.trans (hb4.mono B3.size)
  clear hb4
  go_wp2_with fail
  ((with_reducible refine (awake_any _).mono ?_); rintro e w5 ⟨rfl, hb5⟩)
  have B5 := B4.trans (hb5.mono B4.size)
  clear hb5
  go_wp2
  go_ret
  exact ⟨rfl, B5⟩

set_option maxHeartbeats 2000000 in
theorem sizes_bh_g (n m : Int) (ha : n < 0 ∨ 1099511627776 < n) (b : Nat) (hb : m = b) (hmb : b ≤ 1099511627776) (hlo : 0 ≤ n) (hhi : 1099511627776 < n) (w : World) : Calls Try.prog 8 #[.int .i64 n, .int .i64 m] w fun e w' => e = .returned (.bool true) ∧ Below w.heap.size w w' := by
  have z2 := strN_size (enc7 b)
  have l2 := enc7_pos b
  have g2 := (enc7_len b 6 (by omega)).2 (by omega)
  have p4 : (strN (enc7 b)).size ≤ 6 := by omega
  have q3 : (((enc7 b).length : Int) == ((strN (enc7 b)).size : Int)) = true := by simp [z2]
  have q4 : (((enc7 b).length : Int) != ((strN (enc7 b)).size : Int)) = false := by simp [z2]
  have Ha := Lib.hid ha
  have Hb := Lib.hid hb
  clear ha hb z2 l2 g2
  have B0 := Below.refl w.heap.size w
  go_enter Try.func8, Try.ntmps8
  go_wp2_with fail
  ((with_reducible refine (putInt_bad n Ha.out _).mono ?_); rintro e w1 ⟨rfl, hb1⟩)
  have B1 := B0.trans (hb1.mono B0.size)
  clear hb1
  go_wp2_with fail
  ((with_reducible refine (putInt_good m b Hb.out hmb _).mono ?_); rintro e w2 ⟨rfl, hb2⟩)
  have B2 := B1.trans (hb2.mono B1.size)
  clear hb2
  go_wp2_with fail
  ((with_reducible refine (size_bad n Ha.out _).mono ?_); rintro e w3 ⟨rfl, hb3⟩)
  have B3 := B2.trans (hb3.mono B2.size)
  clear hb3
  go_wp2_with fail
  ((with_reducible refine (size_good m b Hb.out hmb _).mono ?_); rintro e w4 ⟨rfl, hb4⟩)
  have B4 := B3.trans (hb4.mono B3.size)
  clear hb4
  go_wp2_with fail
  ((with_reducible refine (awake_any _).mono ?_); rintro e w5 ⟨rfl, hb5⟩)
  have B5 := B4.trans (hb5.mono B4.size)
  clear hb5
  go_wp2
  go_ret
  exact ⟨rfl, B5⟩

set_option maxHeartbeats 2000000 in
theorem sizes_g_b (n m : Int) (a : Nat) (ha : n = a) (hma : a ≤ 1099511627776) (hb : m < 0 ∨ 1099511627776 < m) (w : World) : Calls Try.prog 8 #[.int .i64 n, .int .i64 m] w fun e w' => e = .returned (.bool true) ∧ Below w.heap.size w w' := by
  have z1 := strN_size (enc7 a)
  have l1 := enc7_pos a
  have g1 := (enc7_len a 6 (by omega)).2 (by omega)
  have p1 : 0 < (strN (enc7 a)).size := by omega
  have p2 : (strN (enc7 a)).size ≤ 6 := by omega
  have q1 : (((enc7 a).length : Int) == ((strN (enc7 a)).size : Int)) = true := by simp [z1]
  have q2 : (((enc7 a).length : Int) != ((strN (enc7 a)).size : Int)) = false := by simp [z1]
  have r1 : (0 : Int) ≤ n := by omega
  have r2 : n ≤ 1099511627776 := by omega
  have Ha := Lib.hid ha
  have Hb := Lib.hid hb
  clear ha hb z1 l1 g1
  have B0 := Below.refl w.heap.size w
  go_enter Try.func8, Try.ntmps8
  go_wp2_with fail
  ((with_reducible refine (putInt_good n a Ha.out hma _).mono ?_); rintro e w1 ⟨rfl, hb1⟩)
  have B1 := B0.trans (hb1.mono B0.size)
  clear hb1
  go_wp2_with fail
  ((with_reducible refine (putInt_bad m Hb.out _).mono ?_); rintro e w2 ⟨rfl, hb2⟩)
  have B2 := B1.trans (hb2.mono B1.size)
  clear hb2
  go_wp2_with fail
  ((with_reducible refine (size_good n a Ha.out hma _).mono ?_); rintro e w3 ⟨rfl, hb3⟩)
  have B3 := B2.trans (hb3.mono B2.size)
  clear hb3
  go_wp2_with fail
  ((with_reducible refine (size_bad m Hb.out _).mono ?_); rintro e w4 ⟨rfl, hb4⟩)
  have B4 := B3.trans (hb4.mono B3.size)
  clear hb4
  go_wp2_with fail
  ((with_reducible refine (awake_any _).mono ?_); rintro e w5 ⟨rfl, hb5⟩)
  have B5 := B4.trans (hb5.mono B4.size)
  clear hb5
  go_wp2
  go_ret
  exact ⟨rfl, B5⟩

set_option maxHeartbeats 2000000 in
theorem sizes_g_gt (n m : Int) (a : Nat) (ha : n = a) (hma : a ≤ 1099511627776) (b : Nat) (hb : m = b) (hmb : b ≤ 1099511627776) (hnm : m < n) (w : World) : Calls Try.prog 8 #[.int .i64 n, .int .i64 m] w fun e w' => e = .returned (.bool true) ∧ Below w.heap.size w w' := by
  have z1 := strN_size (enc7 a)
  have l1 := enc7_pos a
  have g1 := (enc7_len a 6 (by omega)).2 (by omega)
  have p1 : 0 < (strN (enc7 a)).size := by omega
  have p2 : (strN (enc7 a)).size ≤ 6 := by omega
  have q1 : (((enc7 a).length : Int) == ((strN (enc7 a)).size : Int)) = true := by simp [z1]
  have q2 : (((enc7 a).length : Int) != ((strN (enc7 a)).size : Int)) = false := by simp [z1]
  have r1 : (0 : Int) ≤ n := by omega
  have r2 : n ≤ 1099511627776 := by omega
  have z2 := strN_size (enc7 b)
  have l2 := enc7_pos b
  have g2 := (enc7_len b 6 (by omega)).2 (by omega)
  have p4 : (strN (enc7 b)).size ≤ 6 := by omega
  have q3 : (((enc7 b).length : Int) == ((strN (enc7 b)).size : Int)) = true := by simp [z2]
  have q4 : (((enc7 b).length : Int) != ((strN (enc7 b)).size : Int)) = false := by simp [z2]
  have Ha := Lib.hid ha
  have Hb := Lib.hid hb
  clear ha hb z1 l1 g1 z2 l2 g2
  have B0 := Below.refl w.heap.size w
  go_enter Try.func8, Try.ntmps8
  go_wp2_with fail
  ((with_reducible refine (putInt_good n a Ha.out hma _).mono ?_); rintro e w1 ⟨rfl, hb1⟩)
  have B1 := B0.trans (hb1.mono B0.size)
  clear hb1
  go_wp2_with fail
  ((with_reducible refine (putInt_good m b Hb.out hmb _).mono ?_); rintro e w2 ⟨rfl, hb2⟩)
  have B2 := B1.trans (hb2.mono B1.size)
  clear hb2
  go_wp2_with fail
  ((with_reducible refine (size_good n a Ha.out hma _).mono ?_); rintro e w3 ⟨rfl, hb3⟩)
  have B3 := B2.trans (hb3.mono B2.size)
  clear hb3
  go_wp2_with fail
  ((with_reducible refine (size_good m b Hb.out hmb _).mono ?_); rintro e w4 ⟨rfl, hb4⟩)
  have B4 := B3.trans (hb4.mono B3.size)
  clear hb4
  go_wp2_with fail
  ((with_reducible refine (awake_any _).mono ?_); rintro e w5 ⟨rfl, hb5⟩)
  have B5 := B4.trans (hb5.mono B4.size)
  clear hb5
  go_wp2
  go_ret
  exact ⟨rfl, B5⟩

set_option maxHeartbeats 2000000 in
theorem sizes_g_le (n m : Int) (a : Nat) (ha : n = a) (hma : a ≤ 1099511627776) (b : Nat) (hb : m = b) (hmb : b ≤ 1099511627776) (hnm : n ≤ m) (w : World) : Calls Try.prog 8 #[.int .i64 n, .int .i64 m] w fun e w' => e = .returned (.bool true) ∧ Below w.heap.size w w' := by
  have z1 := strN_size (enc7 a)
  have l1 := enc7_pos a
  have g1 := (enc7_len a 6 (by omega)).2 (by omega)
  have p1 : 0 < (strN (enc7 a)).size := by omega
  have p2 : (strN (enc7 a)).size ≤ 6 := by omega
  have q1 : (((enc7 a).length : Int) == ((strN (enc7 a)).size : Int)) = true := by simp [z1]
  have q2 : (((enc7 a).length : Int) != ((strN (enc7 a)).size : Int)) = false := by simp [z1]
  have r1 : (0 : Int) ≤ n := by omega
  have r2 : n ≤ 1099511627776 := by omega
  have z2 := strN_size (enc7 b)
  have l2 := enc7_pos b
  have g2 := (enc7_len b 6 (by omega)).2 (by omega)
  have p4 : (strN (enc7 b)).size ≤ 6 := by omega
  have q3 : (((enc7 b).length : Int) == ((strN (enc7 b)).size : Int)) = true := by simp [z2]
  have q4 : (((enc7 b).length : Int) != ((strN (enc7 b)).size : Int)) = false := by simp [z2]
  have le := enc7_mono a b (by omega)
  have le2 : (strN (enc7 a)).size ≤ (strN (enc7 b)).size := by omega
  clear le
  have Ha := Lib.hid ha
  have Hb := Lib.hid hb
  clear ha hb z1 l1 g1 z2 l2 g2
  have B0 := Below.refl w.heap.size w
  go_enter Try.func8, Try.ntmps8
  go_wp2_with fail
  ((with_reducible refine (putInt_good n a Ha.out hma _).mono ?_); rintro e w1 ⟨rfl, hb1⟩)
  have B1 := B0.trans (hb1.mono B0.size)
  clear hb1
  go_wp2_with fail
  ((with_reducible refine (putInt_good m b Hb.out hmb _).mono ?_); rintro e w2 ⟨rfl, hb2⟩)
  have B2 := B1.trans (hb2.mono B1.size)
  clear hb2
  go_wp2_with fail
  ((with_reducible refine (size_good n a Ha.out hma _).mono ?_); rintro e w3 ⟨rfl, hb3⟩)
  have B3 := B2.trans (hb3.mono B2.size)
  clear hb3
  go_wp2_with fail
  ((with_reducible refine (size_good m b Hb.out hmb _).mono ?_); rintro e w4 ⟨rfl, hb4⟩)
  have B4 := B3.trans (hb4.mono B3.size)
  clear hb4
  go_wp2_with fail
  ((with_reducible refine (awake_any _).mono ?_); rintro e w5 ⟨rfl, hb5⟩)
  have B5 := B4.trans (hb5.mono B4.size)
  clear hb5
  go_wp2
  go_ret
  exact ⟨rfl, B5⟩

theorem sizes_any (n m : Int) (w : World) : Calls Try.prog 8 #[.int .i64 n, .int .i64 m] w fun e w' => e = .returned (.bool true) ∧ Below w.heap.size w w' := by
  by_cases h1 : n < 0 ∨ 1099511627776 < n
  · by_cases h2 : m < 0 ∨ 1099511627776 < m
    · by_cases h3 : n < 0
      · exact sizes_bl_b n m h1 h2 h3 w
      · exact sizes_bh_b n m h1 h2 (by omega) (by omega) w
    · by_cases h3 : n < 0
      · exact sizes_bl_g n m h1 m.toNat (by omega) (by omega) h3 w
      · exact sizes_bh_g n m h1 m.toNat (by omega) (by omega) (by omega) (by omega) w
  · by_cases h2 : m < 0 ∨ 1099511627776 < m
    · exact sizes_g_b n m n.toNat (by omega) (by omega) h2 w
    · by_cases h3 : m < n
      · exact sizes_g_gt n m n.toNat (by omega) (by omega) m.toNat (by omega) (by omega) h3 w
      · exact sizes_g_le n m n.toNat (by omega) (by omega) m.toNat (by omega) (by omega) (by omega) w

set_option maxRecDepth 100000 in
theorem sizes_lifted (os : Os) (started : os.Started) (H : Type) (enc : TypeId × Value → H) :
    ReturnsInHanded {} Try.checked os 8 .any (Rows.codecSizesSpec.pre6 enc Try.prog Try.f8 Rows.codecSizesRow.domain false) (Rows.codecSizesSpec.post enc Try.prog Try.f8 false true false false) := by
  refine returnsInHanded_of_change (C := Try.checked) ownK started (by kernel_rfl) Try.func8
    (ChangeSpec.witness6 (enc := enc) (C := Try.checked) false ⟨#[], #[.int .i64 0, .int .i64 0], []⟩ 8 (by kernel_rfl) (by kernel_rfl) (by kernel_rfl) (by kernel_rfl)) ?_
  intro W base args ds gs before hval0 hW hcnd _
  have hval : ∀ (j : Nat) t v, Try.f8.params[j]? = some t → args[j]? = some v → Value.okWide Try.prog W .any base t v := hval0
  have hW' := hW
  obtain ⟨p, q, hA0, hV, rfl, hfz, hnd⟩ := hW
  have hA : DataW.TrodAll enc Try.prog W 0 (fun _ => true) true Try.f8.params.toList args.toList ds p := hA0
  rw [Try.params8] at hA hval
  obtain ⟨v0, v1, d0, d1, p0, p1, rfl, rfl, rfl, h0, h1⟩ := trodAll_two hA
  obtain ⟨rfl, rfl⟩ := trodVars_none hV
  obtain ⟨z1, rfl, rfl, rfl, w1⟩ := open_int Try.underlying3 (hval 0 3 v0 rfl rfl) h0
  obtain ⟨z2, rfl, rfl, rfl, w2⟩ := open_int Try.underlying3 (hval 1 3 v1 rfl rfl) h1
  clear hA0 hval0
  refine (sizes_any z1 z2 W).mono fun e W' ⟨he, bel⟩ => ?_
  subst he
  exact ⟨_, rfl, _, _, _, [], _, [], hW', trodAll_mk1 (shut_bool Try.underlying4 _), (trodAll_cons_mk (shut_int Try.underlying3 w1) (trodAll_cons_mk (shut_int Try.underlying3 w2) trodAll_mk0)), rfl, bel.frame _, fun h => by cases h⟩

theorem sizes_holds : Rows.CodecSizesSaid :=
  OpenClaim.holds_of_wide 8 Try.f8 rfl rfl rfl rfl rfl rfl rfl ⟨rfl, rfl, rfl, rfl, rfl⟩ rfl rfl rfl rfl rfl (by kernel_rfl) Try.func8 (by kernel_rfl)
    (of_decide_eq_true (by kernel_rfl)) (by unfold Func.isWrapper; rw [if_neg (of_decide_eq_false (by kernel_rfl))]; exact ⟨rfl, rfl⟩)
    (fun os started H enc _ => sizes_lifted os started H enc)
#print axioms sizes_holds
end Go.Proofs.Ytpkggijjjpefbaa
