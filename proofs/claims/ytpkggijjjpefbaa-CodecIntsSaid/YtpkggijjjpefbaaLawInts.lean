/- For every integer and every string CodecInts returns true and leaves its arguments as they were: Size, PutInt and GetInt return what the reference returns. No condition. -/
import Derived.Test.YtpkggijjjpefbaaOpen
import Derived.Test.YtpkggijjjpefbaaRefGet
namespace Go.Proofs.Ytpkggijjjpefbaa
open Go.ChangeShapes Go.WideShapes Go.ChangeAt Go.RowKit
open Go.ChangeMaps (open_string shut_string)

set_option maxHeartbeats 1000000 in
theorem ints_long (n : Int) (s : ByteArray) (h : 300 < s.size) (hm : s.size ≤ maxLen) (w : World) : Calls Try.prog 3 #[.int .i64 n, .string s] w fun e w' => e = .returned (.bool true) ∧ Below w.heap.size w w' := by
  unfold maxLen at hm
  have hp : (300 : Int) < s.size := by omega
  go_enter Try.func3, Try.ntmps3
  go_wp2_with fail
  ((with_reducible refine (awake_any _).mono ?_); rintro e w1 ⟨rfl, hb1⟩)
  go_wp2
  go_ret
  exact ⟨rfl, hb1⟩

set_option maxHeartbeats 2000000 in
theorem ints_good (n : Int) (a : Nat) (ha : n = a) (hm : a ≤ 1099511627776) (s : ByteArray) (h : s.size ≤ 300) (x k : Nat) (er : Int) (hg : getL 12 13 6 0 0 (nats s) = (x, k, er)) (w : World) : Calls Try.prog 3 #[.int .i64 n, .string s] w fun e w' => e = .returned (.bool true) ∧ Below w.heap.size w w' := by
  have hp : ¬ (300 : Int) < s.size := by omega
  have HG := Lib.hid hg
  clear hg
  have HA := Lib.hid ha
  clear ha
  have B0 := Below.refl w.heap.size w
  go_enter Try.func3, Try.ntmps3
  go_wp2_with fail
  ((with_reducible refine (putInt_good n a HA.out hm _).mono ?_); rintro e w1 ⟨rfl, hb1⟩)
  have B1 := B0.trans (hb1.mono B0.size)
  clear hb1
  go_wp2_with fail
  ((with_reducible refine (refPutInt_good n a HA.out hm _).mono ?_); rintro e w2 ⟨rfl, hb2⟩)
  have B2 := B1.trans (hb2.mono B1.size)
  clear hb2
  go_wp2_with fail
  ((with_reducible refine (getInt_any s x k er HG.out _).mono ?_); rintro e w3 ⟨rfl, hb3⟩)
  have B3 := B2.trans (hb3.mono B2.size)
  clear hb3
  go_wp2_with fail
  ((with_reducible refine (refGetInt_any s x k er HG.out _).mono ?_); rintro e w4 ⟨rfl, hb4⟩)
  have B4 := B3.trans (hb4.mono B3.size)
  clear hb4
  go_wp2_with fail
  ((with_reducible refine (size_good n a HA.out hm _).mono ?_); rintro e w5 ⟨rfl, hb5⟩)
  have B5 := B4.trans (hb5.mono B4.size)
  clear hb5
  go_wp2_with fail
  ((with_reducible refine (refSize_good n a HA.out hm _).mono ?_); rintro e w6 ⟨rfl, hb6⟩)
  have B6 := B5.trans (hb6.mono B5.size)
  clear hb6
  go_wp2_with fail
  ((with_reducible refine (awake_any _).mono ?_); rintro e w7 ⟨rfl, hb7⟩)
  have B7 := B6.trans (hb7.mono B6.size)
  clear hb7
  go_wp2
  go_ret
  exact ⟨rfl, B7⟩

set_option maxHeartbeats 2000000 in
theorem ints_bad (n : Int) (ha : n < 0 ∨ 1099511627776 < n) (s : ByteArray) (h : s.size ≤ 300) (x k : Nat) (er : Int) (hg : getL 12 13 6 0 0 (nats s) = (x, k, er)) (w : World) : Calls Try.prog 3 #[.int .i64 n, .string s] w fun e w' => e = .returned (.bool true) ∧ Below w.heap.size w w' := by
  have hp : ¬ (300 : Int) < s.size := by omega
  have HG := Lib.hid hg
  clear hg
  have HA := Lib.hid ha
  clear ha
  have B0 := Below.refl w.heap.size w
  go_enter Try.func3, Try.ntmps3
  go_wp2_with fail
  ((with_reducible refine (putInt_bad n HA.out _).mono ?_); rintro e w1 ⟨rfl, hb1⟩)
  have B1 := B0.trans (hb1.mono B0.size)
  clear hb1
  go_wp2_with fail
  ((with_reducible refine (refPutInt_bad n HA.out _).mono ?_); rintro e w2 ⟨rfl, hb2⟩)
  have B2 := B1.trans (hb2.mono B1.size)
  clear hb2
  go_wp2_with fail
  ((with_reducible refine (getInt_any s x k er HG.out _).mono ?_); rintro e w3 ⟨rfl, hb3⟩)
  have B3 := B2.trans (hb3.mono B2.size)
  clear hb3
  go_wp2_with fail
  ((with_reducible refine (refGetInt_any s x k er HG.out _).mono ?_); rintro e w4 ⟨rfl, hb4⟩)
  have B4 := B3.trans (hb4.mono B3.size)
  clear hb4
  go_wp2_with fail
  ((with_reducible refine (size_bad n HA.out _).mono ?_); rintro e w5 ⟨rfl, hb5⟩)
  have B5 := B4.trans (hb5.mono B4.size)
  clear hb5
  go_wp2_with fail
  ((with_reducible refine (refSize_bad n HA.out _).mono ?_); rintro e w6 ⟨rfl, hb6⟩)
  have B6 := B5.trans (hb6.mono B5.size)
  clear hb6
  go_wp2_with fail
  ((with_reducible refine (awake_any _).mono ?_); rintro e w7 ⟨rfl, hb7⟩)
  have B7 := B6.trans (hb7.mono B6.size)
  clear hb7
  go_wp2
  go_ret
  exact ⟨rfl, B7⟩

theorem ints_any (n : Int) (s : ByteArray) (hm : s.size ≤ maxLen) (w : World) : Calls Try.prog 3 #[.int .i64 n, .string s] w fun e w' => e = .returned (.bool true) ∧ Below w.heap.size w w' := by
  rcases Nat.lt_or_ge 300 s.size with h | h
  · exact ints_long n s h hm w
  · rcases hg : getL 12 13 6 0 0 (nats s) with ⟨x, k, er⟩
    by_cases ha : n < 0 ∨ 1099511627776 < n
    · exact ints_bad n ha s h x k er hg w
    · exact ints_good n n.toNat (by omega) (by omega) s h x k er hg w

set_option maxRecDepth 100000 in
theorem ints_lifted (os : Os) (started : os.Started) (H : Type) (enc : TypeId × Value → H) :
    ReturnsInHanded {} Try.checked os 3 .any (Rows.codecIntsSpec.pre6 enc Try.prog Try.f3 Rows.codecIntsRow.domain false) (Rows.codecIntsSpec.post enc Try.prog Try.f3 false true false false) := by
  refine returnsInHanded_of_change (C := Try.checked) ownK started (by kernel_rfl) Try.func3
    (ChangeSpec.witness6 (enc := enc) (C := Try.checked) false ⟨#[], #[.int .i64 0, .string ⟨#[]⟩], []⟩ 8 (by kernel_rfl) (by kernel_rfl) (by kernel_rfl) (by kernel_rfl)) ?_
  intro W base args ds gs before hval0 hW hcnd _
  have hval : ∀ (j : Nat) t v, Try.f3.params[j]? = some t → args[j]? = some v → Value.okWide Try.prog W .any base t v := hval0
  have hW' := hW
  obtain ⟨p, q, hA0, hV, rfl, hfz, hnd⟩ := hW
  have hA : DataW.TrodAll enc Try.prog W 0 (fun _ => true) true Try.f3.params.toList args.toList ds p := hA0
  rw [Try.params3] at hA hval
  obtain ⟨v0, v1, d0, d1, p0, p1, rfl, rfl, rfl, h0, h1⟩ := trodAll_two hA
  obtain ⟨rfl, rfl⟩ := trodVars_none hV
  obtain ⟨z, rfl, rfl, rfl, w1⟩ := open_int Try.underlying3 (hval 0 3 v0 rfl rfl) h0
  obtain ⟨s, rfl, rfl, rfl, w2⟩ := open_string Try.underlying9 (hval 1 9 v1 rfl rfl) h1
  clear hA0 hval0
  refine (ints_any z s w2 W).mono fun e W' ⟨he, bel⟩ => ?_
  subst he
  exact ⟨_, rfl, _, _, _, [], _, [], hW', trodAll_mk1 (shut_bool Try.underlying4 _), (trodAll_cons_mk (shut_int Try.underlying3 w1) (trodAll_cons_mk (shut_string Try.underlying9 w2) trodAll_mk0)), rfl, bel.frame _, fun h => by cases h⟩

theorem ints_holds : Rows.CodecIntsSaid :=
  OpenClaim.holds_of_wide 3 Try.f3 rfl rfl rfl rfl rfl rfl rfl ⟨rfl, rfl, rfl, rfl, rfl⟩ rfl rfl rfl rfl rfl (by kernel_rfl) Try.func3 (by kernel_rfl)
    (of_decide_eq_true (by kernel_rfl)) (by unfold Func.isWrapper; rw [if_neg (of_decide_eq_false (by kernel_rfl))]; exact ⟨rfl, rfl⟩)
    (fun os started H enc _ => ints_lifted os started H enc)
#print axioms ints_holds
end Go.Proofs.Ytpkggijjjpefbaa
