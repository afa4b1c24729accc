/- For every two strings CodecTexts returns true and leaves its arguments as they were: PutText and GetText return what the reference returns. No condition. -/
import Derived.Test.YtpkggijjjpefbaaOpen
import Derived.Test.YtpkggijjjpefbaaText
namespace Go.Proofs.Ytpkggijjjpefbaa
open Go.ChangeShapes Go.WideShapes Go.ChangeAt Go.RowKit
open Go.ChangeMaps (open_string shut_string)

set_option maxHeartbeats 1000000 in
theorem texts_long (t s : ByteArray) (h : 300 < t.size) (hm : t.size ≤ maxLen) (w : World) : Calls Try.prog 4 #[.string t, .string s] w fun e w' => e = .returned (.bool true) ∧ Below w.heap.size w w' := by
  unfold maxLen at hm
  have hp : (300 : Int) < t.size := by omega
  go_enter Try.func4, Try.ntmps4
  go_wp2_with fail
  ((with_reducible refine (awake_any _).mono ?_); rintro e w1 ⟨rfl, hb1⟩)
  go_wp2
  go_ret
  exact ⟨rfl, hb1⟩
set_option maxHeartbeats 1000000 in
theorem texts_long2 (t s : ByteArray) (h0 : t.size ≤ 300) (h : 300 < s.size) (hm : s.size ≤ maxLen) (w : World) : Calls Try.prog 4 #[.string t, .string s] w fun e w' => e = .returned (.bool true) ∧ Below w.heap.size w w' := by
  unfold maxLen at hm
  have hp : (300 : Int) < s.size := by omega
  have hp0 : ¬ (300 : Int) < t.size := by omega
  go_enter Try.func4, Try.ntmps4
  go_wp2_with fail
  ((with_reducible refine (awake_any _).mono ?_); rintro e w1 ⟨rfl, hb1⟩)
  go_wp2
  go_ret
  exact ⟨rfl, hb1⟩

set_option maxHeartbeats 2000000 in
theorem texts_short (t s : ByteArray) (h0 : t.size ≤ 300) (h : s.size ≤ 300) (x : ByteArray) (k : Nat) (er : Int) (hg : getT s = (x, k, er)) (w : World) : Calls Try.prog 4 #[.string t, .string s] w fun e w' => e = .returned (.bool true) ∧ Below w.heap.size w w' := by
  have hp : ¬ (300 : Int) < s.size := by omega
  have hp0 : ¬ (300 : Int) < t.size := by omega
  have HG := Lib.hid hg
  have HM := Lib.hid (show s.size ≤ maxLen by unfold maxLen; omega)
  clear hg
  have B0 := Below.refl w.heap.size w
  go_enter Try.func4, Try.ntmps4
  go_wp2_with fail
  ((with_reducible refine (putText_good t (by omega) _).mono ?_); rintro e w1 ⟨rfl, hb1⟩)
  have B1 := B0.trans (hb1.mono B0.size)
  clear hb1
  go_wp2_with fail
  ((with_reducible refine (refPutText_good t (by omega) _).mono ?_); rintro e w2 ⟨rfl, hb2⟩)
  have B2 := B1.trans (hb2.mono B1.size)
  clear hb2
  go_wp2_with fail
  ((with_reducible refine (getText_any s HM.out x k er HG.out _).mono ?_); rintro e w3 ⟨rfl, hb3⟩)
  have B3 := B2.trans (hb3.mono B2.size)
  clear hb3
  go_wp2_with fail
  ((with_reducible refine (refGetText_any s HM.out x k er HG.out _).mono ?_); rintro e w4 ⟨rfl, hb4⟩)
  have B4 := B3.trans (hb4.mono B3.size)
  clear hb4
  go_wp2_with fail
  ((with_reducible refine (awake_any _).mono ?_); rintro e w5 ⟨rfl, hb5⟩)
  have B5 := B4.trans (hb5.mono B4.size)
  clear hb5
  go_wp2
  go_ret
  exact ⟨rfl, B5⟩

theorem texts_any (t s : ByteArray) (ht : t.size ≤ maxLen) (hs : s.size ≤ maxLen) (w : World) : Calls Try.prog 4 #[.string t, .string s] w fun e w' => e = .returned (.bool true) ∧ Below w.heap.size w w' := by
  rcases Nat.lt_or_ge 300 t.size with h | h
  · exact texts_long t s h ht w
  · rcases Nat.lt_or_ge 300 s.size with h2 | h2
    · exact texts_long2 t s h h2 hs w
    · rcases hg : getT s with ⟨x, k, er⟩
      exact texts_short t s h h2 x k er hg w

set_option maxRecDepth 100000 in
theorem texts_lifted (os : Os) (started : os.Started) (H : Type) (enc : TypeId × Value → H) :
    ReturnsInHanded {} Try.checked os 4 .any (Rows.codecTextsSpec.pre6 enc Try.prog Try.f4 Rows.codecTextsRow.domain false) (Rows.codecTextsSpec.post enc Try.prog Try.f4 false true false false) := by
  refine returnsInHanded_of_change (C := Try.checked) ownK started (by kernel_rfl) Try.func4
    (ChangeSpec.witness6 (enc := enc) (C := Try.checked) false ⟨#[], #[.string ⟨#[]⟩, .string ⟨#[]⟩], []⟩ 8 (by kernel_rfl) (by kernel_rfl) (by kernel_rfl) (by kernel_rfl)) ?_
  intro W base args ds gs before hval0 hW hcnd _
  have hval : ∀ (j : Nat) t v, Try.f4.params[j]? = some t → args[j]? = some v → Value.okWide Try.prog W .any base t v := hval0
  have hW' := hW
  obtain ⟨p, q, hA0, hV, rfl, hfz, hnd⟩ := hW
  have hA : DataW.TrodAll enc Try.prog W 0 (fun _ => true) true Try.f4.params.toList args.toList ds p := hA0
  rw [Try.params4] at hA hval
  obtain ⟨v0, v1, d0, d1, p0, p1, rfl, rfl, rfl, h0, h1⟩ := trodAll_two hA
  obtain ⟨rfl, rfl⟩ := trodVars_none hV
  obtain ⟨t, rfl, rfl, rfl, w1⟩ := open_string Try.underlying9 (hval 0 9 v0 rfl rfl) h0
  obtain ⟨s, rfl, rfl, rfl, w2⟩ := open_string Try.underlying9 (hval 1 9 v1 rfl rfl) h1
  clear hA0 hval0
  refine (texts_any t s w1 w2 W).mono fun e W' ⟨he, bel⟩ => ?_
  subst he
  exact ⟨_, rfl, _, _, _, [], _, [], hW', trodAll_mk1 (shut_bool Try.underlying4 _), (trodAll_cons_mk (shut_string Try.underlying9 w1) (trodAll_cons_mk (shut_string Try.underlying9 w2) trodAll_mk0)), rfl, bel.frame _, fun h => by cases h⟩

theorem texts_holds : Rows.CodecTextsSaid :=
  OpenClaim.holds_of_wide 4 Try.f4 rfl rfl rfl rfl rfl rfl rfl ⟨rfl, rfl, rfl, rfl, rfl⟩ rfl rfl rfl rfl rfl (by kernel_rfl) Try.func4 (by kernel_rfl)
    (of_decide_eq_true (by kernel_rfl)) (by unfold Func.isWrapper; rw [if_neg (of_decide_eq_false (by kernel_rfl))]; exact ⟨rfl, rfl⟩)
    (fun os started H enc _ => texts_lifted os started H enc)
#print axioms texts_holds
end Go.Proofs.Ytpkggijjjpefbaa
