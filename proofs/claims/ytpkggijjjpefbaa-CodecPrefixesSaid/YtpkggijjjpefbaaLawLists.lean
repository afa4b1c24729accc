/- For every list of texts and every string CodecLists returns true and leaves its arguments as they were: PutTexts and GetTexts return what the reference returns. No condition. -/
import Derived.Test.YtpkggijjjpefbaaOpen
import Derived.Test.YtpkggijjjpefbaaRefLists
namespace Go.Proofs.Ytpkggijjjpefbaa
open Go.ChangeShapes Go.WideShapes Go.ChangeAt Go.RowKit
open Go.ChangeMaps (open_string shut_string)

theorem great_parts {L : List ByteArray} (h : greatB L = false) : L.length ≤ 20 ∧ ∀ s ∈ L, s.size ≤ 300 := by
  simp only [greatB, Bool.or_eq_false_iff, List.any_eq_false, decide_eq_true_eq, decide_eq_false_iff_not] at h
  exact ⟨by omega, fun s hs => by have := h.2 s hs; omega⟩

set_option maxHeartbeats 1000000 in
theorem lists_great (L : List ByteArray) (v : Value) (s : ByteArray) (w : World) (hv : IsStrs w v L) (hs : ∀ s ∈ L, s.size ≤ maxLen) (hg : greatB L = true) : Calls Try.prog 5 #[v, .string s] w fun e w' => e = .returned (.bool true) ∧ Below w.heap.size w w' := by
  have HV := Lib.hid hv
  have HS := Lib.hid hs
  have HG := Lib.hid hg
  clear hv hs hg
  go_enter Try.func5, Try.ntmps5
  go_wp2_with fail
  ((with_reducible refine (great_any L v _ HV.out HS.out).mono ?_); rintro e w1 ⟨he, hb1⟩)
  rw [HG.out] at he
  subst he
  go_wp2_with fail
  ((with_reducible refine (awake_any _).mono ?_); rintro e w2 ⟨rfl, hb2⟩)
  go_wp2
  go_ret
  exact ⟨rfl, hb1.trans (hb2.mono hb1.size)⟩
set_option maxHeartbeats 1000000 in
theorem lists_long (L : List ByteArray) (v : Value) (s : ByteArray) (w : World) (hv : IsStrs w v L) (hs : ∀ s ∈ L, s.size ≤ maxLen) (hg : greatB L = false) (hl : 300 < s.size) (hm : s.size ≤ maxLen) : Calls Try.prog 5 #[v, .string s] w fun e w' => e = .returned (.bool true) ∧ Below w.heap.size w w' := by
  unfold maxLen at hm
  have hp : (300 : Int) < s.size := by omega
  have HV := Lib.hid hv
  have HS := Lib.hid hs
  have HG := Lib.hid hg
  clear hv hs hg
  go_enter Try.func5, Try.ntmps5
  go_wp2_with fail
  ((with_reducible refine (great_any L v _ HV.out HS.out).mono ?_); rintro e w1 ⟨he, hb1⟩)
  rw [HG.out] at he
  subst he
  go_wp2_with fail
  ((with_reducible refine (awake_any _).mono ?_); rintro e w2 ⟨rfl, hb2⟩)
  go_wp2
  go_ret
  exact ⟨rfl, hb1.trans (hb2.mono hb1.size)⟩

set_option maxHeartbeats 2000000 in
theorem lists_short (L : List ByteArray) (v : Value) (s : ByteArray) (w : World) (hv : IsStrs w v L) (hs : ∀ s ∈ L, s.size ≤ maxLen) (hg : greatB L = false) (hl : s.size ≤ 300) (R : List ByteArray) (n : Nat) (er : Int) (hr : getTs s = (R, n, er)) : Calls Try.prog 5 #[v, .string s] w fun e w' => e = .returned (.bool true) ∧ Below w.heap.size w w' := by
  obtain ⟨h20, h300⟩ := great_parts hg
  have hp : ¬ (300 : Int) < s.size := by omega
  have HM := Lib.hid (show s.size ≤ maxLen by unfold maxLen; omega)
  have H3 := Lib.hid (show ∀ s ∈ L, s.size ≤ 65536 from fun s h => by have := h300 s h; omega)
  have HV := Lib.hid hv
  have HS := Lib.hid hs
  have HG := Lib.hid hg
  have HR := Lib.hid hr
  clear hv hs hg hr h300
  have B0 := Below.refl w.heap.size w
  go_enter Try.func5, Try.ntmps5
  go_wp2_with fail
  ((with_reducible refine (great_any L v _ HV.out HS.out).mono ?_); rintro e w1 ⟨he, hb1⟩)
  rw [HG.out] at he
  subst he
  have V1 := Lib.hid (HV.out.below hb1 (Nat.le_refl _))
  go_wp2_with fail
  ((with_reducible refine (putTexts_good L (by omega) H3.out v _ V1.out).mono ?_); rintro e w2 ⟨rfl, hb2⟩)
  have V2 := Lib.hid (V1.out.below hb2 (Nat.le_refl _))
  have B2 := hb1.trans (hb2.mono hb1.size)
  go_wp2_with fail
  ((with_reducible refine (refPutTexts_good L (by omega) H3.out v _ V2.out).mono ?_); rintro e w3 ⟨rfl, hb3⟩)
  have B3 := B2.trans (hb3.mono B2.size)
  go_wp2_with fail
  ((with_reducible refine (getTexts_any s HM.out R n er HR.out _).mono ?_); rintro e w4 ⟨v4, rfl, hv4, hb4⟩)
  have B4 := B3.trans (hb4.mono B3.size)
  have V4 := Lib.hid hv4
  clear hv4
  go_wp2_with fail
  ((with_reducible refine (refGetTexts_any s HM.out R n er HR.out _).mono ?_); rintro e w5 ⟨v5, rfl, hv5, hb5⟩)
  have B5 := B4.trans (hb5.mono B4.size)
  have V5 := Lib.hid hv5
  have V45 := Lib.hid (V4.out.below hb5 (Nat.le_refl _))
  clear hv5
  go_wp2_with fail
  ((with_reducible refine (same_any R v4 v5 _ V45.out V5.out).mono ?_); rintro e w6 ⟨rfl, hb6⟩)
  have B6 := B5.trans (hb6.mono B5.size)
  go_wp2_with fail
  ((with_reducible refine (awake_any _).mono ?_); rintro e w7 ⟨rfl, hb7⟩)
  go_wp2
  go_ret
  exact ⟨rfl, B6.trans (hb7.mono B6.size)⟩

theorem lists_any (L : List ByteArray) (v : Value) (s : ByteArray) (w : World) (hv : IsStrs w v L) (hs : ∀ s ∈ L, s.size ≤ maxLen) (hm : s.size ≤ maxLen) : Calls Try.prog 5 #[v, .string s] w fun e w' => e = .returned (.bool true) ∧ Below w.heap.size w w' := by
  cases hg : greatB L
  · rcases Nat.lt_or_ge 300 s.size with h | h
    · exact lists_long L v s w hv hs hg h hm
    · rcases hr : getTs s with ⟨R, n, er⟩
      exact lists_short L v s w hv hs hg h R n er hr
  · exact lists_great L v s w hv hs hg

set_option maxRecDepth 100000 in
theorem lists_lifted (os : Os) (started : os.Started) (H : Type) (enc : TypeId × Value → H) :
    ReturnsInHanded {} Try.checked os 5 .any (Rows.codecListsSpec.pre6 enc Try.prog Try.f5 Rows.codecListsRow.domain false) (Rows.codecListsSpec.post enc Try.prog Try.f5 false true false false) := by
  refine returnsInHanded_of_change (C := Try.checked) ownK started (by kernel_rfl) Try.func5
    (ChangeSpec.witness6 (enc := enc) (C := Try.checked) false ⟨#[], #[.slice none 0 0, .string ⟨#[]⟩], []⟩ 8 (by kernel_rfl) (by kernel_rfl) (by kernel_rfl) (by kernel_rfl)) ?_
  intro W base args ds gs before hval0 hW hcnd _
  have hval : ∀ (j : Nat) t v, Try.f5.params[j]? = some t → args[j]? = some v → Value.okWide Try.prog W .any base t v := hval0
  have hW' := hW
  obtain ⟨p, q, hA0, hV, rfl, hfz, hnd⟩ := hW
  have hA : DataW.TrodAll enc Try.prog W 0 (fun _ => true) true Try.f5.params.toList args.toList ds p := hA0
  rw [Try.params5] at hA hval
  obtain ⟨v0, v1, d0, d1, p0, p1, rfl, rfl, rfl, h0, h1⟩ := trodAll_two hA
  obtain ⟨rfl, rfl⟩ := trodVars_none hV
  have k0 := h0
  have lt0 : ∀ x ∈ p0, x.block < W.heap.size := by obtain ⟨m, hm⟩ := k0; exact DataW.trod_lt m _ _ _ hm
  obtain ⟨L, hL, hLs⟩ := open_texts (okWide_slice Try.underlying34 (hval 0 34 v0 rfl rfl)) h0
  obtain ⟨s, rfl, rfl, rfl, w2⟩ := open_string Try.underlying9 (hval 1 9 v1 rfl rfl) h1
  clear hA0 hval0
  refine (lists_any L v0 s W hL hLs w2).mono fun e W' ⟨he, bel⟩ => ?_
  subst he
  exact ⟨_, rfl, _, _, _, [], _, [], hW', trodAll_mk1 (shut_bool Try.underlying4 _), (trodAll_cons_mk (Below.trod laidOut (by kernel_rfl) (of_decide_eq_true (by kernel_rfl)) k0 bel lt0) (trodAll_cons_mk (shut_string Try.underlying9 w2) trodAll_mk0)), rfl, bel.frame _, fun h => by cases h⟩

theorem lists_holds : Rows.CodecListsSaid :=
  OpenClaim.holds_of_wide 5 Try.f5 rfl rfl rfl rfl rfl rfl rfl ⟨rfl, rfl, rfl, rfl, rfl⟩ rfl rfl rfl rfl rfl (by kernel_rfl) Try.func5 (by kernel_rfl)
    (of_decide_eq_true (by kernel_rfl)) (by unfold Func.isWrapper; rw [if_neg (of_decide_eq_false (by kernel_rfl))]; exact ⟨rfl, rfl⟩)
    (fun os started H enc _ => lists_lifted os started H enc)
#print axioms lists_holds
end Go.Proofs.Ytpkggijjjpefbaa
