/- For every trial and numbers SprtDecide returns true and leaves its arguments as they were: Decide returns what the reference returns. No condition. -/
import Derived.Test.YtldpdoakfacdbaaOpen
import Derived.Test.YtldpdoakfacdbaaRefFuncs
namespace Go.Proofs.Ytldpdoakfacdbaa
open Go.ChangeShapes Go.WideShapes Go.ChangeAt Go.RowKit

set_option maxHeartbeats 2000000 in
theorem decLaw_bad (gn gd bn bd an ad en ed p f : Int) (h : chk gn gd bn bd an ad en ed = 1) (w : World) :
    Calls Try.prog 4 #[trialV gn gd bn bd an ad en ed, .int .i64 p, .int .i64 f] w fun e w' => e = .returned (.bool true) ∧ Below w.heap.size w w' := by
  have H := Lib.hid h
  clear h
  have k0 := Lib.hid (L8.fresh gn gd bn bd an ad en ed w 25)
  have B0 := (Below.refl w.heap.size w).alloc (Nat.le_refl _) (.cells #[.int .i64 gn, .int .i64 gd, .int .i64 bn, .int .i64 bd, .int .i64 an, .int .i64 ad, .int .i64 en, .int .i64 ed] 25)
  go_enter Try.func4, Try.ntmps4
  go_wp2_with fail
  ((with_reducible refine (Decide_bad gn gd bn bd an ad en ed _ _ H.out _).mono ?_); rintro e w1 ⟨he, hb1⟩)
  subst he
  have k1 := Lib.hid (k0.out.below hb1 k0.out.lt)
  have B1 := B0.trans (hb1.mono B0.size)
  clear hb1
  obtain ⟨c0, c1, c2, c3, c4, c5, c6, c7, lt⟩ := k1.out
  go_wp2_with fail
  ((with_reducible refine (refDecide_bad gn gd bn bd an ad en ed _ _ H.out _).mono ?_); rintro e w2 ⟨he, hb2⟩)
  subst he
  have k2 := Lib.hid (k1.out.below hb2 k1.out.lt)
  have B2 := B1.trans (hb2.mono B1.size)
  clear hb2
  clear c0 c1 c2 c3 c4 c5 c6 c7 lt
  obtain ⟨c0, c1, c2, c3, c4, c5, c6, c7, lt⟩ := k2.out
  go_wp2_with fail
  ((with_reducible refine (awake_any _).mono ?_); rintro e w3 ⟨he, hb3⟩)
  subst he
  have k3 := Lib.hid (k2.out.below hb3 k2.out.lt)
  have B3 := B2.trans (hb3.mono B2.size)
  clear hb3
  go_wp2
  go_ret
  exact ⟨rfl, B3⟩

set_option maxHeartbeats 2000000 in
theorem decLaw_range (gn gd bn bd an ad en ed p f : Int) (h : chk gn gd bn bd an ad en ed = 0) (hr : p < 0 ∨ f < 0 ∨ 40 < p + f) (w : World) :
    Calls Try.prog 4 #[trialV gn gd bn bd an ad en ed, .int .i64 p, .int .i64 f] w fun e w' => e = .returned (.bool true) ∧ Below w.heap.size w w' := by
  have H := Lib.hid h
  have HR := Lib.hid hr
  clear h hr
  have k0 := Lib.hid (L8.fresh gn gd bn bd an ad en ed w 25)
  have B0 := (Below.refl w.heap.size w).alloc (Nat.le_refl _) (.cells #[.int .i64 gn, .int .i64 gd, .int .i64 bn, .int .i64 bd, .int .i64 an, .int .i64 ad, .int .i64 en, .int .i64 ed] 25)
  go_enter Try.func4, Try.ntmps4
  go_wp2_with fail
  ((with_reducible refine (Decide_range gn gd bn bd an ad en ed _ _ H.out HR.out _).mono ?_); rintro e w1 ⟨he, hb1⟩)
  subst he
  have k1 := Lib.hid (k0.out.below hb1 k0.out.lt)
  have B1 := B0.trans (hb1.mono B0.size)
  clear hb1
  obtain ⟨c0, c1, c2, c3, c4, c5, c6, c7, lt⟩ := k1.out
  go_wp2_with fail
  ((with_reducible refine (refDecide_range gn gd bn bd an ad en ed _ _ H.out HR.out _).mono ?_); rintro e w2 ⟨he, hb2⟩)
  subst he
  have k2 := Lib.hid (k1.out.below hb2 k1.out.lt)
  have B2 := B1.trans (hb2.mono B1.size)
  clear hb2
  clear c0 c1 c2 c3 c4 c5 c6 c7 lt
  obtain ⟨c0, c1, c2, c3, c4, c5, c6, c7, lt⟩ := k2.out
  go_wp2_with fail
  ((with_reducible refine (awake_any _).mono ?_); rintro e w3 ⟨he, hb3⟩)
  subst he
  have k3 := Lib.hid (k2.out.below hb3 k2.out.lt)
  have B3 := B2.trans (hb3.mono B2.size)
  clear hb3
  go_wp2
  go_ret
  exact ⟨rfl, B3⟩

set_option maxHeartbeats 2000000 in
theorem decLaw_good (t : Tr) (ht : t.Ok) (z1 z2 : Int) (p f : Nat) (e1 : z1 = p) (e2 : z2 = f) (hpf : p + f ≤ 40) (r : Int) (hr : t.dec p f = r) (w : World) :
    Calls Try.prog 4 #[trialV t.gn t.gd t.bn t.bd t.an t.ad t.en t.ed, .int .i64 z1, .int .i64 z2] w fun e w' => e = .returned (.bool true) ∧ Below w.heap.size w w' := by
  have E1 := Lib.hid e1
  have E2 := Lib.hid e2
  have HR := Lib.hid hr
  clear e1 e2 hr
  have k0 := Lib.hid (L8.fresh t.gn t.gd t.bn t.bd t.an t.ad t.en t.ed w 25)
  have B0 := (Below.refl w.heap.size w).alloc (Nat.le_refl _) (.cells #[.int .i64 t.gn, .int .i64 t.gd, .int .i64 t.bn, .int .i64 t.bd, .int .i64 t.an, .int .i64 t.ad, .int .i64 t.en, .int .i64 t.ed] 25)
  go_enter Try.func4, Try.ntmps4
  go_wp2_with fail
  ((with_reducible refine (Decide_good t ht _ _ p f E1.out E2.out hpf r HR.out _).mono ?_); rintro e w1 ⟨he, hb1⟩)
  subst he
  have k1 := Lib.hid (k0.out.below hb1 k0.out.lt)
  have B1 := B0.trans (hb1.mono B0.size)
  clear hb1
  obtain ⟨c0, c1, c2, c3, c4, c5, c6, c7, lt⟩ := k1.out
  go_wp2_with fail
  ((with_reducible refine (refDecide_good t ht _ _ p f E1.out E2.out hpf r HR.out _).mono ?_); rintro e w2 ⟨he, hb2⟩)
  subst he
  have k2 := Lib.hid (k1.out.below hb2 k1.out.lt)
  have B2 := B1.trans (hb2.mono B1.size)
  clear hb2
  clear c0 c1 c2 c3 c4 c5 c6 c7 lt
  obtain ⟨c0, c1, c2, c3, c4, c5, c6, c7, lt⟩ := k2.out
  go_wp2_with fail
  ((with_reducible refine (awake_any _).mono ?_); rintro e w3 ⟨he, hb3⟩)
  subst he
  have k3 := Lib.hid (k2.out.below hb3 k2.out.lt)
  have B3 := B2.trans (hb3.mono B2.size)
  clear hb3
  go_wp2
  go_ret
  exact ⟨rfl, B3⟩

theorem decLaw_any (gn gd bn bd an ad en ed p f : Int) (w : World) :
    Calls Try.prog 4 #[trialV gn gd bn bd an ad en ed, .int .i64 p, .int .i64 f] w fun e w' => e = .returned (.bool true) ∧ Below w.heap.size w w' := by
  rcases chk_cases gn gd bn bd an ad en ed with hk | ⟨hk, t, ht, rfl, rfl, rfl, rfl, rfl, rfl, rfl, rfl⟩
  · exact decLaw_bad gn gd bn bd an ad en ed p f hk w
  · by_cases hr : p < 0 ∨ f < 0 ∨ 40 < p + f
    · exact decLaw_range _ _ _ _ _ _ _ _ p f hk hr w
    · exact decLaw_good t ht p f p.toNat f.toNat (by omega) (by omega) (by omega) _ rfl w

set_option maxRecDepth 100000 in
theorem decide_lifted (os : Os) (started : os.Started) (H : Type) (enc : TypeId × Value → H) :
    ReturnsInHanded {} Try.checked os 4 .any (Rows.sprtDecideSpec.pre6 enc Try.prog Try.f4 Rows.sprtDecideRow.domain false) (Rows.sprtDecideSpec.post enc Try.prog Try.f4 false true false false) := by
  refine returnsInHanded_of_change (C := Try.checked) ownK started (by kernel_rfl) Try.func4
    (ChangeSpec.witness6 (enc := enc) (C := Try.checked) false ⟨#[], #[trialV 0 0 0 0 0 0 0 0, .int .i64 0, .int .i64 0], []⟩ 8 (by kernel_rfl) (by kernel_rfl) (by kernel_rfl) (by kernel_rfl)) ?_
  intro W base args ds gs before hval0 hW hcnd _
  have hval : ∀ (j : Nat) t v, Try.f4.params[j]? = some t → args[j]? = some v → Value.okWide Try.prog W .any base t v := hval0
  have hW' := hW
  obtain ⟨p, q, hA0, hV, rfl, hfz, hnd⟩ := hW
  have hA : DataW.TrodAll enc Try.prog W 0 (fun _ => true) true Try.f4.params.toList args.toList ds p := hA0
  rw [Try.params4] at hA hval
  obtain ⟨v0, v1, v2, d0, d1, d2, p0, p1, p2, rfl, rfl, rfl, h0, h1, h2⟩ := trodAll_three hA
  obtain ⟨rfl, rfl⟩ := trodVars_none hV
  have k0 := h0
  have lt0 : ∀ x ∈ p0, x.block < W.heap.size := by obtain ⟨m, hm⟩ := k0; exact DataW.trod_lt m _ _ _ hm
  obtain ⟨gn, gd, bn, bd, an, ad, en, ed, rfl⟩ := open_trial (hval 0 25 v0 rfl rfl) h0
  obtain ⟨z1, rfl, rfl, rfl, w1⟩ := open_int Try.underlying3 (hval 1 3 v1 rfl rfl) h1
  obtain ⟨z2, rfl, rfl, rfl, w2⟩ := open_int Try.underlying3 (hval 2 3 v2 rfl rfl) h2
  clear hA0 hval0
  refine (decLaw_any gn gd bn bd an ad en ed z1 z2 W).mono fun e W' ⟨he, bel⟩ => ?_
  subst he
  exact ⟨_, rfl, _, _, _, [], _, [], hW', trodAll_mk1 (shut_bool Try.underlying4 _), (trodAll_cons_mk (Below.trod laidOut (by kernel_rfl) (of_decide_eq_true (by kernel_rfl)) k0 bel lt0) (trodAll_cons_mk (shut_int Try.underlying3 w1) (trodAll_cons_mk (shut_int Try.underlying3 w2) trodAll_mk0))), rfl, bel.frame _, fun h => by cases h⟩

theorem decide_holds : Rows.SprtDecideSaid :=
  OpenClaim.holds_of_wide 4 Try.f4 rfl rfl rfl rfl rfl rfl rfl ⟨rfl, rfl, rfl, rfl, rfl⟩ rfl rfl rfl rfl rfl (by kernel_rfl) Try.func4 (by kernel_rfl)
    (of_decide_eq_true (by kernel_rfl)) (by unfold Func.isWrapper; rw [if_neg (of_decide_eq_false (by kernel_rfl))]; exact ⟨rfl, rfl⟩)
    (fun os started H enc _ => decide_lifted os started H enc)
#print axioms decide_holds
end Go.Proofs.Ytldpdoakfacdbaa
