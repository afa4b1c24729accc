/- For every trial and number SprtEnds returns true and leaves its arguments as they were: Ends returns what the reference returns. No condition. -/
import Derived.Test.YtldpdoakfacdbaaOpen
import Derived.Test.YtldpdoakfacdbaaEndsRef
namespace Go.Proofs.Ytldpdoakfacdbaa
open Go.ChangeShapes Go.WideShapes Go.ChangeAt Go.RowKit

set_option maxHeartbeats 2000000 in
theorem endsLaw_out (gn gd bn bd an ad en ed n : Int) (h1 : 20 < n) (h2 : n ≤ 30) (w : World) :
    Calls Try.prog 6 #[trialV gn gd bn bd an ad en ed, .int .i64 n] w fun e w' => e = .returned (.bool true) ∧ Below w.heap.size w w' := by
  have B0 := (Below.refl w.heap.size w).alloc (Nat.le_refl _) (.cells #[.int .i64 gn, .int .i64 gd, .int .i64 bn, .int .i64 bd, .int .i64 an, .int .i64 ad, .int .i64 en, .int .i64 ed] 25)
  go_enter Try.func6, Try.ntmps6
  go_wp2_with fail
  ((with_reducible refine (awake_any _).mono ?_); rintro e w3 ⟨he, hb3⟩)
  subst he
  go_wp2
  go_ret
  exact ⟨rfl, B0.trans (hb3.mono B0.size)⟩

/-- The law's walk, out of what both Ends return. -/
theorem endsLaw_of (gn gd bn bd an ad en ed n : Int) (hn : ¬ (20 < n ∧ n ≤ 30)) (L : List EndR) (z : Int) (w : World)
    (H1 : ∀ W : World, Calls Try.prog 19 #[trialV gn gd bn bd an ad en ed, .int .i64 n] W fun e w' => ∃ v, e = .returned (.tuple #[v, .int .i64 z]) ∧ IsEnds w' v L ∧ Below W.heap.size W w')
    (H2 : ∀ W : World, Calls Try.prog 20 #[trialV gn gd bn bd an ad en ed, .int .i64 n] W fun e w' => ∃ v, e = .returned (.tuple #[v, .int .i64 z]) ∧ IsEnds w' v L ∧ Below W.heap.size W w') :
    Calls Try.prog 6 #[trialV gn gd bn bd an ad en ed, .int .i64 n] w fun e w' => e = .returned (.bool true) ∧ Below w.heap.size w w' := by
  have G1 := Lib.hid H1
  have G2 := Lib.hid H2
  clear H1 H2
  have k0 := Lib.hid (L8.fresh gn gd bn bd an ad en ed w 25)
  have B0 := (Below.refl w.heap.size w).alloc (Nat.le_refl _) (.cells #[.int .i64 gn, .int .i64 gd, .int .i64 bn, .int .i64 bd, .int .i64 an, .int .i64 ad, .int .i64 en, .int .i64 ed] 25)
  have key : decide (20 < n) = false ∨ (decide (20 < n) = true ∧ decide (n ≤ 30) = false) := by
    by_cases h : 20 < n
    · exact .inr ⟨by simpa using h, by simp; omega⟩
    · exact .inl (by simpa using h)
  go_enter Try.func6, Try.ntmps6
  rcases key with hd | ⟨hd, hd2⟩
  all_goals
    go_wp2_with fail
    ((with_reducible refine (G1.out _).mono ?_); rintro e w1 ⟨v1, he, i1, hb1⟩)
    subst he
    have k1 := Lib.hid (k0.out.below hb1 k0.out.lt)
    have B1 := B0.trans (hb1.mono B0.size)
    have I1 := Lib.hid i1
    clear hb1 i1
    obtain ⟨c0, c1, c2, c3, c4, c5, c6, c7, lt⟩ := k1.out
    go_wp2_with fail
    ((with_reducible refine (G2.out _).mono ?_); rintro e w2 ⟨v2, he, i2, hb2⟩)
    subst he
    have B2 := B1.trans (hb2.mono B1.size)
    have I12 := Lib.hid (I1.out.below hb2 (Nat.le_refl _))
    have I2 := Lib.hid i2
    clear hb2 i2 I1
    clear c0 c1 c2 c3 c4 c5 c6 c7 lt
    go_wp2_with fail
    ((with_reducible refine (sameE_any L _ _ _ I12.out I2.out).mono ?_); rintro e w3 ⟨he, hb3⟩)
    subst he
    have B3 := B2.trans (hb3.mono B2.size)
    go_wp2_with fail
    ((with_reducible refine (awake_any _).mono ?_); rintro e w4 ⟨he, hb4⟩)
    subst he
    go_wp2
    go_ret
    exact ⟨rfl, B3.trans (hb4.mono B3.size)⟩

theorem endsLaw_any (gn gd bn bd an ad en ed n : Int) (w : World) :
    Calls Try.prog 6 #[trialV gn gd bn bd an ad en ed, .int .i64 n] w fun e w' => e = .returned (.bool true) ∧ Below w.heap.size w w' := by
  by_cases hn : 20 < n ∧ n ≤ 30
  · exact endsLaw_out gn gd bn bd an ad en ed n hn.1 hn.2 w
  rcases chk_cases gn gd bn bd an ad en ed with hk | ⟨hk, t, ht, rfl, rfl, rfl, rfl, rfl, rfl, rfl, rfl⟩
  · exact endsLaw_of _ _ _ _ _ _ _ _ n hn [] 1 w (fun W => (ends_bad _ _ _ _ _ _ _ _ n hk W).mono fun e w' h => ⟨_, h.1, isEnds_nil _, h.2⟩) (fun W => (refEnds_bad _ _ _ _ _ _ _ _ n hk W).mono fun e w' h => ⟨_, h.1, isEnds_nil _, h.2⟩)
  · by_cases hl : n < 0
    · exact endsLaw_of _ _ _ _ _ _ _ _ n hn [] 2 w (fun W => (ends_low _ _ _ _ _ _ _ _ n hk hl W).mono fun e w' h => ⟨_, h.1, isEnds_nil _, h.2⟩) (fun W => (refEnds_low _ _ _ _ _ _ _ _ n hk hl W).mono fun e w' h => ⟨_, h.1, isEnds_nil _, h.2⟩)
    · by_cases hh : 30 < n
      · exact endsLaw_of _ _ _ _ _ _ _ _ n hn [] 2 w (fun W => (ends_high _ _ _ _ _ _ _ _ n hk hh W).mono fun e w' h => ⟨_, h.1, isEnds_nil _, h.2⟩) (fun W => (refEnds_high _ _ _ _ _ _ _ _ n hk hh W).mono fun e w' h => ⟨_, h.1, isEnds_nil _, h.2⟩)
      · obtain ⟨m, rfl⟩ := Int.eq_ofNat_of_zero_le (show 0 ≤ n by omega)
        exact endsLaw_of _ _ _ _ _ _ _ _ _ hn _ 0 w (fun W => ends_good t ht m (by omega) W) (fun W => refEnds_good t ht m (by omega) W)

set_option maxRecDepth 100000 in
theorem ends_lifted (os : Os) (started : os.Started) (H : Type) (enc : TypeId × Value → H) :
    ReturnsInHanded {} Try.checked os 6 .any (Rows.sprtEndsSpec.pre6 enc Try.prog Try.f6 Rows.sprtEndsRow.domain false) (Rows.sprtEndsSpec.post enc Try.prog Try.f6 false true false false) := by
  refine returnsInHanded_of_change (C := Try.checked) ownK started (by kernel_rfl) Try.func6
    (ChangeSpec.witness6 (enc := enc) (C := Try.checked) false ⟨#[], #[trialV 0 0 0 0 0 0 0 0, .int .i64 0], []⟩ 8 (by kernel_rfl) (by kernel_rfl) (by kernel_rfl) (by kernel_rfl)) ?_
  intro W base args ds gs before hval0 hW hcnd _
  have hval : ∀ (j : Nat) t v, Try.f6.params[j]? = some t → args[j]? = some v → Value.okWide Try.prog W .any base t v := hval0
  have hW' := hW
  obtain ⟨p, q, hA0, hV, rfl, hfz, hnd⟩ := hW
  have hA : DataW.TrodAll enc Try.prog W 0 (fun _ => true) true Try.f6.params.toList args.toList ds p := hA0
  rw [Try.params6] at hA hval
  obtain ⟨v0, v1, d0, d1, p0, p1, rfl, rfl, rfl, h0, h1⟩ := trodAll_two hA
  obtain ⟨rfl, rfl⟩ := trodVars_none hV
  have k0 := h0
  have lt0 : ∀ x ∈ p0, x.block < W.heap.size := by obtain ⟨m, hm⟩ := k0; exact DataW.trod_lt m _ _ _ hm
  obtain ⟨gn, gd, bn, bd, an, ad, en, ed, rfl⟩ := open_trial (hval 0 25 v0 rfl rfl) h0
  obtain ⟨z1, rfl, rfl, rfl, w1⟩ := open_int Try.underlying3 (hval 1 3 v1 rfl rfl) h1
  clear hA0 hval0
  refine (endsLaw_any gn gd bn bd an ad en ed z1 W).mono fun e W' ⟨he, bel⟩ => ?_
  subst he
  exact ⟨_, rfl, _, _, _, [], _, [], hW', trodAll_mk1 (shut_bool Try.underlying4 _), (trodAll_cons_mk (Below.trod laidOut (by kernel_rfl) (of_decide_eq_true (by kernel_rfl)) k0 bel lt0) (trodAll_cons_mk (shut_int Try.underlying3 w1) trodAll_mk0)), rfl, bel.frame _, fun h => by cases h⟩

theorem ends_holds : Rows.SprtEndsSaid :=
  OpenClaim.holds_of_wide 6 Try.f6 rfl rfl rfl rfl rfl rfl rfl ⟨rfl, rfl, rfl, rfl, rfl⟩ rfl rfl rfl rfl rfl (by kernel_rfl) Try.func6 (by kernel_rfl)
    (of_decide_eq_true (by kernel_rfl)) (by unfold Func.isWrapper; rw [if_neg (of_decide_eq_false (by kernel_rfl))]; exact ⟨rfl, rfl⟩)
    (fun os started H enc _ => ends_lifted os started H enc)
#print axioms ends_holds
end Go.Proofs.Ytldpdoakfacdbaa
