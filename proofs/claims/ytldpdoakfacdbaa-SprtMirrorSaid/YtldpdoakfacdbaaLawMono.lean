/- For every trial and numbers SprtMonotone returns true and leaves its arguments as they were: one more pass keeps a test accepted, one more fail keeps it refused. No condition. -/
import Derived.Test.YtldpdoakfacdbaaOpen
namespace Go.Proofs.Ytldpdoakfacdbaa
open Go.ChangeShapes Go.WideShapes Go.ChangeAt Go.RowKit

theorem u8_bounds {n : Int} (h : (Lit.int .u8 n).wf = true) : 0 ≤ n ∧ n < 256 := by
  simp [Lit.wf, IntKind.min, IntKind.max, IntKind.bits, IntKind.signed] at h
  omega

set_option maxHeartbeats 1000000 in
theorem mono_far (gn gd bn bd an ad en ed : Int) (a c : Nat) (h : 39 < a % 40 + c % 40) (ha : a < 256) (hc : c < 256) (w : World) :
    Calls Try.prog 8 #[trialV gn gd bn bd an ad en ed, .int .u8 a, .int .u8 c] w fun e w' => e = .returned (.bool true) ∧ Below w.heap.size w w' := by
  have h' : (39 : Int) < (a : Int) % 40 + (c : Int) % 40 := by omega
  have hB := (Below.refl w.heap.size w).alloc (Nat.le_refl _) (.cells #[.int .i64 gn, .int .i64 gd, .int .i64 bn, .int .i64 bd, .int .i64 an, .int .i64 ad, .int .i64 en, .int .i64 ed] 25)
  go_enter Try.func8, Try.ntmps8
  go_wp2_with fail
  ((with_reducible refine (awake_any _).mono ?_); rintro e w1 ⟨rfl, hb1⟩)
  go_wp2
  go_ret
  exact ⟨rfl, hB.trans (hb1.mono hB.size)⟩

set_option maxHeartbeats 1000000 in
theorem mono_bad (gn gd bn bd an ad en ed : Int) (hk : chk gn gd bn bd an ad en ed = 1) (a c : Nat) (h : a % 40 + c % 40 ≤ 39) (ha : a < 256) (hc : c < 256) (w : World) :
    Calls Try.prog 8 #[trialV gn gd bn bd an ad en ed, .int .u8 a, .int .u8 c] w fun e w' => e = .returned (.bool true) ∧ Below w.heap.size w w' := by
  have h' : (a : Int) % 40 + (c : Int) % 40 ≤ 39 := by omega
  have HK := Lib.hid hk
  clear hk
  have hB := (Below.refl w.heap.size w).alloc (Nat.le_refl _) (.cells #[.int .i64 gn, .int .i64 gd, .int .i64 bn, .int .i64 bd, .int .i64 an, .int .i64 ad, .int .i64 en, .int .i64 ed] 25)
  go_enter Try.func8, Try.ntmps8
  go_wp2_with fail
  ((with_reducible refine (Decide_bad gn gd bn bd an ad en ed _ _ HK.out _).mono ?_); rintro e w1 ⟨rfl, hb1⟩)
  go_wp2_with fail
  ((with_reducible refine (awake_any _).mono ?_); rintro e w2 ⟨rfl, hb2⟩)
  go_wp2
  go_ret
  exact ⟨rfl, (hB.trans (hb1.mono hB.size)).trans (hb2.mono (hB.trans (hb1.mono hB.size)).size)⟩

set_option maxHeartbeats 2000000 in
theorem mono_zero (t : Tr) (ht : t.Ok) (r1 r2 : Int) (a c : Nat) (h : a % 40 + c % 40 ≤ 39) (ha : a < 256) (hc : c < 256) (w : World)
    (e0 : t.dec (a % 40) (c % 40) = 0) (e1 : t.dec (a % 40 + 1) (c % 40) = r1) (e2 : t.dec (a % 40) (c % 40 + 1) = r2) :
    Calls Try.prog 8 #[trialV t.gn t.gd t.bn t.bd t.an t.ad t.en t.ed, .int .u8 a, .int .u8 c] w fun e w' => e = .returned (.bool true) ∧ Below w.heap.size w w' := by
  have h' : (a : Int) % 40 + (c : Int) % 40 ≤ 39 := by omega
  have E0 := Lib.hid e0
  have E1 := Lib.hid e1
  have E2 := Lib.hid e2
  clear e0 e1 e2
  have k0 := Lib.hid (L8.fresh t.gn t.gd t.bn t.bd t.an t.ad t.en t.ed w 25)
  have hB := (Below.refl w.heap.size w).alloc (Nat.le_refl _) (.cells #[.int .i64 t.gn, .int .i64 t.gd, .int .i64 t.bn, .int .i64 t.bd, .int .i64 t.an, .int .i64 t.ad, .int .i64 t.en, .int .i64 t.ed] 25)
  go_enter Try.func8, Try.ntmps8
  go_wp2_with fail
  ((with_reducible refine (Decide_good t ht _ _ (a % 40) (c % 40) (by omega) (by omega) (by omega) 0 E0.out _).mono ?_); rintro e w1 ⟨rfl, hb1⟩)
  have k1 := Lib.hid (k0.out.below hb1 k0.out.lt)
  have B1 := hB.trans (hb1.mono hB.size)
  obtain ⟨c0, c1, c2, c3, c4, c5, c6, c7, lt⟩ := k1.out
  go_wp2_with fail
  ((with_reducible refine (Decide_good t ht _ _ (a % 40 + 1) (c % 40) (by omega) (by omega) (by omega) r1 E1.out _).mono ?_); rintro e w2 ⟨rfl, hb2⟩)
  clear c0 c1 c2 c3 c4 c5 c6 c7 lt
  have k2 := Lib.hid (k1.out.below hb2 k1.out.lt)
  have B2 := B1.trans (hb2.mono B1.size)
  obtain ⟨c0, c1, c2, c3, c4, c5, c6, c7, lt⟩ := k2.out
  go_wp2_with fail
  ((with_reducible refine (Decide_good t ht _ _ (a % 40) (c % 40 + 1) (by omega) (by omega) (by omega) r2 E2.out _).mono ?_); rintro e w3 ⟨rfl, hb3⟩)
  have B3 := B2.trans (hb3.mono B2.size)
  go_wp2_with fail
  ((with_reducible refine (awake_any _).mono ?_); rintro e w4 ⟨rfl, hb4⟩)
  go_wp2
  go_ret
  exact ⟨rfl, B3.trans (hb4.mono B3.size)⟩

set_option maxHeartbeats 2000000 in
theorem mono_one (t : Tr) (ht : t.Ok) (r2 : Int) (a c : Nat) (h : a % 40 + c % 40 ≤ 39) (ha : a < 256) (hc : c < 256) (w : World)
    (e0 : t.dec (a % 40) (c % 40) = 1) (e1 : t.dec (a % 40 + 1) (c % 40) = 1) (e2 : t.dec (a % 40) (c % 40 + 1) = r2) :
    Calls Try.prog 8 #[trialV t.gn t.gd t.bn t.bd t.an t.ad t.en t.ed, .int .u8 a, .int .u8 c] w fun e w' => e = .returned (.bool true) ∧ Below w.heap.size w w' := by
  have h' : (a : Int) % 40 + (c : Int) % 40 ≤ 39 := by omega
  have E0 := Lib.hid e0
  have E1 := Lib.hid e1
  have E2 := Lib.hid e2
  clear e0 e1 e2
  have k0 := Lib.hid (L8.fresh t.gn t.gd t.bn t.bd t.an t.ad t.en t.ed w 25)
  have hB := (Below.refl w.heap.size w).alloc (Nat.le_refl _) (.cells #[.int .i64 t.gn, .int .i64 t.gd, .int .i64 t.bn, .int .i64 t.bd, .int .i64 t.an, .int .i64 t.ad, .int .i64 t.en, .int .i64 t.ed] 25)
  go_enter Try.func8, Try.ntmps8
  go_wp2_with fail
  ((with_reducible refine (Decide_good t ht _ _ (a % 40) (c % 40) (by omega) (by omega) (by omega) 1 E0.out _).mono ?_); rintro e w1 ⟨rfl, hb1⟩)
  have k1 := Lib.hid (k0.out.below hb1 k0.out.lt)
  have B1 := hB.trans (hb1.mono hB.size)
  obtain ⟨c0, c1, c2, c3, c4, c5, c6, c7, lt⟩ := k1.out
  go_wp2_with fail
  ((with_reducible refine (Decide_good t ht _ _ (a % 40 + 1) (c % 40) (by omega) (by omega) (by omega) 1 E1.out _).mono ?_); rintro e w2 ⟨rfl, hb2⟩)
  clear c0 c1 c2 c3 c4 c5 c6 c7 lt
  have k2 := Lib.hid (k1.out.below hb2 k1.out.lt)
  have B2 := B1.trans (hb2.mono B1.size)
  obtain ⟨c0, c1, c2, c3, c4, c5, c6, c7, lt⟩ := k2.out
  go_wp2_with fail
  ((with_reducible refine (Decide_good t ht _ _ (a % 40) (c % 40 + 1) (by omega) (by omega) (by omega) r2 E2.out _).mono ?_); rintro e w3 ⟨rfl, hb3⟩)
  have B3 := B2.trans (hb3.mono B2.size)
  go_wp2_with fail
  ((with_reducible refine (awake_any _).mono ?_); rintro e w4 ⟨rfl, hb4⟩)
  go_wp2
  go_ret
  exact ⟨rfl, B3.trans (hb4.mono B3.size)⟩

set_option maxHeartbeats 2000000 in
theorem mono_two (t : Tr) (ht : t.Ok) (r1 : Int) (a c : Nat) (h : a % 40 + c % 40 ≤ 39) (ha : a < 256) (hc : c < 256) (w : World)
    (e0 : t.dec (a % 40) (c % 40) = 2) (e1 : t.dec (a % 40 + 1) (c % 40) = r1) (e2 : t.dec (a % 40) (c % 40 + 1) = 2) :
    Calls Try.prog 8 #[trialV t.gn t.gd t.bn t.bd t.an t.ad t.en t.ed, .int .u8 a, .int .u8 c] w fun e w' => e = .returned (.bool true) ∧ Below w.heap.size w w' := by
  have h' : (a : Int) % 40 + (c : Int) % 40 ≤ 39 := by omega
  have E0 := Lib.hid e0
  have E1 := Lib.hid e1
  have E2 := Lib.hid e2
  clear e0 e1 e2
  have k0 := Lib.hid (L8.fresh t.gn t.gd t.bn t.bd t.an t.ad t.en t.ed w 25)
  have hB := (Below.refl w.heap.size w).alloc (Nat.le_refl _) (.cells #[.int .i64 t.gn, .int .i64 t.gd, .int .i64 t.bn, .int .i64 t.bd, .int .i64 t.an, .int .i64 t.ad, .int .i64 t.en, .int .i64 t.ed] 25)
  go_enter Try.func8, Try.ntmps8
  go_wp2_with fail
  ((with_reducible refine (Decide_good t ht _ _ (a % 40) (c % 40) (by omega) (by omega) (by omega) 2 E0.out _).mono ?_); rintro e w1 ⟨rfl, hb1⟩)
  have k1 := Lib.hid (k0.out.below hb1 k0.out.lt)
  have B1 := hB.trans (hb1.mono hB.size)
  obtain ⟨c0, c1, c2, c3, c4, c5, c6, c7, lt⟩ := k1.out
  go_wp2_with fail
  ((with_reducible refine (Decide_good t ht _ _ (a % 40 + 1) (c % 40) (by omega) (by omega) (by omega) r1 E1.out _).mono ?_); rintro e w2 ⟨rfl, hb2⟩)
  clear c0 c1 c2 c3 c4 c5 c6 c7 lt
  have k2 := Lib.hid (k1.out.below hb2 k1.out.lt)
  have B2 := B1.trans (hb2.mono B1.size)
  obtain ⟨c0, c1, c2, c3, c4, c5, c6, c7, lt⟩ := k2.out
  go_wp2_with fail
  ((with_reducible refine (Decide_good t ht _ _ (a % 40) (c % 40 + 1) (by omega) (by omega) (by omega) 2 E2.out _).mono ?_); rintro e w3 ⟨rfl, hb3⟩)
  have B3 := B2.trans (hb3.mono B2.size)
  go_wp2_with fail
  ((with_reducible refine (awake_any _).mono ?_); rintro e w4 ⟨rfl, hb4⟩)
  go_wp2
  go_ret
  exact ⟨rfl, B3.trans (hb4.mono B3.size)⟩

theorem mono_any (gn gd bn bd an ad en ed : Int) (a c : Nat) (ha : a < 256) (hc : c < 256) (w : World) :
    Calls Try.prog 8 #[trialV gn gd bn bd an ad en ed, .int .u8 a, .int .u8 c] w fun e w' => e = .returned (.bool true) ∧ Below w.heap.size w w' := by
  rcases Nat.lt_or_ge 39 (a % 40 + c % 40) with h | h
  · exact mono_far gn gd bn bd an ad en ed a c h ha hc w
  · rcases chk_cases gn gd bn bd an ad en ed with hk | ⟨_, t, ht, rfl, rfl, rfl, rfl, rfl, rfl, rfl, rfl⟩
    · exact mono_bad gn gd bn bd an ad en ed hk a c h ha hc w
    · rcases t.dec_cases (a % 40) (c % 40) with e | e | e
      · exact mono_zero t ht _ _ a c h ha hc w e rfl rfl
      · exact mono_one t ht _ a c h ha hc w e (ht.dec_pass _ _ e) rfl
      · exact mono_two t ht _ a c h ha hc w e rfl (ht.dec_fail _ _ e)

set_option maxRecDepth 100000 in
theorem mono_lifted (os : Os) (started : os.Started) (H : Type) (enc : TypeId × Value → H) :
    ReturnsInHanded {} Try.checked os 8 .any (Rows.sprtMonotoneSpec.pre6 enc Try.prog Try.f8 Rows.sprtMonotoneRow.domain false) (Rows.sprtMonotoneSpec.post enc Try.prog Try.f8 false true false false) := by
  refine returnsInHanded_of_change (C := Try.checked) ownK started (by kernel_rfl) Try.func8
    (ChangeSpec.witness6 (enc := enc) (C := Try.checked) false ⟨#[], #[trialV 0 0 0 0 0 0 0 0, .int .u8 0, .int .u8 0], []⟩ 8 (by kernel_rfl) (by kernel_rfl) (by kernel_rfl) (by kernel_rfl)) ?_
  intro W base args ds gs before hval0 hW hcnd _
  have hval : ∀ (j : Nat) t v, Try.f8.params[j]? = some t → args[j]? = some v → Value.okWide Try.prog W .any base t v := hval0
  have hW' := hW
  obtain ⟨p, q, hA0, hV, rfl, hfz, hnd⟩ := hW
  have hA : DataW.TrodAll enc Try.prog W 0 (fun _ => true) true Try.f8.params.toList args.toList ds p := hA0
  rw [Try.params8] at hA hval
  obtain ⟨v0, v1, v2, d0, d1, d2, p0, p1, p2, rfl, rfl, rfl, h0, h1, h2⟩ := trodAll_three hA
  obtain ⟨rfl, rfl⟩ := trodVars_none hV
  have k0 := h0
  have lt0 : ∀ x ∈ p0, x.block < W.heap.size := by obtain ⟨m, hm⟩ := k0; exact DataW.trod_lt m _ _ _ hm
  obtain ⟨gn, gd, bn, bd, an, ad, en, ed, rfl⟩ := open_trial (hval 0 25 v0 rfl rfl) h0
  obtain ⟨z1, rfl, rfl, rfl, w1⟩ := open_int Try.underlying5 (hval 1 5 v1 rfl rfl) h1
  obtain ⟨z2, rfl, rfl, rfl, w2⟩ := open_int Try.underlying5 (hval 2 5 v2 rfl rfl) h2
  have b1 := u8_bounds w1
  have b2 := u8_bounds w2
  obtain ⟨a, rfl⟩ := Int.eq_ofNat_of_zero_le b1.1
  obtain ⟨c, rfl⟩ := Int.eq_ofNat_of_zero_le b2.1
  clear hA0 hval0
  refine (mono_any gn gd bn bd an ad en ed a c (by omega) (by omega) W).mono fun e W' ⟨he, bel⟩ => ?_
  subst he
  exact ⟨_, rfl, _, _, _, [], _, [], hW', trodAll_mk1 (shut_bool Try.underlying4 _), (trodAll_cons_mk (Below.trod laidOut (by kernel_rfl) (of_decide_eq_true (by kernel_rfl)) k0 bel lt0) (trodAll_cons_mk (shut_int Try.underlying5 w1) (trodAll_cons_mk (shut_int Try.underlying5 w2) trodAll_mk0))), rfl, bel.frame _, fun h => by cases h⟩

theorem mono_holds : Rows.SprtMonotoneSaid :=
  OpenClaim.holds_of_wide 8 Try.f8 rfl rfl rfl rfl rfl rfl rfl ⟨rfl, rfl, rfl, rfl, rfl⟩ rfl rfl rfl rfl rfl (by kernel_rfl) Try.func8 (by kernel_rfl)
    (of_decide_eq_true (by kernel_rfl)) (by unfold Func.isWrapper; rw [if_neg (of_decide_eq_false (by kernel_rfl))]; exact ⟨rfl, rfl⟩)
    (fun os started H enc _ => mono_lifted os started H enc)
#print axioms mono_holds
end Go.Proofs.Ytldpdoakfacdbaa
