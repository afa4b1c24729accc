/- For every trial and outcomes SprtRun returns true and leaves its arguments as they were: Run returns what the reference returns. No condition. -/
import Derived.Test.YtldpdoakfacdbaaOpen
import Derived.Test.YtldpdoakfacdbaaRefFuncs
namespace Go.Proofs.Ytldpdoakfacdbaa
open Go.ChangeShapes Go.WideShapes Go.ChangeAt Go.RowKit


set_option maxHeartbeats 2000000 in
theorem runLaw_great (gn gd bn bd an ad en ed : Int) (a : Option Addr) (len cap : Nat) (hl : 50 < len) (hm : len ≤ maxLen) (w : World) :
    Calls Try.prog 5 #[trialV gn gd bn bd an ad en ed, .slice a len cap] w fun e w' => e = .returned (.bool true) ∧ Below w.heap.size w w' := by
  unfold maxLen at hm
  have hp : (50 : Int) < len := by omega
  have B0 := (Below.refl w.heap.size w).alloc (Nat.le_refl _) (.cells #[.int .i64 gn, .int .i64 gd, .int .i64 bn, .int .i64 bd, .int .i64 an, .int .i64 ad, .int .i64 en, .int .i64 ed] 25)
  go_enter Try.func5, Try.ntmps5
  go_wp2_with fail
  ((with_reducible refine (awake_any _).mono ?_); rintro e w1 ⟨rfl, hb1⟩)
  go_wp2
  go_ret
  exact ⟨rfl, B0.trans (hb1.mono B0.size)⟩

set_option maxHeartbeats 2000000 in
theorem runLaw_bad (gn gd bn bd an ad en ed : Int) (h : chk gn gd bn bd an ad en ed = 1) (a : Option Addr) (len cap : Nat) (hl : len ≤ 50) (w : World) :
    Calls Try.prog 5 #[trialV gn gd bn bd an ad en ed, .slice a len cap] w fun e w' => e = .returned (.bool true) ∧ Below w.heap.size w w' := by
  have hp : ¬ (50 : Int) < len := by omega
  have H := Lib.hid h
  clear h
  have k0 := Lib.hid (L8.fresh gn gd bn bd an ad en ed w 25)
  have B0 := (Below.refl w.heap.size w).alloc (Nat.le_refl _) (.cells #[.int .i64 gn, .int .i64 gd, .int .i64 bn, .int .i64 bd, .int .i64 an, .int .i64 ad, .int .i64 en, .int .i64 ed] 25)
  go_enter Try.func5, Try.ntmps5
  go_wp2_with fail
  ((with_reducible refine (Run_bad gn gd bn bd an ad en ed H.out _ _).mono ?_); rintro e w1 ⟨he, hb1⟩)
  subst he
  have k1 := Lib.hid (k0.out.below hb1 k0.out.lt)
  have B1 := B0.trans (hb1.mono B0.size)
  clear hb1
  obtain ⟨c0, c1, c2, c3, c4, c5, c6, c7, lt⟩ := k1.out
  go_wp2_with fail
  ((with_reducible refine (refRun_bad gn gd bn bd an ad en ed H.out _ _).mono ?_); rintro e w2 ⟨he, hb2⟩)
  subst he
  have k2 := Lib.hid (k1.out.below hb2 k1.out.lt)
  have B2 := B1.trans (hb2.mono B1.size)
  clear hb2
  clear c0 c1 c2 c3 c4 c5 c6 c7 lt
  obtain ⟨c0, c1, c2, c3, c4, c5, c6, c7, lt⟩ := k2.out
  go_wp2_with fail
  ((with_reducible refine (awake_any _).mono ?_); rintro e w3 ⟨he, hb3⟩)
  subst he
  have k3 := Lib.hid (k2.out.below hb3 k2.out.lt)
  have B3 := B2.trans (hb3.mono B2.size)
  clear hb3
  go_wp2
  go_ret
  exact ⟨rfl, B3⟩

set_option maxHeartbeats 2000000 in
theorem runLaw_long (gn gd bn bd an ad en ed : Int) (h : chk gn gd bn bd an ad en ed = 0) (a : Option Addr) (len cap : Nat) (hl : len ≤ 50) (hl2 : 40 < len) (w : World) :
    Calls Try.prog 5 #[trialV gn gd bn bd an ad en ed, .slice a len cap] w fun e w' => e = .returned (.bool true) ∧ Below w.heap.size w w' := by
  have hp : ¬ (50 : Int) < len := by omega
  have hm : len ≤ maxLen := by unfold maxLen; omega
  have H := Lib.hid h
  have HM := Lib.hid hm
  clear h hm
  have k0 := Lib.hid (L8.fresh gn gd bn bd an ad en ed w 25)
  have B0 := (Below.refl w.heap.size w).alloc (Nat.le_refl _) (.cells #[.int .i64 gn, .int .i64 gd, .int .i64 bn, .int .i64 bd, .int .i64 an, .int .i64 ad, .int .i64 en, .int .i64 ed] 25)
  go_enter Try.func5, Try.ntmps5
  go_wp2_with fail
  ((with_reducible refine (Run_long gn gd bn bd an ad en ed H.out _ _ _ hl2 HM.out _).mono ?_); rintro e w1 ⟨he, hb1⟩)
  subst he
  have k1 := Lib.hid (k0.out.below hb1 k0.out.lt)
  have B1 := B0.trans (hb1.mono B0.size)
  clear hb1
  obtain ⟨c0, c1, c2, c3, c4, c5, c6, c7, lt⟩ := k1.out
  go_wp2_with fail
  ((with_reducible refine (refRun_long gn gd bn bd an ad en ed H.out _ _ _ hl2 HM.out _).mono ?_); rintro e w2 ⟨he, hb2⟩)
  subst he
  have k2 := Lib.hid (k1.out.below hb2 k1.out.lt)
  have B2 := B1.trans (hb2.mono B1.size)
  clear hb2
  clear c0 c1 c2 c3 c4 c5 c6 c7 lt
  obtain ⟨c0, c1, c2, c3, c4, c5, c6, c7, lt⟩ := k2.out
  go_wp2_with fail
  ((with_reducible refine (awake_any _).mono ?_); rintro e w3 ⟨he, hb3⟩)
  subst he
  have k3 := Lib.hid (k2.out.below hb3 k2.out.lt)
  have B3 := B2.trans (hb3.mono B2.size)
  clear hb3
  go_wp2
  go_ret
  exact ⟨rfl, B3⟩

set_option maxHeartbeats 2000000 in
theorem runLaw_good (t : Tr) (ht : t.Ok) (L : List Bool) (hl : L.length ≤ 40) (a : Option Addr) (cap : Nat) (d : Int) (m : Nat) (hr : runT t L 0 0 = (d, m)) (w : World) (hv : IsBools w (.slice a L.length cap) L) :
    Calls Try.prog 5 #[trialV t.gn t.gd t.bn t.bd t.an t.ad t.en t.ed, .slice a L.length cap] w fun e w' => e = .returned (.bool true) ∧ Below w.heap.size w w' := by
  have hp : ¬ (50 : Int) < L.length := by omega
  have HR := Lib.hid hr
  have HV := Lib.hid hv
  clear hr hv
  have k0 := Lib.hid (L8.fresh t.gn t.gd t.bn t.bd t.an t.ad t.en t.ed w 25)
  have B0 := (Below.refl w.heap.size w).alloc (Nat.le_refl _) (.cells #[.int .i64 t.gn, .int .i64 t.gd, .int .i64 t.bn, .int .i64 t.bd, .int .i64 t.an, .int .i64 t.ad, .int .i64 t.en, .int .i64 t.ed] 25)
  go_enter Try.func5, Try.ntmps5
  go_wp2_with fail
  ((with_reducible refine (Run_good t ht L hl _ _ (HV.out.below B0 (Nat.le_refl _)) d m HR.out).mono ?_); rintro e w1 ⟨he, hb1⟩)
  subst he
  have k1 := Lib.hid (k0.out.below hb1 k0.out.lt)
  have B1 := B0.trans (hb1.mono B0.size)
  clear hb1
  obtain ⟨c0, c1, c2, c3, c4, c5, c6, c7, lt⟩ := k1.out
  go_wp2_with fail
  ((with_reducible refine (refRun_good t ht L hl _ _ (HV.out.below B1 (Nat.le_refl _)) d m HR.out).mono ?_); rintro e w2 ⟨he, hb2⟩)
  subst he
  have k2 := Lib.hid (k1.out.below hb2 k1.out.lt)
  have B2 := B1.trans (hb2.mono B1.size)
  clear hb2
  clear c0 c1 c2 c3 c4 c5 c6 c7 lt
  obtain ⟨c0, c1, c2, c3, c4, c5, c6, c7, lt⟩ := k2.out
  go_wp2_with fail
  ((with_reducible refine (awake_any _).mono ?_); rintro e w3 ⟨he, hb3⟩)
  subst he
  have k3 := Lib.hid (k2.out.below hb3 k2.out.lt)
  have B3 := B2.trans (hb3.mono B2.size)
  clear hb3
  go_wp2
  go_ret
  exact ⟨rfl, B3⟩

theorem runLaw_any (gn gd bn bd an ad en ed : Int) (L : List Bool) (v : Value) (w : World) (hv : IsBools w v L) :
    Calls Try.prog 5 #[trialV gn gd bn bd an ad en ed, v] w fun e w' => e = .returned (.bool true) ∧ Below w.heap.size w w' := by
  have hv' := hv
  obtain ⟨a, cap, rfl, hm, hcap, _⟩ := hv'
  rcases Nat.lt_or_ge 50 L.length with h | h
  · exact runLaw_great gn gd bn bd an ad en ed a _ cap h hm w
  · rcases chk_cases gn gd bn bd an ad en ed with hk | ⟨hk, t, ht, rfl, rfl, rfl, rfl, rfl, rfl, rfl, rfl⟩
    · exact runLaw_bad gn gd bn bd an ad en ed hk a _ cap h w
    · rcases Nat.lt_or_ge 40 L.length with h2 | h2
      · exact runLaw_long _ _ _ _ _ _ _ _ hk a _ cap h h2 w
      · exact runLaw_good t ht L h2 a cap _ _ rfl w hv

theorem cell_lt {W : World} {b off : Nat} {v : Value} (h : W.cell? ⟨b, off, none⟩ = some v) : b < W.heap.size := by
  rcases Nat.lt_or_ge b W.heap.size with h' | h'
  · exact h'
  · simp [World.cell?, Array.getElem?_eq_none h'] at h

/-- A list of bools that came in. -/
theorem open_bits {H : Type} {enc : TypeId × Value → H} {W : World} {b0 : Nat} {held : Bool} {v : Value} {d : DataW H} {p : List MemPlace} (h1 : ∃ a len cap, v = .slice a len cap)
    (h : DataW.Trod enc Try.prog W b0 (fun _ => true) held 33 v d p) : ∃ L, IsBools W v L := by
  obtain ⟨a0, len0, cap0, rfl⟩ := h1
  obtain ⟨fuel, hf⟩ := h
  rcases Go.Deep.open_bools Try.underlying33 Try.underlying4 cells4 hf with ⟨e, _⟩ | ⟨a, len, cap, B, e, hb, hl, hm, hx, hc⟩
  · simp [Value.cells] at e
    obtain ⟨rfl, rfl, rfl⟩ := e
    exact ⟨[], none, 0, rfl, by simp, Nat.zero_le _, .inl rfl⟩
  · simp [Value.cells] at e
    obtain ⟨rfl, rfl, rfl⟩ := e
    refine ⟨(List.range len0).map B, some a, cap0, by simp, by simp; omega, by simpa using hl, ?_⟩
    by_cases h0 : len0 = 0
    · left; simp [h0]
    · right
      have c0 := hc 0 (by omega)
      obtain ⟨b, off, spot⟩ := a
      have hs := World.cell?_spot c0
      simp [Addr.add] at hs
      subst hs
      refine ⟨b, off, rfl, ?_, fun j hj => ?_⟩
      · exact cell_lt (by simpa [Addr.add] using c0)
      · simp at hj
        have := hc j (by omega)
        rcases Nat.eq_zero_or_pos j with rfl | hp
        · simpa [Addr.add] using this
        · simpa [Addr.add, show ¬ j = 0 by omega] using this

set_option maxRecDepth 100000 in
theorem run_lifted (os : Os) (started : os.Started) (H : Type) (enc : TypeId × Value → H) :
    ReturnsInHanded {} Try.checked os 5 .any (Rows.sprtRunSpec.pre6 enc Try.prog Try.f5 Rows.sprtRunRow.domain false) (Rows.sprtRunSpec.post enc Try.prog Try.f5 false true false false) := by
  refine returnsInHanded_of_change (C := Try.checked) ownK started (by kernel_rfl) Try.func5
    (ChangeSpec.witness6 (enc := enc) (C := Try.checked) false ⟨#[], #[trialV 0 0 0 0 0 0 0 0, .slice none 0 0], []⟩ 8 (by kernel_rfl) (by kernel_rfl) (by kernel_rfl) (by kernel_rfl)) ?_
  intro W base args ds gs before hval0 hW hcnd _
  have hval : ∀ (j : Nat) t v, Try.f5.params[j]? = some t → args[j]? = some v → Value.okWide Try.prog W .any base t v := hval0
  have hW' := hW
  obtain ⟨p, q, hA0, hV, rfl, hfz, hnd⟩ := hW
  have hA : DataW.TrodAll enc Try.prog W 0 (fun _ => true) true Try.f5.params.toList args.toList ds p := hA0
  rw [Try.params5] at hA hval
  obtain ⟨v0, v1, d0, d1, p0, p1, rfl, rfl, rfl, h0, h1⟩ := trodAll_two hA
  obtain ⟨rfl, rfl⟩ := trodVars_none hV
  have k0 := h0
  have k1 := h1
  have lt0 : ∀ x ∈ p0, x.block < W.heap.size := by obtain ⟨m, hm⟩ := k0; exact DataW.trod_lt m _ _ _ hm
  have lt1 : ∀ x ∈ p1, x.block < W.heap.size := by obtain ⟨m, hm⟩ := k1; exact DataW.trod_lt m _ _ _ hm
  obtain ⟨gn, gd, bn, bd, an, ad, en, ed, rfl⟩ := open_trial (hval 0 25 v0 rfl rfl) h0
  obtain ⟨L, hL⟩ := open_bits (okWide_slice Try.underlying33 (hval 1 33 v1 rfl rfl)) h1
  clear hA0 hval0
  refine (runLaw_any gn gd bn bd an ad en ed L v1 W hL).mono fun e W' ⟨he, bel⟩ => ?_
  subst he
  exact ⟨_, rfl, _, _, _, [], _, [], hW', trodAll_mk1 (shut_bool Try.underlying4 _), (trodAll_cons_mk (Below.trod laidOut (by kernel_rfl) (of_decide_eq_true (by kernel_rfl)) k0 bel lt0) (trodAll_cons_mk (Below.trod laidOut (by kernel_rfl) (of_decide_eq_true (by kernel_rfl)) k1 bel lt1) trodAll_mk0)), rfl, bel.frame _, fun h => by cases h⟩

theorem run_holds : Rows.SprtRunSaid :=
  OpenClaim.holds_of_wide 5 Try.f5 rfl rfl rfl rfl rfl rfl rfl ⟨rfl, rfl, rfl, rfl, rfl⟩ rfl rfl rfl rfl rfl (by kernel_rfl) Try.func5 (by kernel_rfl)
    (of_decide_eq_true (by kernel_rfl)) (by unfold Func.isWrapper; rw [if_neg (of_decide_eq_false (by kernel_rfl))]; exact ⟨rfl, rfl⟩)
    (fun os started H enc _ => run_lifted os started H enc)
#print axioms run_holds
end Go.Proofs.Ytldpdoakfacdbaa
