/- For every trial and outcomes SprtFirst returns true and leaves its arguments as they were: Run stops at the first beginning of the outcomes with a decision. No condition. -/
import Derived.Test.YtldpdoakfacdbaaLawRun
namespace Go.Proofs.Ytldpdoakfacdbaa
open Go.ChangeShapes Go.WideShapes Go.ChangeAt Go.RowKit

set_option maxHeartbeats 2000000 in
theorem firstLaw_great (gn gd bn bd an ad en ed : Int) (a : Option Addr) (len cap : Nat) (hl : 40 < len) (hm : len ≤ maxLen) (w : World) :
    Calls Try.prog 7 #[trialV gn gd bn bd an ad en ed, .slice a len cap] w fun e w' => e = .returned (.bool true) ∧ Below w.heap.size w w' := by
  unfold maxLen at hm
  have hp : (40 : Int) < len := by omega
  have B0 := (Below.refl w.heap.size w).alloc (Nat.le_refl _) (.cells #[.int .i64 gn, .int .i64 gd, .int .i64 bn, .int .i64 bd, .int .i64 an, .int .i64 ad, .int .i64 en, .int .i64 ed] 25)
  go_enter Try.func7, Try.ntmps7
  go_wp2_with fail
  ((with_reducible refine (awake_any _).mono ?_); rintro e w1 ⟨rfl, hb1⟩)
  go_wp2
  go_ret
  exact ⟨rfl, B0.trans (hb1.mono B0.size)⟩

set_option maxHeartbeats 2000000 in
theorem firstLaw_bad (gn gd bn bd an ad en ed : Int) (h : chk gn gd bn bd an ad en ed = 1) (a : Option Addr) (len cap : Nat) (hl : len ≤ 40) (w : World) :
    Calls Try.prog 7 #[trialV gn gd bn bd an ad en ed, .slice a len cap] w fun e w' => e = .returned (.bool true) ∧ Below w.heap.size w w' := by
  have hp : ¬ (40 : Int) < len := by omega
  have H := Lib.hid h
  clear h
  have k0 := Lib.hid (L8.fresh gn gd bn bd an ad en ed w 25)
  have B0 := (Below.refl w.heap.size w).alloc (Nat.le_refl _) (.cells #[.int .i64 gn, .int .i64 gd, .int .i64 bn, .int .i64 bd, .int .i64 an, .int .i64 ad, .int .i64 en, .int .i64 ed] 25)
  go_enter Try.func7, Try.ntmps7
  go_wp2_with fail
  ((with_reducible refine (Run_bad gn gd bn bd an ad en ed H.out _ _).mono ?_); rintro e w1 ⟨rfl, hb1⟩)
  have k1 := Lib.hid (k0.out.below hb1 k0.out.lt)
  have B1 := B0.trans (hb1.mono B0.size)
  obtain ⟨c0, c1, c2, c3, c4, c5, c6, c7, lt⟩ := k1.out
  go_wp2_with fail
  ((with_reducible refine (check_any gn gd bn bd an ad en ed _).mono ?_); rintro e w2 ⟨he, hb2⟩)
  rw [H.out] at he
  subst he
  have B2 := B1.trans (hb2.mono B1.size)
  go_wp2_with fail
  ((with_reducible refine (awake_any _).mono ?_); rintro e w3 ⟨rfl, hb3⟩)
  go_wp2
  go_ret
  exact ⟨rfl, B2.trans (hb3.mono B2.size)⟩

set_option maxHeartbeats 4000000 in
theorem firstLaw_good (t : Tr) (h : t.Ok) (L : List Bool) (hl : L.length ≤ 40) (v : Value) (w : World) (hv : IsBools w v L) (d : Int) (m : Nat) (hr : runT t L 0 0 = (d, m)) :
    Calls Try.prog 7 #[trialV t.gn t.gd t.bn t.bd t.an t.ad t.en t.ed, v] w fun e w' => e = .returned (.bool true) ∧ Below w.heap.size w w' := by
  have hv0 := Lib.hid hv
  obtain ⟨a, cap, rfl, hmax, hcap, hcells⟩ := hv
  have hp : ¬ (40 : Int) < L.length := by omega
  have HC := Lib.hid hcells
  have HR := Lib.hid hr
  clear hr hcells hmax
  have k := Lib.hid (L8.fresh t.gn t.gd t.bn t.bd t.an t.ad t.en t.ed w 25)
  have B0 := (Below.refl w.heap.size w).alloc (Nat.le_refl _) (.cells #[.int .i64 t.gn, .int .i64 t.gd, .int .i64 t.bn, .int .i64 t.bd, .int .i64 t.an, .int .i64 t.ad, .int .i64 t.en, .int .i64 t.ed] 25)
  go_enter Try.func7, Try.ntmps7
  go_wp2_with fail
  ((with_reducible refine (Run_good t h L hl _ _ (hv0.out.below B0 (Nat.le_refl _)) d m HR.out).mono ?_); rintro e w1 ⟨rfl, hb1⟩)
  have k1 := Lib.hid (k.out.below hb1 k.out.lt)
  have B1 := B0.trans (hb1.mono B0.size)
  clear hb1 B0 k
  go_wp2
  go_loopw [8, 35] (fun s8 s35 wr => ∃ (p f q : Nat), q ≤ L.length ∧ p + f ≤ q ∧ s8 = .int .i64 p ∧ s35 = .int .i64 q ∧ Hid (p + f = q) ∧ Hid (runT t (L.drop q) p f = (d, m)) ∧
      L8 t.gn t.gd t.bn t.bd t.an t.ad t.en t.ed w.heap.size wr ∧ Below w.heap.size w wr) (fun _ i _ => L.length - (intOf i).toNat)
  case atStart => exact ⟨0, 0, 0, Nat.zero_le _, Nat.le_refl _, rfl, rfl, rfl, HR.out, k1.out, B1⟩
  case round =>
    obtain ⟨p, f, q, hq, hpf, rfl, rfl, hpq, hrun, k2, B2⟩ := hrel
    have HQ := Lib.hid hpq
    have K := Lib.hid k2
    clear hpq
    by_cases hlt : q < L.length
    · obtain ⟨b, off, rfl, hb, hcell⟩ := HC.out.resolve_left (by intro e; rw [e] at hlt; simp at hlt)
      have hc := (B2.cell (p := ⟨b, off + q, none⟩) hb).trans (hcell q hlt)
      have hrun' : runT t (L.drop q) p f = (d, m) := hrun
      rw [List.drop_eq_getElem_cons hlt] at hrun'
      obtain ⟨c0, c1, c2, c3, c4, c5, c6, c7, lt⟩ := k2
      clear hrun hcell
      obtain hx | hx := bool_or L[q]
      · rw [hx] at hc
        rw [hx, runT] at hrun'
        by_cases hd : t.dec (p) (f + 1) = 0
        · rw [if_pos hd] at hrun'
          have HD := Lib.hid hd
          have HN := Lib.hid hrun'
          clear hd hrun' hx
          go_wp2_with fail
          ((with_reducible refine (Decide_good t h _ _ (p) (f + 1) (by simp) (by have := HQ.out.out; omega) (by omega) 0 HD.out _).mono ?_); rintro e w2 ⟨rfl, hb2⟩)
          go_wp2
          go_roundw
          case rel => exact ⟨p, f + 1, q + 1, by omega, by omega, rfl, by go_num, Lib.hid (by have := HQ.out.out; omega), HN.out, K.out.below hb2 K.out.lt, B2.trans (hb2.mono B2.size)⟩
          case measure => simp [intOf]; omega
        · rw [if_neg hd] at hrun'
          obtain ⟨hd1, hd2⟩ := Prod.mk.inj hrun'
          have HD := Lib.hid hd1
          have hne : (d == 0) = false := by rw [← hd1]; simpa using hd
          have hne2 : (d != 0) = true := by rw [← hd1]; simpa using hd
          have hmq : ((m : Int) == (q : Int) + 1) = true := by have := HQ.out.out; simp; omega
          clear hd hrun' hx hd1 hd2
          go_wp2_with fail
          ((with_reducible refine (Decide_good t h _ _ (p) (f + 1) (by simp) (by have := HQ.out.out; omega) (by omega) d HD.out _).mono ?_); rintro e w2 ⟨rfl, hb2⟩)
          have B3 := B2.trans (hb2.mono B2.size)
          go_wp2_with fail
          ((with_reducible refine (awake_any _).mono ?_); rintro e w3 ⟨rfl, hb3⟩)
          go_wp2
          go_ret
          exact ⟨rfl, B3.trans (hb3.mono B3.size)⟩
      · rw [hx] at hc
        rw [hx, runT] at hrun'
        by_cases hd : t.dec (p + 1) (f) = 0
        · rw [if_pos hd] at hrun'
          have HD := Lib.hid hd
          have HN := Lib.hid hrun'
          clear hd hrun' hx
          go_wp2_with fail
          ((with_reducible refine (Decide_good t h _ _ (p + 1) (f) (by simp) (by have := HQ.out.out; omega) (by omega) 0 HD.out _).mono ?_); rintro e w2 ⟨rfl, hb2⟩)
          go_wp2
          go_roundw
          case rel => exact ⟨p + 1, f, q + 1, by omega, by omega, rfl, by go_num, Lib.hid (by have := HQ.out.out; omega), HN.out, K.out.below hb2 K.out.lt, B2.trans (hb2.mono B2.size)⟩
          case measure => simp [intOf]; omega
        · rw [if_neg hd] at hrun'
          obtain ⟨hd1, hd2⟩ := Prod.mk.inj hrun'
          have HD := Lib.hid hd1
          have hne : (d == 0) = false := by rw [← hd1]; simpa using hd
          have hne2 : (d != 0) = true := by rw [← hd1]; simpa using hd
          have hmq : ((m : Int) == (q : Int) + 1) = true := by have := HQ.out.out; simp; omega
          clear hd hrun' hx hd1 hd2
          go_wp2_with fail
          ((with_reducible refine (Decide_good t h _ _ (p + 1) (f) (by simp) (by have := HQ.out.out; omega) (by omega) d HD.out _).mono ?_); rintro e w2 ⟨rfl, hb2⟩)
          have B3 := B2.trans (hb2.mono B2.size)
          go_wp2_with fail
          ((with_reducible refine (awake_any _).mono ?_); rintro e w3 ⟨rfl, hb3⟩)
          go_wp2
          go_ret
          exact ⟨rfl, B3.trans (hb3.mono B3.size)⟩
    · have hrun' : runT t (L.drop q) p f = (d, m) := hrun
      rw [List.drop_eq_nil_of_le (by omega), runT] at hrun'
      obtain ⟨rfl, hm⟩ := Prod.mk.inj hrun'
      have hm2 : ((m : Int) == (L.length : Int)) = true := by have := HQ.out.out; simp; omega
      clear hrun hrun' hm k2
      go_wp2_with fail
      ((with_reducible refine (awake_any _).mono ?_); rintro e w3 ⟨rfl, hb3⟩)
      go_wp2
      go_ret
      exact ⟨rfl, B2.trans (hb3.mono B2.size)⟩

theorem firstLaw_any (gn gd bn bd an ad en ed : Int) (L : List Bool) (v : Value) (w : World) (hv : IsBools w v L) :
    Calls Try.prog 7 #[trialV gn gd bn bd an ad en ed, v] w fun e w' => e = .returned (.bool true) ∧ Below w.heap.size w w' := by
  have hv' := hv
  obtain ⟨a, cap, rfl, hm, hcap, _⟩ := hv'
  rcases Nat.lt_or_ge 40 L.length with h | h
  · exact firstLaw_great gn gd bn bd an ad en ed a _ cap h hm w
  · rcases chk_cases gn gd bn bd an ad en ed with hk | ⟨hk, t, ht, rfl, rfl, rfl, rfl, rfl, rfl, rfl, rfl⟩
    · exact firstLaw_bad gn gd bn bd an ad en ed hk a _ cap h w
    · exact firstLaw_good t ht L h _ w hv _ _ rfl

set_option maxRecDepth 100000 in
theorem first_lifted (os : Os) (started : os.Started) (H : Type) (enc : TypeId × Value → H) :
    ReturnsInHanded {} Try.checked os 7 .any (Rows.sprtFirstSpec.pre6 enc Try.prog Try.f7 Rows.sprtFirstRow.domain false) (Rows.sprtFirstSpec.post enc Try.prog Try.f7 false true false false) := by
  refine returnsInHanded_of_change (C := Try.checked) ownK started (by kernel_rfl) Try.func7
    (ChangeSpec.witness6 (enc := enc) (C := Try.checked) false ⟨#[], #[trialV 0 0 0 0 0 0 0 0, .slice none 0 0], []⟩ 8 (by kernel_rfl) (by kernel_rfl) (by kernel_rfl) (by kernel_rfl)) ?_
  intro W base args ds gs before hval0 hW hcnd _
  have hval : ∀ (j : Nat) t v, Try.f7.params[j]? = some t → args[j]? = some v → Value.okWide Try.prog W .any base t v := hval0
  have hW' := hW
  obtain ⟨p, q, hA0, hV, rfl, hfz, hnd⟩ := hW
  have hA : DataW.TrodAll enc Try.prog W 0 (fun _ => true) true Try.f7.params.toList args.toList ds p := hA0
  rw [Try.params7] at hA hval
  obtain ⟨v0, v1, d0, d1, p0, p1, rfl, rfl, rfl, h0, h1⟩ := trodAll_two hA
  obtain ⟨rfl, rfl⟩ := trodVars_none hV
  have k0 := h0
  have k1 := h1
  have lt0 : ∀ x ∈ p0, x.block < W.heap.size := by obtain ⟨m, hm⟩ := k0; exact DataW.trod_lt m _ _ _ hm
  have lt1 : ∀ x ∈ p1, x.block < W.heap.size := by obtain ⟨m, hm⟩ := k1; exact DataW.trod_lt m _ _ _ hm
  obtain ⟨gn, gd, bn, bd, an, ad, en, ed, rfl⟩ := open_trial (hval 0 25 v0 rfl rfl) h0
  obtain ⟨L, hL⟩ := open_bits (okWide_slice Try.underlying33 (hval 1 33 v1 rfl rfl)) h1
  clear hA0 hval0
  refine (firstLaw_any gn gd bn bd an ad en ed L v1 W hL).mono fun e W' ⟨he, bel⟩ => ?_
  subst he
  exact ⟨_, rfl, _, _, _, [], _, [], hW', trodAll_mk1 (shut_bool Try.underlying4 _), (trodAll_cons_mk (Below.trod laidOut (by kernel_rfl) (of_decide_eq_true (by kernel_rfl)) k0 bel lt0) (trodAll_cons_mk (Below.trod laidOut (by kernel_rfl) (of_decide_eq_true (by kernel_rfl)) k1 bel lt1) trodAll_mk0)), rfl, bel.frame _, fun h => by cases h⟩

theorem first_holds : Rows.SprtFirstSaid :=
  OpenClaim.holds_of_wide 7 Try.f7 rfl rfl rfl rfl rfl rfl rfl ⟨rfl, rfl, rfl, rfl, rfl⟩ rfl rfl rfl rfl rfl (by kernel_rfl) Try.func7 (by kernel_rfl)
    (of_decide_eq_true (by kernel_rfl)) (by unfold Func.isWrapper; rw [if_neg (of_decide_eq_false (by kernel_rfl))]; exact ⟨rfl, rfl⟩)
    (fun os started H enc _ => first_lifted os started H enc)
#print axioms first_holds
end Go.Proofs.Ytldpdoakfacdbaa
