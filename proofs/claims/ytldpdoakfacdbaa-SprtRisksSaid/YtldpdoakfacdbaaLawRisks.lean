/- For every trial and number SprtRisks returns true and leaves its arguments as they were: a good test is refused, and a bad one accepted, with at most the chances that the risks allow. No condition. -/
import Derived.Test.YtldpdoakfacdbaaOpen
import Derived.Test.YtldpdoakfacdbaaWeight
import Derived.BigQuiet
import Derived.Deep.QuietTactic
namespace Go.Proofs.Ytldpdoakfacdbaa
open Go.ChangeShapes Go.WideShapes Go.ChangeAt Go.RowKit

theorem u8_in {n : Int} (h : (Lit.int .u8 n).wf = true) : 0 ≤ n ∧ n < 256 := by
  simp [Lit.wf, IntKind.min, IntKind.max, IntKind.bits, IntKind.signed] at h
  omega
theorem pow20 (d k : Nat) (hd : d ≤ 20) (hk : k ≤ 11) : d ^ k ≤ 204800000000000 :=
  Nat.le_trans (Nat.pow_le_pow_left hd k) (Nat.le_trans (Nat.pow_le_pow_right (by omega) hk) (by decide))
theorem weight_z (L : List EndR) (D : Int) (a b d n r : Nat) (hd : a + b = d) (ha : 1 ≤ a) (hb : 1 ≤ b) (hab : d ≤ 20) (hn : n ≤ 11) (hL : ∀ e ∈ L, e.p + e.f ≤ n ∧ 1 ≤ e.c ∧ e.c ≤ 4096) (hP : weighP a b n L ≤ 204800000000000)
    (v : Value) (w : World) (hv : IsEnds w v L) (hr : weighD a b n D L = r) :
    Calls Try.prog 22 #[v, .int .i64 D, .agg #[.int .i64 a, .int .i64 d], .int .i64 n] w fun e w' => e = .returned (.tuple #[.int .i64 r, .bool true]) ∧ Below w.heap.size w w' := by
  subst hd hr
  exact weight_good L D a b n ha hb hab hn hL hP v w hv

set_option maxHeartbeats 1000000 in
theorem riskLaw_bad (gn gd bn bd an ad en ed : Int) (hk : chk gn gd bn bd an ad en ed = 1) (a : Nat) (ha : a < 256) (w : World) :
    Calls Try.prog 10 #[trialV gn gd bn bd an ad en ed, .int .u8 a] w fun e w' => e = .returned (.bool true) ∧ Below w.heap.size w w' := by
  have HK := Lib.hid hk
  clear hk
  have k0 := Lib.hid (L8.fresh gn gd bn bd an ad en ed w 25)
  have hB := (Below.refl w.heap.size w).alloc (Nat.le_refl _) (.cells #[.int .i64 gn, .int .i64 gd, .int .i64 bn, .int .i64 bd, .int .i64 an, .int .i64 ad, .int .i64 en, .int .i64 ed] 25)
  go_enter Try.func10, Try.ntmps10
  go_wp2_with fail
  ((with_reducible refine (ends_bad gn gd bn bd an ad en ed _ HK.out _).mono ?_); rintro e w1 ⟨rfl, hb1⟩)
  have k1 := Lib.hid (k0.out.below hb1 k0.out.lt)
  have B1 := hB.trans (hb1.mono hB.size)
  clear hb1
  obtain ⟨c0, c1, c2, c3, c4, c5, c6, c7, lt⟩ := k1.out
  go_wp2_with fail
  ((with_reducible refine (check_any gn gd bn bd an ad en ed _).mono ?_); rintro e w2 ⟨he, hb2⟩)
  rw [HK.out] at he
  subst he
  have B2 := B1.trans (hb2.mono B1.size)
  clear hb2
  go_wp2_with fail
  ((with_reducible refine (awake_any _).mono ?_); rintro e w3 ⟨rfl, hb3⟩)
  go_wp2
  go_ret
  exact ⟨rfl, B2.trans (hb3.mono B2.size)⟩

set_option maxRecDepth 100000 in
set_option maxHeartbeats 4000000 in
theorem riskLaw_good (t : Tr) (ht : t.Ok) (a : Nat) (ha : a < 256) (w : World) :
    Calls Try.prog 10 #[trialV t.gn t.gd t.bn t.bd t.an t.ad t.en t.ed, .int .u8 a] w fun e w' => e = .returned (.bool true) ∧ Below w.heap.size w w' := by
  obtain ⟨k, hk⟩ : ∃ k, k = a % 12 := ⟨_, rfl⟩
  have hk11 : k ≤ 11 := by omega
  have hka : (a : Int) % 12 = (k : Int) := by omega
  have HKA := Lib.hid hka
  clear hk hka
  have HK := Lib.hid (chk_ok ht)
  have hm := outsE_mem t.dec k (k + 1)
  have hL : ∀ e ∈ outsE t.dec k (k + 1), e.p + e.f ≤ k ∧ 1 ≤ e.c ∧ e.c ≤ 4096 := fun e he => by
    obtain ⟨m1, _, m3, m4, _⟩ := hm e he
    exact ⟨by omega, m3, Nat.le_trans m4 (Nat.le_trans (Nat.pow_le_pow_right (by omega) (show e.p + e.f ≤ 12 by omega)) (by decide))⟩
  obtain ⟨g1, g2, g3⟩ := ht.g
  obtain ⟨b1, b2, b3⟩ := ht.b
  obtain ⟨a1, a2, a3⟩ := ht.a
  obtain ⟨e1, e2, e3⟩ := ht.e
  have p1 := outs_allP t.dec k t.gn (t.gd - t.gn)
  have p2 := outs_allP t.dec k t.bn (t.bd - t.bn)
  have s1 := risk_refused ht k
  have s2 := risk_accepted ht k
  rw [show t.gn + (t.gd - t.gn) = t.gd by omega] at p1
  rw [show t.bn + (t.bd - t.bn) = t.bd by omega] at p2
  have x1 := pow20 t.gd k g3 hk11
  have x2 := pow20 t.bd k b3 hk11
  have P1 : Hid (weighP t.gn (t.gd - t.gn) k (outsE t.dec k (k + 1)) ≤ 204800000000000) := Lib.hid (by rw [p1]; exact x1)
  have P2 : Hid (weighP t.bn (t.bd - t.bn) k (outsE t.dec k (k + 1)) ≤ 204800000000000) := Lib.hid (by rw [p2]; exact x2)
  have y1 := Nat.le_trans (weighD_le t.gn (t.gd - t.gn) k 2 (outsE t.dec k (k + 1))) P1.out
  have y2 := Nat.le_trans (weighD_le t.bn (t.bd - t.bn) k 1 (outsE t.dec k (k + 1))) P2.out
  clear p1 p2 hm
  obtain ⟨G, hG⟩ : ∃ G, weighD t.gn (t.gd - t.gn) k 2 (outsE t.dec k (k + 1)) = G := ⟨_, rfl⟩
  obtain ⟨Bd, hBd⟩ : ∃ B, weighD t.bn (t.bd - t.bn) k 1 (outsE t.dec k (k + 1)) = B := ⟨_, rfl⟩
  rw [hG] at s1 y1
  rw [hBd] at s2 y2
  have HG := Lib.hid hG
  have HBd := Lib.hid hBd
  have S1 := Lib.hid s1
  have S2 := Lib.hid s2
  have HL := Lib.hid hL
  have X1 := Lib.hid x1
  have X2 := Lib.hid x2
  clear hG hBd s1 s2 hL x1 x2
  have k0 := Lib.hid (L8.fresh t.gn t.gd t.bn t.bd t.an t.ad t.en t.ed w 25)
  have hB := (Below.refl w.heap.size w).alloc (Nat.le_refl _) (.cells #[.int .i64 t.gn, .int .i64 t.gd, .int .i64 t.bn, .int .i64 t.bd, .int .i64 t.an, .int .i64 t.ad, .int .i64 t.en, .int .i64 t.ed] 25)
  go_enter Try.func10, Try.ntmps10
  go_wp2_with fail
  rw [HKA.out]
  ((with_reducible refine (ends_good t ht k (by omega) _).mono ?_); rintro e w1 ⟨v1, rfl, i1, hb1⟩)
  have k1 := Lib.hid (k0.out.below hb1 k0.out.lt)
  have B1 := hB.trans (hb1.mono hB.size)
  have I1 := Lib.hid i1
  clear hb1 hB i1
  obtain ⟨c0, c1, c2, c3, c4, c5, c6, c7, lt⟩ := k1.out
  go_wp2_with fail
  ((with_reducible refine (refCheck_any _ _ _ _ _ _ _ _ _).mono ?_); rintro e w2 ⟨he, hb2⟩)
  rw [HK.out] at he
  subst he
  have k2 := Lib.hid (k1.out.below hb2 k1.out.lt)
  have I2 := Lib.hid (I1.out.below hb2 (Nat.le_refl _))
  have B2 := B1.trans (hb2.mono B1.size)
  clear hb2 c0 c1 c2 c3 c4 c5 c6 c7 lt
  obtain ⟨c0, c1, c2, c3, c4, c5, c6, c7, lt⟩ := k2.out
  go_wp2_with fail
  ((with_reducible refine (weight_z _ 2 t.gn (t.gd - t.gn) t.gd k G (by omega) (by omega) (by omega) (by omega) (by omega) HL.out P1.out _ _ I2.out HG.out).mono ?_); rintro e w3 ⟨rfl, hb3⟩)
  have k3 := Lib.hid (k2.out.below hb3 k2.out.lt)
  have I3 := Lib.hid (I2.out.below hb3 (Nat.le_refl _))
  have B3 := B2.trans (hb3.mono B2.size)
  clear hb3 c0 c1 c2 c3 c4 c5 c6 c7 lt
  obtain ⟨c0, c1, c2, c3, c4, c5, c6, c7, lt⟩ := k3.out
  go_wp2_with fail
  ((with_reducible refine (weight_z _ 1 t.bn (t.bd - t.bn) t.bd k Bd (by omega) (by omega) (by omega) (by omega) (by omega) HL.out P2.out _ _ I3.out HBd.out).mono ?_); rintro e w4 ⟨rfl, hb4⟩)
  have k4 := Lib.hid (k3.out.below hb4 k3.out.lt)
  have B4' := B3.trans (hb4.mono B3.size)
  clear hb4 c0 c1 c2 c3 c4 c5 c6 c7 lt I1 I2 I3 k0 k1 k2 k3 B1 B2 B3
  go_wp2
  go_loopw [12, 13, 54] (fun s12 s13 s54 wr => ∃ (i m1 m2 : Nat), i ≤ k ∧ s54 = .int .i64 i ∧ s12 = .int .i64 m1 ∧ s13 = .int .i64 m2 ∧ Hid (m1 = t.gd ^ i) ∧ Hid (m2 = t.bd ^ i) ∧ L8 t.gn t.gd t.bn t.bd t.an t.ad t.en t.ed w.heap.size wr ∧ Below w.heap.size w wr) (fun _ _ i _ => k - (intOf i).toNat)
  case atStart => exact ⟨0, 1, 1, Nat.zero_le _, rfl, rfl, rfl, Lib.hid (by simp), Lib.hid (by simp), k4.out, B4'⟩
  case round =>
    obtain ⟨i, m1, m2, hi, rfl, rfl, rfl, hm1, hm2, kk, hB⟩ := hrel
    have K := Lib.hid kk
    obtain ⟨c0, c1, c2, c3, c4, c5, c6, c7, lt⟩ := kk
    by_cases hlt : i < k
    · obtain ⟨q1, hq1⟩ : ∃ q, q = m1 * t.gd := ⟨_, rfl⟩
      obtain ⟨q2, hq2⟩ : ∃ q, q = m2 * t.bd := ⟨_, rfl⟩
      have hp1 : q1 = t.gd ^ (i + 1) := by rw [hq1, hm1.out, Nat.pow_succ]
      have hp2 : q2 = t.bd ^ (i + 1) := by rw [hq2, hm2.out, Nat.pow_succ]
      have l1 : q1 ≤ 204800000000000 := by rw [hp1]; exact pow20 _ _ g3 (by omega)
      have l2 : q2 ≤ 204800000000000 := by rw [hp2]; exact pow20 _ _ b3 (by omega)
      have f1 : IntKind.i64.wrap ((m1 : Int) * (t.gd : Int)) = (q1 : Int) := by rw [show (m1 : Int) * (t.gd : Int) = (q1 : Int) by rw [hq1]; simp]; exact IntWalk.i64_in _ (by omega)
      have f2 : IntKind.i64.wrap ((m2 : Int) * (t.bd : Int)) = (q2 : Int) := by rw [show (m2 : Int) * (t.bd : Int) = (q2 : Int) by rw [hq2]; simp]; exact IntWalk.i64_in _ (by omega)
      have H1 := Lib.hid hp1
      have H2 := Lib.hid hp2
      clear hq1 hq2 hp1 hp2
      go_wp2
      go_quiet (fail)
      go_wp2
      go_roundw
      case rel => exact ⟨i + 1, q1, q2, by omega, by go_num, rfl, rfl, H1, H2, ⟨K.out.c0, K.out.c1, K.out.c2, K.out.c3, K.out.c4, K.out.c5, K.out.c6, K.out.c7, K.out.lt⟩, ⟨hB.os, hB.tape, hB.output, hB.size, hB.block⟩⟩
      case measure => simp [intOf]; omega
    · obtain rfl : i = k := by omega
      have l1 : m1 ≤ 204800000000000 := by rw [hm1.out]; exact X1.out
      have l2 : m2 ≤ 204800000000000 := by rw [hm2.out]; exact X2.out
      obtain ⟨u1, v1⟩ : ∃ q : Nat, G * (t.ed - t.en) = q := ⟨_, rfl⟩
      obtain ⟨u2, v2⟩ : ∃ q : Nat, u1 * t.ad = q := ⟨_, rfl⟩
      obtain ⟨u3, v3⟩ : ∃ q : Nat, m1 * t.an = q := ⟨_, rfl⟩
      obtain ⟨u4, v4⟩ : ∃ q : Nat, u3 * t.ed = q := ⟨_, rfl⟩
      obtain ⟨u5, v5⟩ : ∃ q : Nat, Bd * (t.ad - t.an) = q := ⟨_, rfl⟩
      obtain ⟨u6, v6⟩ : ∃ q : Nat, u5 * t.ed = q := ⟨_, rfl⟩
      obtain ⟨u7, v7⟩ : ∃ q : Nat, m2 * t.en = q := ⟨_, rfl⟩
      obtain ⟨u8, v8⟩ : ∃ q : Nat, u7 * t.ad = q := ⟨_, rfl⟩
      have o1 : u1 ≤ 204800000000000 * 20 := by rw [← v1]; exact Nat.mul_le_mul y1 (by omega)
      have o2 : u2 ≤ 204800000000000 * 20 * 20 := by rw [← v2]; exact Nat.mul_le_mul o1 (by omega)
      have o3 : u3 ≤ 204800000000000 * 20 := by rw [← v3]; exact Nat.mul_le_mul l1 (by omega)
      have o4 : u4 ≤ 204800000000000 * 20 * 20 := by rw [← v4]; exact Nat.mul_le_mul o3 (by omega)
      have o5 : u5 ≤ 204800000000000 * 20 := by rw [← v5]; exact Nat.mul_le_mul y2 (by omega)
      have o6 : u6 ≤ 204800000000000 * 20 * 20 := by rw [← v6]; exact Nat.mul_le_mul o5 (by omega)
      have o7 : u7 ≤ 204800000000000 * 20 := by rw [← v7]; exact Nat.mul_le_mul l2 (by omega)
      have o8 : u8 ≤ 204800000000000 * 20 * 20 := by rw [← v8]; exact Nat.mul_le_mul o7 (by omega)
      have i1 : u2 ≤ u4 := by rw [← v2, ← v1, ← v4, ← v3, hm1.out]; exact S1.out
      have i2 : u6 ≤ u8 := by rw [← v6, ← v5, ← v8, ← v7, hm2.out]; exact S2.out
      have f1 : (G : Int) * ((t.ed : Int) - (t.en : Int)) = (u1 : Int) := by rw [← v1, show ((t.ed : Int) - (t.en : Int)) = ((t.ed - t.en : Nat) : Int) by omega]; simp
      have f2 : (u1 : Int) * (t.ad : Int) = (u2 : Int) := by rw [← v2]; simp
      have f3 : (m1 : Int) * (t.an : Int) = (u3 : Int) := by rw [← v3]; simp
      have f4 : (u3 : Int) * (t.ed : Int) = (u4 : Int) := by rw [← v4]; simp
      have f5 : (Bd : Int) * ((t.ad : Int) - (t.an : Int)) = (u5 : Int) := by rw [← v5, show ((t.ad : Int) - (t.an : Int)) = ((t.ad - t.an : Nat) : Int) by omega]; simp
      have f6 : (u5 : Int) * (t.ed : Int) = (u6 : Int) := by rw [← v6]; simp
      have f7 : (m2 : Int) * (t.en : Int) = (u7 : Int) := by rw [← v7]; simp
      have f8 : (u7 : Int) * (t.ad : Int) = (u8 : Int) := by rw [← v8]; simp
      clear v1 v2 v3 v4 v5 v6 v7 v8 S1 S2 X1 X2
      go_wp2_with fail
      ((with_reducible refine (awake_any _).mono ?_); rintro e w5 ⟨rfl, hb5⟩)
      go_wp2
      go_ret
      exact ⟨rfl, hB.trans (hb5.mono hB.size)⟩

theorem riskLaw_any (gn gd bn bd an ad en ed : Int) (a : Nat) (ha : a < 256) (w : World) :
    Calls Try.prog 10 #[trialV gn gd bn bd an ad en ed, .int .u8 a] w fun e w' => e = .returned (.bool true) ∧ Below w.heap.size w w' := by
  rcases chk_cases gn gd bn bd an ad en ed with hk | ⟨_, t, ht, rfl, rfl, rfl, rfl, rfl, rfl, rfl, rfl⟩
  · exact riskLaw_bad gn gd bn bd an ad en ed hk a ha w
  · exact riskLaw_good t ht a ha w

set_option maxRecDepth 100000 in
theorem risk_lifted (os : Os) (started : os.Started) (H : Type) (enc : TypeId × Value → H) :
    ReturnsInHanded {} Try.checked os 10 .any (Rows.sprtRisksSpec.pre6 enc Try.prog Try.f10 Rows.sprtRisksRow.domain false) (Rows.sprtRisksSpec.post enc Try.prog Try.f10 false true false false) := by
  refine returnsInHanded_of_change (C := Try.checked) ownK started (by kernel_rfl) Try.func10
    (ChangeSpec.witness6 (enc := enc) (C := Try.checked) false ⟨#[], #[trialV 0 0 0 0 0 0 0 0, .int .u8 0], []⟩ 8 (by kernel_rfl) (by kernel_rfl) (by kernel_rfl) (by kernel_rfl)) ?_
  intro W base args ds gs before hval0 hW hcnd _
  have hval : ∀ (j : Nat) t v, Try.f10.params[j]? = some t → args[j]? = some v → Value.okWide Try.prog W .any base t v := hval0
  have hW' := hW
  obtain ⟨p, q, hA0, hV, rfl, hfz, hnd⟩ := hW
  have hA : DataW.TrodAll enc Try.prog W 0 (fun _ => true) true Try.f10.params.toList args.toList ds p := hA0
  rw [Try.params10] at hA hval
  obtain ⟨v0, v1, d0, d1, p0, p1, rfl, rfl, rfl, h0, h1⟩ := trodAll_two hA
  obtain ⟨rfl, rfl⟩ := trodVars_none hV
  have k0 := h0
  have lt0 : ∀ x ∈ p0, x.block < W.heap.size := by obtain ⟨m, hm⟩ := k0; exact DataW.trod_lt m _ _ _ hm
  obtain ⟨gn, gd, bn, bd, an, ad, en, ed, rfl⟩ := open_trial (hval 0 25 v0 rfl rfl) h0
  obtain ⟨z1, rfl, rfl, rfl, w1⟩ := open_int Try.underlying5 (hval 1 5 v1 rfl rfl) h1
  have b1 := u8_in w1
  obtain ⟨a, rfl⟩ := Int.eq_ofNat_of_zero_le b1.1
  clear hA0 hval0
  refine (riskLaw_any gn gd bn bd an ad en ed a (by omega) W).mono fun e W' ⟨he, bel⟩ => ?_
  subst he
  exact ⟨_, rfl, _, _, _, [], _, [], hW', trodAll_mk1 (shut_bool Try.underlying4 _), (trodAll_cons_mk (Below.trod laidOut (by kernel_rfl) (of_decide_eq_true (by kernel_rfl)) k0 bel lt0) (trodAll_cons_mk (shut_int Try.underlying5 w1) trodAll_mk0)), rfl, bel.frame _, fun h => by cases h⟩

theorem risk_holds : Rows.SprtRisksSaid :=
  OpenClaim.holds_of_wide 10 Try.f10 rfl rfl rfl rfl rfl rfl rfl ⟨rfl, rfl, rfl, rfl, rfl⟩ rfl rfl rfl rfl rfl (by kernel_rfl) Try.func10 (by kernel_rfl)
    (of_decide_eq_true (by kernel_rfl)) (by unfold Func.isWrapper; rw [if_neg (of_decide_eq_false (by kernel_rfl))]; exact ⟨rfl, rfl⟩)
    (fun os started H enc _ => risk_lifted os started H enc)
#print axioms risk_holds
end Go.Proofs.Ytldpdoakfacdbaa
