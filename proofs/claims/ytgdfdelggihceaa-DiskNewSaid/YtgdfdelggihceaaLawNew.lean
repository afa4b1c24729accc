/- For every number of sectors and size DiskNew returns true: the package's New answers as the reference's. No condition. -/
import Derived.Test.YtgdfdelggihceaaRefNew
import Derived.Test.YtgdfdelggihceaaLawDurable
namespace Go.Proofs.Ytgdfdelggihceaa
open Go.ChangeShapes Go.WideShapes Go.ChangeAt Go.RowKit

set_option maxHeartbeats 2000000 in
theorem new_same (n z : Int) (D : Dk) (c : Int) (w : World)
    (H1 : ∀ W, Calls Try.prog 12 #[.int .i64 n, .int .i64 z] W fun e w' => ∃ v', e = .returned (.tuple #[v', .int .i64 c]) ∧ Firm W.heap.size w' v' D ∧ Below W.heap.size W w')
    (H2 : ∀ W, Calls Try.prog 13 #[.int .i64 n, .int .i64 z] W fun e w' => ∃ v', e = .returned (.tuple #[v', .int .i64 c]) ∧ Firm W.heap.size w' v' D ∧ Below W.heap.size W w')
    (g : (40 < n → 1000 < n) ∧ (40 < z → 512 < z)) (hn : -9223372036854775808 ≤ n ∧ n ≤ 9223372036854775807) (hz : -9223372036854775808 ≤ z ∧ z ≤ 9223372036854775807) :
    Calls Try.prog 3 #[.int .i64 n, .int .i64 z] w fun e w' => e = .returned (.bool true) ∧ Below w.heap.size w w' := by
  have HH1 := Lib.hid H1
  have HH2 := Lib.hid H2
  have gn : (40 < n ∧ ¬ n ≤ 1000) ∨ ¬ 40 < n := by omega
  have gz : (40 < z ∧ ¬ z ≤ 512) ∨ ¬ 40 < z := by omega
  clear H1 H2 g
  rcases gn with ⟨u1, u2⟩ | u1 <;> rcases gz with ⟨u3, u4⟩ | u3
  all_goals
    go_enter Try.func3, Try.ntmps3
    go_wp2_with fail
    ((with_reducible refine (HH1.out _).mono ?_); rintro e w1 ⟨v1, rfl, f1, hb1⟩)
    have F1 := free_old f1.disk (w1.heap.size + 1)
    obtain ⟨_, _, rfl, ⟨a1, cap1, rfl, _, _, _⟩, ⟨b1, cap1', rfl, _, _, _⟩⟩ := f1.disk
    have al1 := (Below.refl w1.heap.size w1).alloc (Nat.le_refl _) (.cells #[.int .i64 D.size, .slice a1 D.secs.length cap1, .slice b1 D.pend.length cap1', .int .i64 D.left] 26)
    have B1 := hb1.alloc hb1.size (.cells #[.int .i64 D.size, .slice a1 D.secs.length cap1, .slice b1 D.pend.length cap1', .int .i64 D.left] 26)
    have X1 := Lib.hid (Bx.fresh D.size (.slice a1 D.secs.length cap1) (.slice b1 D.pend.length cap1') D.left w1)
    have D1 := Lib.hid (F1.below al1 (Nat.le_refl _)).disk
    clear f1 F1 al1 hb1
    go_upto_region 4 with fail
    generalize w1.alloc (.cells #[.int .i64 D.size, .slice a1 D.secs.length cap1, .slice b1 D.pend.length cap1', .int .i64 D.left] 26) = w2 at B1 X1 D1 ⊢
    go_wp2_with fail
    ((with_reducible refine (HH2.out _).mono ?_); rintro e w3 ⟨v3, rfl, f3, hb3⟩)
    have F3 := free_old f3.disk (w3.heap.size + 1)
    obtain ⟨_, _, rfl, ⟨a3, cap3, rfl, _, _, _⟩, ⟨b3, cap3', rfl, _, _, _⟩⟩ := f3.disk
    have al3 := (Below.refl w3.heap.size w3).alloc (Nat.le_refl _) (.cells #[.int .i64 D.size, .slice a3 D.secs.length cap3, .slice b3 D.pend.length cap3', .int .i64 D.left] 26)
    have B2 := B1.trans (hb3.mono B1.size)
    have B3 := B2.alloc B2.size (.cells #[.int .i64 D.size, .slice a3 D.secs.length cap3, .slice b3 D.pend.length cap3', .int .i64 D.left] 26)
    have Y3 := Lib.hid (Bx.fresh D.size (.slice a3 D.secs.length cap3) (.slice b3 D.pend.length cap3') D.left w3)
    have X3 := Lib.hid ((X1.out.below hb3 X1.out.lt).alloc (.cells #[.int .i64 D.size, .slice a3 D.secs.length cap3, .slice b3 D.pend.length cap3', .int .i64 D.left] 26))
    have D3 := Lib.hid ((D1.out.below hb3 (Nat.le_refl _)).below al3 (Nat.le_refl _))
    have E3 := Lib.hid (F3.below al3 (Nat.le_refl _)).disk
    clear f3 F3 al3 hb3 B1 B2 D1 X1
    go_upto_region 5 with fail
    generalize w3.alloc (.cells #[.int .i64 D.size, .slice a3 D.secs.length cap3, .slice b3 D.pend.length cap3', .int .i64 D.left] 26) = w4 at B3 Y3 X3 D3 E3 ⊢
    obtain ⟨q0, q1, q2, q3, f0, f1, f2, f3, qlt⟩ := X3.out
    obtain ⟨r0, r1, r2, r3, j0, j1, j2, j3, rlt⟩ := Y3.out
    go_wp2_with fail
    ((with_reducible refine (same_any D _ _ _ D3.out E3.out).mono ?_); rintro e w5 ⟨rfl, hb5⟩)
    have B5 := B3.trans (hb5.mono B3.size)
    clear q0 q1 q2 q3 f0 f1 f2 f3 qlt r0 r1 r2 r3 j0 j1 j2 j3 rlt hb5 B3
    go_wp2_with fail
    ((with_reducible refine (awake_any _).mono ?_); rintro e wz ⟨rfl, hbz⟩)
    go_wp2
    go_ret
    exact ⟨rfl, B5.trans (hbz.mono B5.size)⟩

theorem new_awake (n z : Int) (w : World) (g : (40 < n ∧ n ≤ 1000) ∨ (40 < z ∧ z ≤ 512)) (hn : -9223372036854775808 ≤ n ∧ n ≤ 9223372036854775807) (hz : -9223372036854775808 ≤ z ∧ z ≤ 9223372036854775807) :
    Calls Try.prog 3 #[.int .i64 n, .int .i64 z] w fun e w' => e = .returned (.bool true) ∧ Below w.heap.size w w' := by
  have g' : (40 < n ∧ n ≤ 1000) ∨ (40 < n ∧ ¬ n ≤ 1000 ∧ 40 < z ∧ z ≤ 512) ∨ (¬ 40 < n ∧ 40 < z ∧ z ≤ 512) := by omega
  clear g
  rcases g' with ⟨u1, u2⟩ | ⟨u1, u2, u3, u4⟩ | ⟨u1, u3, u4⟩
  all_goals
    go_enter Try.func3, Try.ntmps3
    go_wp2_with fail
    ((with_reducible refine (awake_any _).mono ?_); rintro e wz ⟨rfl, hbz⟩)
    go_wp2
    go_ret
    exact ⟨rfl, hbz⟩
theorem newLaw_any (n z : Int) (w : World) (hn : -9223372036854775808 ≤ n ∧ n ≤ 9223372036854775807) (hz : -9223372036854775808 ≤ z ∧ z ≤ 9223372036854775807) :
    Calls Try.prog 3 #[.int .i64 n, .int .i64 z] w fun e w' => e = .returned (.bool true) ∧ Below w.heap.size w w' := by
  by_cases g : (40 < n ∧ n ≤ 1000) ∨ (40 < z ∧ z ≤ 512)
  · exact new_awake n z w g hn hz
  by_cases b : n < 1 ∨ 1000 < n ∨ z < 1 ∨ 512 < z
  · refine new_same n z Dk.zero 2 w (fun W => (new_bad n z b W).mono ?_) (fun W => (refNew_bad n z b W).mono ?_) (by omega) hn hz
    · rintro e w' ⟨he, hb⟩; exact ⟨_, he, fun W' _ _ => isDisk_zero W', hb⟩
    · rintro e w' ⟨he, hb⟩; exact ⟨_, he, fun W' _ _ => isDisk_zero W', hb⟩
  · obtain ⟨a, rfl⟩ := Int.eq_ofNat_of_zero_le (show 0 ≤ n by omega)
    obtain ⟨c, rfl⟩ := Int.eq_ofNat_of_zero_le (show 0 ≤ z by omega)
    exact new_same a c _ 0 w (fun W => new_ok a c (by omega) (by omega) (by omega) (by omega) W) (fun W => refNew_ok a c (by omega) (by omega) (by omega) (by omega) W) (by omega) hn hz

theorem i64_in {n : Int} (h : (Lit.int .i64 n).wf = true) : -9223372036854775808 ≤ n ∧ n ≤ 9223372036854775807 := by
  simp [Lit.wf, IntKind.min, IntKind.max, IntKind.bits, IntKind.signed] at h
  omega

set_option maxRecDepth 100000 in
theorem new_lifted (os : Os) (started : os.Started) (H : Type) (enc : TypeId × Value → H) :
    ReturnsInHanded {} Try.checked os 3 .any (Rows.diskNewSpec.pre6 enc Try.prog Try.f3 Rows.diskNewRow.domain false) (Rows.diskNewSpec.post enc Try.prog Try.f3 false true false false) := by
  refine returnsInHanded_of_change (C := Try.checked) ownK started (by kernel_rfl) Try.func3
    (ChangeSpec.witness6 (enc := enc) (C := Try.checked) false ⟨#[], #[.int .i64 0, .int .i64 0], []⟩ 8 (by kernel_rfl) (by kernel_rfl) (by kernel_rfl) (by kernel_rfl)) ?_
  intro W base args ds gs before hval0 hW hcnd _
  have hval : ∀ (j : Nat) t v, Try.f3.params[j]? = some t → args[j]? = some v → Value.okWide Try.prog W .any base t v := hval0
  have hW' := hW
  obtain ⟨p, q, hA0, hV, rfl, hfz, hnd⟩ := hW
  have hA : DataW.TrodAll enc Try.prog W 0 (fun _ => true) true Try.f3.params.toList args.toList ds p := hA0
  rw [Try.params3] at hA hval
  obtain ⟨v0, v1, d0, d1, p0, p1, rfl, rfl, rfl, h0, h1⟩ := trodAll_two hA
  obtain ⟨rfl, rfl⟩ := trodVars_none hV
  obtain ⟨z0, rfl, rfl, rfl, w0⟩ := open_int Try.underlying3 (hval 0 3 v0 rfl rfl) h0
  obtain ⟨z1, rfl, rfl, rfl, w1⟩ := open_int Try.underlying3 (hval 1 3 v1 rfl rfl) h1
  clear hA0 hval0
  refine (newLaw_any z0 z1 W (i64_in w0) (i64_in w1)).mono fun e W' ⟨he, bel⟩ => ?_
  subst he
  exact ⟨_, rfl, _, _, _, [], _, [], hW', trodAll_mk1 (shut_bool Try.underlying4 _), (trodAll_cons_mk (shut_int Try.underlying3 w0) (trodAll_cons_mk (shut_int Try.underlying3 w1) trodAll_mk0)), rfl, bel.frame _, fun h => by cases h⟩

theorem new_holds : Rows.DiskNewSaid :=
  OpenClaim.holds_of_wide 3 Try.f3 rfl rfl rfl rfl rfl rfl rfl ⟨rfl, rfl, rfl, rfl, rfl⟩ rfl rfl rfl rfl rfl (by kernel_rfl) Try.func3 (by kernel_rfl)
    (of_decide_eq_true (by kernel_rfl)) (by unfold Func.isWrapper; rw [if_neg (of_decide_eq_false (by kernel_rfl))]; exact ⟨rfl, rfl⟩)
    (fun os started H enc _ => new_lifted os started H enc)
#print axioms new_holds
end Go.Proofs.Ytgdfdelggihceaa
