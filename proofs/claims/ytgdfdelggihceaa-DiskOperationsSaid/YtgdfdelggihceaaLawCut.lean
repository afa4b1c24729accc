/- For every disk and picks DiskCut returns true and leaves its arguments as they were: the package's Cut answers as the reference's. No condition. -/
import Derived.Test.YtgdfdelggihceaaRefCut
import Derived.Test.YtgdfdelggihceaaLawDurable
namespace Go.Proofs.Ytgdfdelggihceaa
open Go.ChangeShapes Go.WideShapes Go.ChangeAt Go.RowKit

set_option maxHeartbeats 2000000 in
theorem cutLaw_out (D : Dk) (v vP : Value) (P : List Int) (w : World) (hv : IsDisk w v D) (hP : IsInts w vP P)
    (h : (12 < D.secs.length ∨ 12 < D.pend.length ∨ 40 < D.size) ∨ (D.secs.length ≤ 12 ∧ D.pend.length ≤ 12 ∧ D.size ≤ 40 ∧ 20 < P.length)) :
    Calls Try.prog 5 #[v, vP] w fun e w' => e = .returned (.bool true) ∧ Below w.heap.size w w' := by
  have hv0 := Lib.hid hv
  obtain ⟨_, _, rfl, ⟨a0, cap, rfl, _, _, _⟩, ⟨b0, cap2, rfl, _, _, _⟩⟩ := hv
  obtain ⟨aP, capP, rfl, hlP, _, _⟩ := hP
  unfold maxLen at hlP
  have hB := (Below.refl w.heap.size w).alloc (Nat.le_refl _) (.cells #[.int .i64 D.size, .slice a0 D.secs.length cap, .slice b0 D.pend.length cap2, .int .i64 D.left] 26)
  rcases h with h | ⟨h1, h2, h3, h⟩
  · have H := Lib.hid h
    clear h
    go_enter Try.func5, Try.ntmps5
    go_wp2_with fail
    ((with_reducible refine (great_yes D _ _ (hv0.out.below hB (Nat.le_refl _)) H.out).mono ?_); rintro e w1 ⟨rfl, hb1⟩)
    have B1 := hB.trans (hb1.mono hB.size)
    go_wp2_with fail
    ((with_reducible refine (awake_any _).mono ?_); rintro e w2 ⟨rfl, hb2⟩)
    go_wp2
    go_ret
    exact ⟨rfl, B1.trans (hb2.mono B1.size)⟩
  · have hp : (20 : Int) < P.length := by omega
    go_enter Try.func5, Try.ntmps5
    go_wp2_with fail
    ((with_reducible refine (great_no D _ _ (hv0.out.below hB (Nat.le_refl _)) h1 h2 h3).mono ?_); rintro e w1 ⟨rfl, hb1⟩)
    have B1 := hB.trans (hb1.mono hB.size)
    go_wp2_with fail
    ((with_reducible refine (awake_any _).mono ?_); rintro e w2 ⟨rfl, hb2⟩)
    go_wp2
    go_ret
    exact ⟨rfl, B1.trans (hb2.mono B1.size)⟩

set_option maxHeartbeats 4000000 in
theorem cutLaw_main (D D' : Dk) (v vP : Value) (P : List Int) (w : World) (hv : IsDisk w v D) (hP : IsInts w vP P) (h1 : D.secs.length ≤ 12) (h2 : D.pend.length ≤ 12) (h3 : D.size ≤ 40) (h4 : P.length ≤ 20)
    (C1 : ∀ W, Below w.heap.size w W → Calls Try.prog 24 #[v, vP] W fun e w' => ∃ v', e = .returned v' ∧ IsDisk w' v' D' ∧ Below W.heap.size W w')
    (C2 : ∀ W, Below w.heap.size w W → Calls Try.prog 25 #[v, vP] W fun e w' => ∃ v', e = .returned v' ∧ IsDisk w' v' D' ∧ Below W.heap.size W w') :
    Calls Try.prog 5 #[v, vP] w fun e w' => e = .returned (.bool true) ∧ Below w.heap.size w w' := by
  have hv0 := Lib.hid hv
  obtain ⟨_, _, rfl, ⟨a0, cap, rfl, _, _, _⟩, ⟨b0, cap2, rfl, _, _, _⟩⟩ := hv
  obtain ⟨aP, capP, rfl, hlP, _, _⟩ := hP
  unfold maxLen at hlP
  have hB := (Below.refl w.heap.size w).alloc (Nat.le_refl _) (.cells #[.int .i64 D.size, .slice a0 D.secs.length cap, .slice b0 D.pend.length cap2, .int .i64 D.left] 26)
  have x0 := Bx.fresh D.size (.slice a0 D.secs.length cap) (.slice b0 D.pend.length cap2) D.left w
  have hp : ¬ (20 : Int) < P.length := by omega
  have HC1 := Lib.hid C1
  have HC2 := Lib.hid C2
  clear C1 C2
  go_enter Try.func5, Try.ntmps5
  go_wp2_with fail
  ((with_reducible refine (great_no D _ _ (hv0.out.below hB (Nat.le_refl _)) h1 h2 h3).mono ?_); rintro e w1 ⟨rfl, hb1⟩)
  have B1 := hB.trans (hb1.mono hB.size)
  have X1 := Lib.hid (x0.below hb1 x0.lt)
  clear hb1 hB x0
  go_upto_region 3 with fail
  have start := X1.out.drew
  have Bd := B1.drew
  have s4 : w1.drew.cell? ⟨w.heap.size, 0, none⟩ = some (.int .i64 D.size) ∧ w1.drew.cell? ⟨w.heap.size, 1, none⟩ = some (.slice a0 D.secs.length cap) ∧ w1.drew.cell? ⟨w.heap.size, 2, none⟩ = some (.slice b0 D.pend.length cap2) ∧ w1.drew.cell? ⟨w.heap.size, 3, none⟩ = some (.int .i64 D.left) := ⟨start.c0, start.c1, start.c2, start.c3⟩
  go_region_held3 (fun V => V.cell? ⟨w.heap.size, 0, none⟩ = some (.int .i64 D.size) ∧ V.cell? ⟨w.heap.size, 1, none⟩ = some (.slice a0 D.secs.length cap) ∧ V.cell? ⟨w.heap.size, 2, none⟩ = some (.slice b0 D.pend.length cap2) ∧ V.cell? ⟨w.heap.size, 3, none⟩ = some (.int .i64 D.left)) (first | with_reducible exact s4 | with_reducible exact ⟨hh.c0, hh.c1, hh.c2, hh.c3⟩)
    (first | (go_at_call 24; (with_reducible refine (HC1.out _ Bd).mono ?_); rintro e w7 ⟨v7, rfl, d7, hb7⟩; have hh := start.below hb7 start.lt; have B7 := Bd.trans (hb7.mono Bd.size); clear hb7) | (go_at_call 25; (with_reducible refine (HC2.out _ B7).mono ?_); rintro e w8 ⟨v8, rfl, d8, hb8⟩; have hh := hh.below hb8 hh.lt; have d7' := d7.below hb8 (Nat.le_refl _); have B8 := B7.trans (hb8.mono B7.size); clear hb8) | (go_at_call 14; (with_reducible refine (same_any D' _ _ _ d7' d8).mono ?_); rintro e w9 ⟨rfl, hb9⟩; have hh := hh.below hb9 hh.lt; have B9 := B8.trans (hb9.mono B8.size); clear hb9) | (go_at_call 11; (with_reducible refine (awake_any _).mono ?_); rintro e w0 ⟨rfl, hb0⟩; have hh := hh.below hb0 hh.lt; have B0 := B9.trans (hb0.mono B9.size); clear hb0))
  go_wp2
  go_ret
  exact ⟨rfl, B0⟩

theorem cutLaw_any (D : Dk) (hf : D.Fit) (v vP : Value) (P : List Int) (w : World) (hv : IsDisk w v D) (hP : IsInts w vP P) :
    Calls Try.prog 5 #[v, vP] w fun e w' => e = .returned (.bool true) ∧ Below w.heap.size w w' := by
  by_cases hg : 12 < D.secs.length ∨ 12 < D.pend.length ∨ 40 < D.size
  · exact cutLaw_out D v vP P w hv hP (.inl hg)
  by_cases hs : 20 < P.length
  · exact cutLaw_out D v vP P w hv hP (.inr ⟨by omega, by omega, by omega, hs⟩)
  by_cases h0 : chk D = 0
  · have hok := (chk_zero D).1 h0
    refine cutLaw_main D ⟨D.size, settleL (pk P D.size) 0 D.pend D.secs, [], -1⟩ v vP P w hv hP (by omega) (by omega) (by omega) (by omega) (fun W hW => ?_) (fun W hW => ?_)
    · exact (cut_ok D hf hok (by omega) v vP P W (hv.below hW (Nat.le_refl _)) (hP.below hW (Nat.le_refl _))).mono (by rintro e w' ⟨v', he, f, hb⟩; exact ⟨v', he, f.disk, hb⟩)
    · exact refCut_ok D hf hok (by omega) v vP P W (hv.below hW (Nat.le_refl _)) (hP.below hW (Nat.le_refl _))
  · refine cutLaw_main D Dk.zero v vP P w hv hP (by omega) (by omega) (by omega) (by omega) (fun W hW => ?_) (fun W hW => ?_)
    · exact (cut_bad D hf _ rfl h0 v vP P W (hv.below hW (Nat.le_refl _)) (hP.below hW (Nat.le_refl _))).mono (by rintro e w' ⟨v', he, f, hb⟩; exact ⟨v', he, f.disk, hb⟩)
    · exact refCut_bad D hf _ rfl h0 v vP P W (hv.below hW (Nat.le_refl _)) (hP.below hW (Nat.le_refl _))

set_option maxRecDepth 100000 in
theorem cutLaw_lifted (os : Os) (started : os.Started) (H : Type) (enc : TypeId × Value → H) :
    ReturnsInHanded {} Try.checked os 5 .any (Rows.diskCutSpec.pre6 enc Try.prog Try.f5 Rows.diskCutRow.domain false) (Rows.diskCutSpec.post enc Try.prog Try.f5 false true false false) := by
  refine returnsInHanded_of_change (C := Try.checked) ownK started (by kernel_rfl) Try.func5
    (ChangeSpec.witness6 (enc := enc) (C := Try.checked) false ⟨#[], #[dv 0 (.slice none 0 0) (.slice none 0 0) 0, .slice none 0 0], []⟩ 8 (by kernel_rfl) (by kernel_rfl) (by kernel_rfl) (by kernel_rfl)) ?_
  intro W base args ds gs before hval0 hW hcnd _
  have hval : ∀ (j : Nat) t v, Try.f5.params[j]? = some t → args[j]? = some v → Value.okWide Try.prog W .any base t v := hval0
  have hW' := hW
  obtain ⟨p, q, hA0, hV, rfl, hfz, hnd⟩ := hW
  have hA : DataW.TrodAll enc Try.prog W 0 (fun _ => true) true Try.f5.params.toList args.toList ds p := hA0
  rw [Try.params5] at hA hval
  obtain ⟨v0, v1, d0, d1, p0, p1, rfl, rfl, rfl, h0, h1⟩ := trodAll_two hA
  obtain ⟨rfl, rfl⟩ := trodVars_none hV
  have k0 := h0
  have k1 := h1
  have lt0 : ∀ x ∈ p0, x.block < W.heap.size := by obtain ⟨m, hm⟩ := k0; exact DataW.trod_lt m _ _ _ hm
  have lt1 : ∀ x ∈ p1, x.block < W.heap.size := by obtain ⟨m, hm⟩ := k1; exact DataW.trod_lt m _ _ _ hm
  obtain ⟨D, hv, hf, hl⟩ := open_disk (hval 0 26 v0 rfl rfl) h0
  obtain ⟨P, hP⟩ := open_numbers (hval 1 39 v1 rfl rfl) h1
  clear hA0 hval0
  refine (cutLaw_any D hf v0 v1 P W hv hP).mono fun e W' ⟨he, bel⟩ => ?_
  subst he
  exact ⟨_, rfl, _, _, _, [], _, [], hW', trodAll_mk1 (shut_bool Try.underlying4 _), (trodAll_cons_mk (Below.trod laidOut (by kernel_rfl) (of_decide_eq_true (by kernel_rfl)) k0 bel lt0) (trodAll_cons_mk (Below.trod laidOut (by kernel_rfl) (of_decide_eq_true (by kernel_rfl)) k1 bel lt1) trodAll_mk0)), rfl, bel.frame _, fun h => by cases h⟩

theorem cutLaw_holds : Rows.DiskCutSaid :=
  OpenClaim.holds_of_wide 5 Try.f5 rfl rfl rfl rfl rfl rfl rfl ⟨rfl, rfl, rfl, rfl, rfl⟩ rfl rfl rfl rfl rfl (by kernel_rfl) Try.func5 (by kernel_rfl)
    (of_decide_eq_true (by kernel_rfl)) (by unfold Func.isWrapper; rw [if_neg (of_decide_eq_false (by kernel_rfl))]; exact ⟨rfl, rfl⟩)
    (fun os started H enc _ => cutLaw_lifted os started H enc)
#print axioms cutLaw_holds
end Go.Proofs.Ytgdfdelggihceaa
