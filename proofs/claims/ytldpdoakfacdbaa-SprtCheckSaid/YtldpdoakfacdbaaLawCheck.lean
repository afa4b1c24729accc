/- For every trial SprtCheck returns true and leaves its argument as it was: Check returns what the reference returns. No condition. -/
import Derived.Test.YtldpdoakfacdbaaOpen
namespace Go.Proofs.Ytldpdoakfacdbaa
open Go.ChangeShapes Go.WideShapes Go.ChangeAt Go.RowKit

set_option maxHeartbeats 1000000 in
theorem checkLaw_any (gn gd bn bd an ad en ed : Int) (w : World) :
    Calls Try.prog 3 #[trialV gn gd bn bd an ad en ed] w fun e w' => e = .returned (.bool true) ∧ Below w.heap.size w w' := by
  generalize hr : chk gn gd bn bd an ad en ed = r
  have HR := Lib.hid hr
  clear hr
  have k := L8.fresh gn gd bn bd an ad en ed w 25
  have start : L8 gn gd bn bd an ad en ed w.heap.size (w.alloc (.cells #[.int .i64 gn, .int .i64 gd, .int .i64 bn, .int .i64 bd, .int .i64 an, .int .i64 ad, .int .i64 en, .int .i64 ed] 25)).drew := ⟨k.c0, k.c1, k.c2, k.c3, k.c4, k.c5, k.c6, k.c7, k.lt⟩
  have hB := ((Below.refl w.heap.size w).alloc (Nat.le_refl _) (.cells #[.int .i64 gn, .int .i64 gd, .int .i64 bn, .int .i64 bd, .int .i64 an, .int .i64 ad, .int .i64 en, .int .i64 ed] 25)).drew
  clear k
  go_enter Try.func3, Try.ntmps3
  go_wp2
  go_region_held3 (fun W => W.cell? ⟨w.heap.size, 0, none⟩ = some (.int .i64 gn) ∧ W.cell? ⟨w.heap.size, 1, none⟩ = some (.int .i64 gd) ∧ W.cell? ⟨w.heap.size, 2, none⟩ = some (.int .i64 bn) ∧ W.cell? ⟨w.heap.size, 3, none⟩ = some (.int .i64 bd) ∧ W.cell? ⟨w.heap.size, 4, none⟩ = some (.int .i64 an) ∧ W.cell? ⟨w.heap.size, 5, none⟩ = some (.int .i64 ad) ∧ W.cell? ⟨w.heap.size, 6, none⟩ = some (.int .i64 en) ∧ W.cell? ⟨w.heap.size, 7, none⟩ = some (.int .i64 ed)) (first | exact ⟨hh.c0, hh.c1, hh.c2, hh.c3, hh.c4, hh.c5, hh.c6, hh.c7⟩ | exact ⟨start.c0, start.c1, start.c2, start.c3, start.c4, start.c5, start.c6, start.c7⟩)
    (first | (go_at_call 12; (with_reducible refine (check_any gn gd bn bd an ad en ed _).mono ?_); rintro e w1 ⟨he, hb1⟩; rw [HR.out] at he; subst he; have hh := start.below hb1 start.lt; have hB1 := hB.trans (hb1.mono hB.size)) | (go_at_call 13; (with_reducible refine (refCheck_any gn gd bn bd an ad en ed _).mono ?_); rintro e w2 ⟨he, hb2⟩; rw [HR.out] at he; subst he; have hh := hh.below hb2 hh.lt; have hB2 := hB1.trans (hb2.mono hB1.size)) | (go_at_call 14; (with_reducible refine (awake_any _).mono ?_); rintro e w3 ⟨rfl, hb3⟩; have hh := hh.below hb3 hh.lt; have hB3 := hB2.trans (hb3.mono hB2.size)))
  go_wp2
  go_ret
  exact ⟨rfl, hB3⟩

set_option maxRecDepth 100000 in
theorem check_lifted (os : Os) (started : os.Started) (H : Type) (enc : TypeId × Value → H) :
    ReturnsInHanded {} Try.checked os 3 .any (Rows.sprtCheckSpec.pre6 enc Try.prog Try.f3 Rows.sprtCheckRow.domain false) (Rows.sprtCheckSpec.post enc Try.prog Try.f3 false true false false) := by
  refine returnsInHanded_of_change (C := Try.checked) ownK started (by kernel_rfl) Try.func3
    (ChangeSpec.witness6 (enc := enc) (C := Try.checked) false ⟨#[], #[trialV 0 0 0 0 0 0 0 0], []⟩ 8 (by kernel_rfl) (by kernel_rfl) (by kernel_rfl) (by kernel_rfl)) ?_
  intro W base args ds gs before hval0 hW hcnd _
  have hval : ∀ (j : Nat) t v, Try.f3.params[j]? = some t → args[j]? = some v → Value.okWide Try.prog W .any base t v := hval0
  have hW' := hW
  obtain ⟨p, q, hA0, hV, rfl, hfz, hnd⟩ := hW
  have hA : DataW.TrodAll enc Try.prog W 0 (fun _ => true) true Try.f3.params.toList args.toList ds p := hA0
  rw [Try.params3] at hA hval
  obtain ⟨v0, d0, rfl, rfl, h0⟩ := trodAll_one hA
  obtain ⟨rfl, rfl⟩ := trodVars_none hV
  have k0 := h0
  have lt0 : ∀ x ∈ p, x.block < W.heap.size := by obtain ⟨m, hm⟩ := k0; exact DataW.trod_lt m _ _ _ hm
  obtain ⟨gn, gd, bn, bd, an, ad, en, ed, rfl⟩ := open_trial (hval 0 25 v0 rfl rfl) h0
  clear hA0 hval0
  refine (checkLaw_any gn gd bn bd an ad en ed W).mono fun e W' ⟨he, bel⟩ => ?_
  subst he
  exact ⟨_, rfl, _, _, _, [], _, [], hW', trodAll_mk1 (shut_bool Try.underlying4 _), (trodAll_cons_mk (Below.trod laidOut (by kernel_rfl) (of_decide_eq_true (by kernel_rfl)) k0 bel lt0) trodAll_mk0), rfl, bel.frame _, fun h => by cases h⟩

theorem check_holds : Rows.SprtCheckSaid :=
  OpenClaim.holds_of_wide 3 Try.f3 rfl rfl rfl rfl rfl rfl rfl ⟨rfl, rfl, rfl, rfl, rfl⟩ rfl rfl rfl rfl rfl (by kernel_rfl) Try.func3 (by kernel_rfl)
    (of_decide_eq_true (by kernel_rfl)) (by unfold Func.isWrapper; rw [if_neg (of_decide_eq_false (by kernel_rfl))]; exact ⟨rfl, rfl⟩)
    (fun os started H enc _ => check_lifted os started H enc)
#print axioms check_holds
end Go.Proofs.Ytldpdoakfacdbaa
