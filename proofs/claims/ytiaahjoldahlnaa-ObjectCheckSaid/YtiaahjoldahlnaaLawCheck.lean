/- For every object ObjectCheck returns true and leaves its argument as it was: Check and Links return what the reference returns (of the sizes that the statement names). No condition. -/
import Derived.Test.YtiaahjoldahlnaaAwake
import Derived.Test.YtiaahjoldahlnaaRefLinks
import Derived.Test.YtiaahjoldahlnaaGreat
import Derived.Test.YtiaahjoldahlnaaOpen
namespace Go.Proofs.Ytiaahjoldahlnaa
open Go.ChangeShapes Go.WideShapes Go.ChangeAt Go.RowKit Go.Great
open Go.ChangeMaps (open_string shut_string)
attribute [local go_sem] eq_arr

set_option maxRecDepth 100000 in
set_option maxHeartbeats 4000000 in
theorem checkLaw_great (k : Int) (d : BA) (ve : Value) (t1 t2 : Nat) (vp : Value) (au : BA) (ti : Int) (ms : BA) (w : World)
    (G : ∀ W, Below w.heap.size w W → Calls Try.prog 10 #[.agg #[.int .i64 k, .string d, ve, .int .u64 t1, .int .u64 t2, vp, .string au, .int .i64 ti, .string ms]] W fun e w' => e = .returned (.bool true) ∧ Below W.heap.size W w') :
    Calls Try.prog 3 #[.agg #[.int .i64 k, .string d, ve, .int .u64 t1, .int .u64 t2, vp, .string au, .int .i64 ti, .string ms]] w fun e w' => e = .returned (.bool true) ∧ Below w.heap.size w w' := by
  have HG := Lib.hid G
  have h0 := Bo.fresh w k d ve t1 t2 vp au ti ms
  clear G
  go_enter Try.func3, Try.ntmps3
  go_wp2_with fail
  ((with_reducible refine (HG.out _ h0.b).mono ?_); rintro e w1 ⟨rfl, hb1⟩)
  have hb := (h0.on hb1).b
  clear h0 hb1
  go_wp2_with fail
  ((with_reducible refine (awake_any _).mono ?_); rintro e w2 ⟨rfl, hb2⟩)
  have hb' := hb.trans (hb2.mono hb.size)
  go_wp2
  go_ret
  exact ⟨rfl, hb'⟩

theorem Bo.all {w W : World} {k : Int} {d : BA} {ve : Value} {t1 t2 : Nat} {vp : Value} {au : BA} {ti : Int} {ms : BA} (h : Bo w k d ve t1 t2 vp au ti ms W) :
    W.cell? ⟨w.heap.size, 0, none⟩ = some (.int .i64 k) ∧ W.cell? ⟨w.heap.size, 1, none⟩ = some (.string d) ∧ W.cell? ⟨w.heap.size, 2, none⟩ = some ve ∧ W.cell? ⟨w.heap.size, 3, none⟩ = some (.int .u64 t1) ∧ W.cell? ⟨w.heap.size, 4, none⟩ = some (.int .u64 t2) ∧ W.cell? ⟨w.heap.size, 5, none⟩ = some vp ∧ W.cell? ⟨w.heap.size, 6, none⟩ = some (.string au) ∧ W.cell? ⟨w.heap.size, 7, none⟩ = some (.int .i64 ti) ∧ W.cell? ⟨w.heap.size, 8, none⟩ = some (.string ms) :=
  ⟨h.c0, h.c1, h.c2, h.c3, h.c4, h.c5, h.c6, h.c7, h.c8⟩

set_option maxRecDepth 100000 in
set_option maxHeartbeats 8000000 in
theorem checkLaw_small (k : Int) (d : BA) (ve : Value) (t1 t2 : Nat) (vp : Value) (au : BA) (ti : Int) (ms : BA) (w : World) (r : Int) (R : List Dig)
    (G : ∀ W, Below w.heap.size w W → Calls Try.prog 10 #[.agg #[.int .i64 k, .string d, ve, .int .u64 t1, .int .u64 t2, vp, .string au, .int .i64 ti, .string ms]] W fun e w' => e = .returned (.bool false) ∧ Below W.heap.size W w')
    (C : ∀ W, Below w.heap.size w W → Calls Try.prog 12 #[.agg #[.int .i64 k, .string d, ve, .int .u64 t1, .int .u64 t2, vp, .string au, .int .i64 ti, .string ms]] W fun e w' => e = .returned (.int .i64 r) ∧ Below W.heap.size W w')
    (D : ∀ W, Below w.heap.size w W → Calls Try.prog 13 #[.agg #[.int .i64 k, .string d, ve, .int .u64 t1, .int .u64 t2, vp, .string au, .int .i64 ti, .string ms]] W fun e w' => e = .returned (.int .i64 r) ∧ Below W.heap.size W w')
    (K : ∀ W, Below w.heap.size w W → Calls Try.prog 15 #[.agg #[.int .i64 k, .string d, ve, .int .u64 t1, .int .u64 t2, vp, .string au, .int .i64 ti, .string ms]] W fun e w' => ∃ u, e = .returned u ∧ IsDigs w' u R ∧ Below W.heap.size W w')
    (M : ∀ W, Below w.heap.size w W → Calls Try.prog 16 #[.agg #[.int .i64 k, .string d, ve, .int .u64 t1, .int .u64 t2, vp, .string au, .int .i64 ti, .string ms]] W fun e w' => ∃ u, e = .returned u ∧ IsDigs w' u R ∧ Below W.heap.size W w') :
    Calls Try.prog 3 #[.agg #[.int .i64 k, .string d, ve, .int .u64 t1, .int .u64 t2, vp, .string au, .int .i64 ti, .string ms]] w fun e w' => e = .returned (.bool true) ∧ Below w.heap.size w w' := by
  have HG := Lib.hid G
  have HC := Lib.hid C
  have HD := Lib.hid D
  have HK := Lib.hid K
  have HM := Lib.hid M
  have h0 := Bo.fresh w k d ve t1 t2 vp au ti ms
  have hrr : (r == r) = true := by simp
  clear G C D K M
  go_enter Try.func3, Try.ntmps3
  go_wp2_with fail
  ((with_reducible refine (HG.out _ h0.b).mono ?_); rintro e w1 ⟨rfl, hb1⟩)
  have start := (h0.on hb1).drew
  clear h0 hb1
  go_upto_region 3 with fail
  go_region_held3 (fun V => V.cell? ⟨w.heap.size, 0, none⟩ = some (.int .i64 k) ∧ V.cell? ⟨w.heap.size, 1, none⟩ = some (.string d) ∧ V.cell? ⟨w.heap.size, 2, none⟩ = some ve ∧ V.cell? ⟨w.heap.size, 3, none⟩ = some (.int .u64 t1) ∧ V.cell? ⟨w.heap.size, 4, none⟩ = some (.int .u64 t2) ∧ V.cell? ⟨w.heap.size, 5, none⟩ = some vp ∧ V.cell? ⟨w.heap.size, 6, none⟩ = some (.string au) ∧ V.cell? ⟨w.heap.size, 7, none⟩ = some (.int .i64 ti) ∧ V.cell? ⟨w.heap.size, 8, none⟩ = some (.string ms)) (first | with_reducible exact hh.all | with_reducible exact start.all) (first | ((first | (with_reducible refine (HC.out _ hh.b).mono ?_) | (with_reducible refine (HC.out _ start.b).mono ?_)); rintro e w5 ⟨rfl, hb5⟩; have hh := Bo.on (by first | with_reducible exact hh | with_reducible exact start) hb5; clear hb5) | ((first | (with_reducible refine (HD.out _ hh.b).mono ?_) | (with_reducible refine (HD.out _ start.b).mono ?_)); rintro e w5 ⟨rfl, hb5⟩; have hh := Bo.on (by first | with_reducible exact hh | with_reducible exact start) hb5; clear hb5) | ((with_reducible refine (HK.out _ hh.b).mono ?_); rintro e w5 ⟨u5, rfl, hU, hb5⟩; (first | (have hV := IsDigs.below hV hb5 (Nat.le_refl _)) | skip); have hh := Bo.on hh hb5; clear hb5) | ((with_reducible refine (HM.out _ hh.b).mono ?_); rintro e w5 ⟨v5, rfl, hV, hb5⟩; (first | (have hU := IsDigs.below hU hb5 (Nat.le_refl _)) | skip); have hh := Bo.on hh hb5; clear hb5) | ((with_reducible refine (sameD_any R _ _ _ hU hV).mono ?_); rintro e w5 ⟨rfl, hb5⟩; have hh := Bo.on hh hb5; clear hb5) | ((with_reducible refine (awake_any _).mono ?_); rintro e w5 ⟨rfl, hb5⟩; have hh := Bo.on hh hb5; clear hb5))
  all_goals go_wp2
  all_goals go_ret
  all_goals exact ⟨rfl, hh.b⟩

theorem checkLaw_any (o : Ob) (v : Value) (w : World) (hv : IsOb w v o) (hf : o.Fit) (hu : o.Digs64) :
    Calls Try.prog 3 #[v] w fun e w' => e = .returned (.bool true) ∧ Below w.heap.size w w' := by
  have hv0 := hv
  obtain ⟨ve, vp, rfl, hE, hP⟩ := hv
  have hB := fun (W : World) (hW : Below w.heap.size w W) => hv0.below hW (Nat.le_refl _)
  by_cases hs : o.Small
  · have hd : o.data.size ≤ 2 ^ 60 := Nat.le_trans hs.1 (by decide)
    exact checkLaw_small o.kind o.data ve o.tree.1 o.tree.2 vp o.author o.time o.msg w (chk o) (lnk o)
      (fun W hW => great_no o _ W (hB W hW) hs) (fun W hW => check_any o _ W (hB W hW) hf hd _ rfl) (fun W hW => refChk_any o _ W (hB W hW) hf hu _ rfl) (fun W hW => links_any o _ W (hB W hW) hf hd) (fun W hW => refLinks_any o _ W (hB W hW) hf hu)
  · exact checkLaw_great o.kind o.data ve o.tree.1 o.tree.2 vp o.author o.time o.msg w (fun W hW => great_yes o _ W (hB W hW) hf hs)

set_option maxRecDepth 100000 in
theorem check_lifted (os : Os) (started : os.Started) (H : Type) (enc : TypeId × Value → H) :
    ReturnsInHanded {} Try.checked os 3 .any (Rows.objectCheckSpec.pre6 enc Try.prog Try.f3 Rows.objectCheckRow.domain false) (Rows.objectCheckSpec.post enc Try.prog Try.f3 false true false false) := by
  refine returnsInHanded_of_change (C := Try.checked) ownK started (by kernel_rfl) Try.func3
    (ChangeSpec.witness6 (enc := enc) (C := Try.checked) false ⟨#[], #[ov 0 ⟨#[]⟩ (.slice none 0 0) (0, 0) (.slice none 0 0) ⟨#[]⟩ 0 ⟨#[]⟩], []⟩ 8 (by kernel_rfl) (by kernel_rfl) (by kernel_rfl) (by kernel_rfl)) ?_
  intro W base args ds gs before hval0 hW hcnd _
  have hval : ∀ (j : Nat) t v, Try.f3.params[j]? = some t → args[j]? = some v → Value.okWide Try.prog W .any base t v := hval0
  have hW' := hW
  obtain ⟨p, q, hA0, hV, rfl, hfz, hnd⟩ := hW
  have hA : DataW.TrodAll enc Try.prog W 0 (fun _ => true) true Try.f3.params.toList args.toList ds p := hA0
  rw [Try.params3] at hA hval
  obtain ⟨v0, d0, rfl, rfl, h0⟩ := trodAll_one hA
  obtain ⟨rfl, rfl⟩ := trodVars_none hV
  have k0 := h0
  have lt0 : ∀ x ∈ p, x.block < W.heap.size := by obtain ⟨m, hm⟩ := k0; exact DataW.trod_lt m _ _ _ hm
  obtain ⟨o, i0, hf, hu⟩ := open_ob (hval 0 28 v0 rfl rfl) h0
  clear hA0 hval0
  refine (checkLaw_any o v0 W i0 hf hu).mono fun e W' ⟨he, bel⟩ => ?_
  subst he
  exact ⟨_, rfl, _, _, _, [], _, [], hW', trodAll_mk1 (shut_bool Try.underlying4 _), trodAll_mk1 (Below.trod laidOut (by kernel_rfl) (of_decide_eq_true (by kernel_rfl)) k0 bel lt0), rfl, bel.frame _, fun h => by cases h⟩

theorem check_holds : Rows.ObjectCheckSaid :=
  OpenClaim.holds_of_wide 3 Try.f3 rfl rfl rfl rfl rfl rfl rfl ⟨rfl, rfl, rfl, rfl, rfl⟩ rfl rfl rfl rfl rfl (by kernel_rfl) Try.func3 (by kernel_rfl)
    (of_decide_eq_true (by kernel_rfl)) (by unfold Func.isWrapper; rw [if_neg (of_decide_eq_false (by kernel_rfl))]; exact ⟨rfl, rfl⟩)
    (fun os started H enc _ => check_lifted os started H enc)
#print axioms check_holds
end Go.Proofs.Ytiaahjoldahlnaa
