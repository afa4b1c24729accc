/- For every object ObjectEncode returns true and leaves its argument as it was: Encode and Name return what the reference returns (of the sizes that the statement names). No condition. -/
import Derived.Test.YtiaahjoldahlnaaAwake
import Derived.Test.YtiaahjoldahlnaaName
import Derived.Test.YtiaahjoldahlnaaGreat
import Derived.Test.YtiaahjoldahlnaaOpen
namespace Go.Proofs.Ytiaahjoldahlnaa
open Go.ChangeShapes Go.WideShapes Go.ChangeAt Go.RowKit Go.Great
open Go.ChangeMaps (open_string shut_string)
attribute [local go_sem] eq_arr

set_option maxRecDepth 100000 in
set_option maxHeartbeats 4000000 in
theorem encLaw_great (k : Int) (d : BA) (ve : Value) (t1 t2 : Nat) (vp : Value) (au : BA) (ti : Int) (ms : BA) (w : World)
    (G : ∀ W, Below w.heap.size w W → Calls Try.prog 10 #[.agg #[.int .i64 k, .string d, ve, .int .u64 t1, .int .u64 t2, vp, .string au, .int .i64 ti, .string ms]] W fun e w' => e = .returned (.bool true) ∧ Below W.heap.size W w') :
    Calls Try.prog 4 #[.agg #[.int .i64 k, .string d, ve, .int .u64 t1, .int .u64 t2, vp, .string au, .int .i64 ti, .string ms]] w fun e w' => e = .returned (.bool true) ∧ Below w.heap.size w w' := by
  have HG := Lib.hid G
  have h0 := Bo.fresh w k d ve t1 t2 vp au ti ms
  clear G
  go_enter Try.func4, Try.ntmps4
  go_wp2_with fail
  ((with_reducible refine (HG.out _ h0.b).mono ?_); rintro e w1 ⟨rfl, hb1⟩)
  have hb := (h0.on hb1).b
  clear h0 hb1
  go_wp2_with fail
  ((with_reducible refine (awake_any _).mono ?_); rintro e w2 ⟨rfl, hb2⟩)
  have hb' := hb.trans (hb2.mono hb.size)
  go_wp2
  go_ret
  exact ⟨rfl, hb'⟩


set_option maxRecDepth 100000 in
set_option maxHeartbeats 8000000 in
theorem encLaw_small (k : Int) (d : BA) (ve : Value) (t1 t2 : Nat) (vp : Value) (au : BA) (ti : Int) (ms : BA) (w : World) (r n0 n1 : Int) (s : BA)
    (G : ∀ W, Below w.heap.size w W → Calls Try.prog 10 #[.agg #[.int .i64 k, .string d, ve, .int .u64 t1, .int .u64 t2, vp, .string au, .int .i64 ti, .string ms]] W fun e w' => e = .returned (.bool false) ∧ Below W.heap.size W w')
    (C : ∀ W, Below w.heap.size w W → Calls Try.prog 17 #[.agg #[.int .i64 k, .string d, ve, .int .u64 t1, .int .u64 t2, vp, .string au, .int .i64 ti, .string ms]] W fun e w' => e = .returned (.tuple #[.string s, .int .i64 r]) ∧ Below W.heap.size W w')
    (D : ∀ W, Below w.heap.size w W → Calls Try.prog 18 #[.agg #[.int .i64 k, .string d, ve, .int .u64 t1, .int .u64 t2, vp, .string au, .int .i64 ti, .string ms]] W fun e w' => e = .returned (.tuple #[.string s, .int .i64 r]) ∧ Below W.heap.size W w')
    (K : ∀ W, Below w.heap.size w W → Calls Try.prog 19 #[.agg #[.int .i64 k, .string d, ve, .int .u64 t1, .int .u64 t2, vp, .string au, .int .i64 ti, .string ms]] W fun e w' => e = .returned (.tuple #[.agg #[.int .u64 n0, .int .u64 n1], .int .i64 r]) ∧ Below W.heap.size W w')
    (M : ∀ W, Below w.heap.size w W → Calls Try.prog 20 #[.agg #[.int .i64 k, .string d, ve, .int .u64 t1, .int .u64 t2, vp, .string au, .int .i64 ti, .string ms]] W fun e w' => e = .returned (.tuple #[.agg #[.int .u64 n0, .int .u64 n1], .int .i64 r]) ∧ Below W.heap.size W w') :
    Calls Try.prog 4 #[.agg #[.int .i64 k, .string d, ve, .int .u64 t1, .int .u64 t2, vp, .string au, .int .i64 ti, .string ms]] w fun e w' => e = .returned (.bool true) ∧ Below w.heap.size w w' := by
  have HG := Lib.hid G
  have HC := Lib.hid C
  have HD := Lib.hid D
  have HK := Lib.hid K
  have HM := Lib.hid M
  have h0 := Bo.fresh w k d ve t1 t2 vp au ti ms
  have hrr : (r == r) = true := by simp
  have hss : (s.toList == s.toList) = true := by simp
  have h00 : (n0 == n0) = true := by simp
  have h11 : (n1 == n1) = true := by simp
  clear G C D K M
  go_enter Try.func4, Try.ntmps4
  go_wp2_with fail
  ((with_reducible refine (HG.out _ h0.b).mono ?_); rintro e w1 ⟨rfl, hb1⟩)
  have h1 := Lib.hid (h0.on hb1)
  clear h0 hb1
  obtain ⟨y0, y1, y2, y3, y4, y5, y6, y7, y8, -, yb⟩ := h1.out
  go_wp2_with fail
  ((with_reducible refine (HC.out _ yb).mono ?_); rintro e w2 ⟨rfl, hb2⟩)
  have h2 := Lib.hid (h1.out.on hb2)
  clear y0 y1 y2 y3 y4 y5 y6 y7 y8 yb h1 hb2
  obtain ⟨y0, y1, y2, y3, y4, y5, y6, y7, y8, -, yb⟩ := h2.out
  go_wp2_with fail
  ((with_reducible refine (HD.out _ yb).mono ?_); rintro e w3 ⟨rfl, hb3⟩)
  have h3 := Lib.hid (h2.out.on hb3)
  clear y0 y1 y2 y3 y4 y5 y6 y7 y8 yb h2 hb3
  obtain ⟨y0, y1, y2, y3, y4, y5, y6, y7, y8, -, yb⟩ := h3.out
  go_wp2_with fail
  ((with_reducible refine (HK.out _ yb).mono ?_); rintro e w4 ⟨rfl, hb4⟩)
  have h4 := Lib.hid ((h3.out.on hb4).alloc (.cells #[.int .u64 n0, .int .u64 n1] 25))
  clear y0 y1 y2 y3 y4 y5 y6 y7 y8 yb h3 hb4
  obtain ⟨y0, y1, y2, y3, y4, y5, y6, y7, y8, -, yb⟩ := h4.out
  go_wp2_with fail
  ((with_reducible refine (HM.out _ yb).mono ?_); rintro e w5 ⟨rfl, hb5⟩)
  have h5 := Lib.hid ((h4.out.on hb5).alloc (.cells #[.int .u64 n0, .int .u64 n1] 25))
  have x0 := (hb5.cell (p := ⟨w4.heap.size, 0, none⟩) (by simp)).trans (show _ = some (Value.int .u64 n0) by simp [World.cell?_alloc_new])
  have x1 := (hb5.cell (p := ⟨w4.heap.size, 1, none⟩) (by simp)).trans (show _ = some (Value.int .u64 n1) by simp [World.cell?_alloc_new])
  have xlt : w4.heap.size < w5.heap.size := by have := hb5.size; simp at this; omega
  clear y0 y1 y2 y3 y4 y5 y6 y7 y8 yb h4 hb5
  go_wp2_with fail
  ((with_reducible refine (awake_any _).mono ?_); rintro e w6 ⟨rfl, hb6⟩)
  have hb := (h5.out.on hb6).b
  go_wp2
  go_ret
  exact ⟨rfl, hb⟩

theorem encLaw_any (o : Ob) (v : Value) (w : World) (hv : IsOb w v o) (hf : o.Fit) (hu : o.Digs64) :
    Calls Try.prog 4 #[v] w fun e w' => e = .returned (.bool true) ∧ Below w.heap.size w w' := by
  have hv0 := hv
  obtain ⟨ve, vp, rfl, hE, hP⟩ := hv
  have hB := fun (W : World) (hW : Below w.heap.size w W) => hv0.below hW (Nat.le_refl _)
  by_cases hs : o.Small
  · have hd : o.data.size ≤ 2 ^ 60 := Nat.le_trans hs.1 (by decide)
    exact encLaw_small o.kind o.data ve o.tree.1 o.tree.2 vp o.author o.time o.msg w (chk o) (nm0 o) (nm1 o) (encD o)
      (fun W hW => great_no o _ W (hB W hW) hs) (fun W hW => encode_any o _ W (hB W hW) hf hd _ rfl _ rfl) (fun W hW => refEncode_any o _ W (hB W hW) hf hu _ rfl _ rfl) (fun W hW => objName_any o _ W (hB W hW) hf hd _ _ rfl rfl _ rfl) (fun W hW => rname_any o _ W (hB W hW) hf hu _ _ rfl rfl _ rfl)
  · exact encLaw_great o.kind o.data ve o.tree.1 o.tree.2 vp o.author o.time o.msg w (fun W hW => great_yes o _ W (hB W hW) hf hs)

set_option maxRecDepth 100000 in
theorem enc_lifted (os : Os) (started : os.Started) (H : Type) (enc : TypeId × Value → H) :
    ReturnsInHanded {} Try.checked os 4 .any (Rows.objectEncodeSpec.pre6 enc Try.prog Try.f4 Rows.objectEncodeRow.domain false) (Rows.objectEncodeSpec.post enc Try.prog Try.f4 false true false false) := by
  refine returnsInHanded_of_change (C := Try.checked) ownK started (by kernel_rfl) Try.func4
    (ChangeSpec.witness6 (enc := enc) (C := Try.checked) false ⟨#[], #[ov 0 ⟨#[]⟩ (.slice none 0 0) (0, 0) (.slice none 0 0) ⟨#[]⟩ 0 ⟨#[]⟩], []⟩ 8 (by kernel_rfl) (by kernel_rfl) (by kernel_rfl) (by kernel_rfl)) ?_
  intro W base args ds gs before hval0 hW hcnd _
  have hval : ∀ (j : Nat) t v, Try.f4.params[j]? = some t → args[j]? = some v → Value.okWide Try.prog W .any base t v := hval0
  have hW' := hW
  obtain ⟨p, q, hA0, hV, rfl, hfz, hnd⟩ := hW
  have hA : DataW.TrodAll enc Try.prog W 0 (fun _ => true) true Try.f4.params.toList args.toList ds p := hA0
  rw [Try.params4] at hA hval
  obtain ⟨v0, d0, rfl, rfl, h0⟩ := trodAll_one hA
  obtain ⟨rfl, rfl⟩ := trodVars_none hV
  have k0 := h0
  have lt0 : ∀ x ∈ p, x.block < W.heap.size := by obtain ⟨m, hm⟩ := k0; exact DataW.trod_lt m _ _ _ hm
  obtain ⟨o, i0, hf, hu⟩ := open_ob (hval 0 28 v0 rfl rfl) h0
  clear hA0 hval0
  refine (encLaw_any o v0 W i0 hf hu).mono fun e W' ⟨he, bel⟩ => ?_
  subst he
  exact ⟨_, rfl, _, _, _, [], _, [], hW', trodAll_mk1 (shut_bool Try.underlying4 _), trodAll_mk1 (Below.trod laidOut (by kernel_rfl) (of_decide_eq_true (by kernel_rfl)) k0 bel lt0), rfl, bel.frame _, fun h => by cases h⟩

theorem enc_holds : Rows.ObjectEncodeSaid :=
  OpenClaim.holds_of_wide 4 Try.f4 rfl rfl rfl rfl rfl rfl rfl ⟨rfl, rfl, rfl, rfl, rfl⟩ rfl rfl rfl rfl rfl (by kernel_rfl) Try.func4 (by kernel_rfl)
    (of_decide_eq_true (by kernel_rfl)) (by unfold Func.isWrapper; rw [if_neg (of_decide_eq_false (by kernel_rfl))]; exact ⟨rfl, rfl⟩)
    (fun os started H enc _ => enc_lifted os started H enc)
#print axioms enc_holds
end Go.Proofs.Ytiaahjoldahlnaa
