/- For every list of digests and every index, DigestTree returns true and leaves its arguments as they were: Root and Proof return what the reference returns. -/
import Derived.Test.YtamhokedekhocaaVerify6
import Derived.Test.YtamhokedekhocaaTree3
namespace Go.Proofs.Ytamhokedekhocaa
open Go.ChangeShapes Go.WideShapes Go.ChangeAt Go.RowKit
attribute [local go_sem] eq_arr

set_option maxHeartbeats 400000 in
theorem treeLaw_long (i : Int) (a : Option Addr) (len cap : Nat) (h20 : 20 < len) (hl : len ≤ maxLen) (w : World) :
    Calls Try.prog 5 #[.slice a len cap, .int .i64 i] w fun e w' => e = .returned (.bool true) ∧ Below w.heap.size w w' := by
  unfold maxLen at hl
  have hp : (20 : Int) < (len : Int) := by omega
  go_enter Try.func5, Try.ntmps5
  go_wp2_with fail
  refine (awake_any _).mono ?_
  rintro e w1 ⟨rfl, h1⟩
  go_wp2
  go_ret
  exact ⟨rfl, h1⟩

set_option maxHeartbeats 1000000 in
theorem treeLaw_way (i r0 r1 er : Int) (P : List Dig) (a : Option Addr) (len cap : Nat) (h20 : len ≤ 20) (w : World) (h10 : Gives 10 #[] (.bool true))
    (h21 : ∀ W, Below w.heap.size w W → Calls Try.prog 21 #[.slice a len cap, .int .i64 i] W fun e w' => ∃ v, e = .returned (.tuple #[v, .int .i64 er]) ∧ IsDigs w' v P ∧ Below W.heap.size W w')
    (h22 : ∀ W, Below w.heap.size w W → Calls Try.prog 22 #[.slice a len cap, .int .i64 i] W fun e w' => ∃ v, e = .returned (.tuple #[v, .int .i64 er]) ∧ IsDigs w' v P ∧ Below W.heap.size W w')
    (h23 : ∀ W, Below w.heap.size w W → Calls Try.prog 23 #[.slice a len cap] W fun e w' => e = .returned (.agg #[.int .u64 r0, .int .u64 r1]) ∧ Below W.heap.size W w')
    (h24 : ∀ W, Below w.heap.size w W → Calls Try.prog 24 #[.slice a len cap] W fun e w' => e = .returned (.agg #[.int .u64 r0, .int .u64 r1]) ∧ Below W.heap.size W w') :
    Calls Try.prog 5 #[.slice a len cap, .int .i64 i] w fun e w' => e = .returned (.bool true) ∧ Below w.heap.size w w' := by
  have hp : ¬ (20 : Int) < (len : Int) := by omega
  have H21 := Lib.hid h21
  have H22 := Lib.hid h22
  have H23 := Lib.hid h23
  have H24 := Lib.hid h24
  clear h21 h22 h23 h24
  go_enter Try.func5, Try.ntmps5
  go_wp2_with fail
  refine (H21.out _ (Below.refl _ _)).mono ?_
  rintro e w1 ⟨v1, rfl, d1, hb1⟩
  go_wp2_with fail
  refine (H22.out _ hb1).mono ?_
  rintro e w2 ⟨v2, rfl, d2, hb2⟩
  have b2 := bl hb1 hb2
  go_wp2_with fail
  refine (H23.out _ b2).mono ?_
  rintro e w3 ⟨rfl, hb3⟩
  have b3 := bl b2 hb3
  go_wp2_with fail
  refine (H24.out _ b3).mono ?_
  rintro e w4 ⟨rfl, hb4⟩
  have b4 := bl b3 hb4
  go_wp2_with fail
  refine (same_any P v1 v2 _ (((d1.below hb2).below hb3).below hb4) ((d2.below hb3).below hb4)).mono ?_
  rintro e w5 ⟨rfl, hb5⟩
  have b5 := bl b4 hb5
  go_wp2_with fail
  refine (h10 _).mono ?_
  rintro e w6 ⟨rfl, hb6⟩
  go_wp2
  go_ret
  exact ⟨rfl, bl b5 hb6⟩

theorem treeLaw_any (L : List Dig) (v : Value) (i : Int) (w : World) (hv : IsDigs w v L) :
    Calls Try.prog 5 #[v, .int .i64 i] w fun e w' => e = .returned (.bool true) ∧ Below w.heap.size w w' := by
  have hv' := hv
  obtain ⟨a, cap, rfl, h1, h2, _⟩ := hv'
  rcases Nat.lt_or_ge 20 L.length with h | h
  · exact treeLaw_long i a _ cap h (Nat.le_trans h1 h2) w
  · by_cases hi : i < 0 ∨ (L.length : Int) ≤ i
    · refine treeLaw_way i _ _ 2 [] a _ cap h w awake_any (fun W hW => ?_) (fun W hW => ?_) (fun W hW => root_any 21 L W _ (by omega) (by omega) (hv.below hW)) (fun W hW => refRoot_any 21 L W _ (by omega) (by omega) (hv.below hW))
      · refine (proofBad_any _ cap a i hi W).mono ?_
        rintro e w' ⟨v, rfl, ho, hB⟩
        exact ⟨v, rfl, own_digs ho, hB⟩
      · refine (refProofBad_any _ cap a i hi W).mono ?_
        rintro e w' ⟨v, rfl, ho, hB⟩
        exact ⟨v, rfl, own_digs ho, hB⟩
    · obtain ⟨j, rfl⟩ := Int.eq_ofNat_of_zero_le (show 0 ≤ i by omega)
      refine treeLaw_way j _ _ 0 (proofT 21 L j) a _ cap h w awake_any (fun W hW => ?_) (fun W hW => ?_) (fun W hW => root_any 21 L W _ (by omega) (by omega) (hv.below hW)) (fun W hW => refRoot_any 21 L W _ (by omega) (by omega) (hv.below hW))
      · refine (proofGood_any _ cap _ a j _ (by omega) (by omega) W (proof_any 21 L j W _ (by omega) (by omega) (by omega) (hv.below hW))).mono ?_
        rintro e w' ⟨v, rfl, ho, hB⟩
        exact ⟨v, rfl, own_digs ho, hB⟩
      · refine (refProof_any 21 L j W _ (by omega) (by omega) (by omega) (hv.below hW)).mono ?_
        rintro e w' ⟨v, rfl, ho, hB⟩
        exact ⟨v, rfl, own_digs ho, hB⟩

set_option maxRecDepth 100000 in
theorem tree_lifted (os : Os) (started : os.Started) (H : Type) (enc : TypeId × Value → H) :
    ReturnsInHanded {} Try.checked os 5 .any (Rows.digestTreeSpec.pre6 enc Try.prog Try.f5 Rows.digestTreeRow.domain false) (Rows.digestTreeSpec.post enc Try.prog Try.f5 false true false false) := by
  refine returnsInHanded_of_change (C := Try.checked) ownK started (by kernel_rfl) Try.func5
    (ChangeSpec.witness6 (enc := enc) (C := Try.checked) false ⟨#[], #[.slice none 0 0, .int .i64 0], []⟩ 8 (by kernel_rfl) (by kernel_rfl) (by kernel_rfl) (by kernel_rfl)) ?_
  intro W base args ds gs before hval0 hW hcnd _
  have hval : ∀ (j : Nat) t v, Try.f5.params[j]? = some t → args[j]? = some v → Value.okWide Try.prog W .any base t v := hval0
  have hW' := hW
  obtain ⟨p, q, hA0, hV, rfl, hfz, hnd⟩ := hW
  have hA : DataW.TrodAll enc Try.prog W 0 (fun _ => true) true Try.f5.params.toList args.toList ds p := hA0
  rw [Try.params5] at hA hval
  obtain ⟨v0, v1, d0, d1, p0, p1, rfl, rfl, rfl, h0, h1⟩ := trodAll_two hA
  obtain ⟨rfl, rfl⟩ := trodVars_none hV
  have k0 := h0
  have lt0 : ∀ x ∈ p0, x.block < W.heap.size := by obtain ⟨m, hm⟩ := k0; exact DataW.trod_lt m _ _ _ hm
  obtain ⟨a0, len0, cap0, rfl⟩ := okWide_slice Try.underlying35 (hval 0 35 v0 rfl rfl)
  obtain ⟨L, hdigs⟩ : ∃ L, IsDigs W (.slice a0 len0 cap0) L := by
    obtain ⟨fuel, hf⟩ := h0
    obtain ⟨v, L, e, h⟩ := open_digs hf
    simp [Value.cells] at e
    rw [e]
    exact ⟨L, h⟩
  obtain ⟨i, rfl, rfl, rfl, w1⟩ := open_int Try.underlying3 (hval 1 3 v1 rfl rfl) h1
  clear hA0 hval0
  refine (treeLaw_any L _ i W hdigs).mono fun e W' ⟨he, bel⟩ => ?_
  subst he
  exact ⟨_, rfl, _, _, _, [], _, [], hW', trodAll_mk1 (shut_bool Try.underlying4 _), (trodAll_cons_mk (Below.trod laidOut (by kernel_rfl) (of_decide_eq_true (by kernel_rfl)) k0 bel lt0) (trodAll_cons_mk (shut_int Try.underlying3 w1) trodAll_mk0)), rfl, bel.frame _, fun h => by cases h⟩

theorem tree_holds : Rows.DigestTreeSaid :=
  OpenClaim.holds_of_wide 5 Try.f5 rfl rfl rfl rfl rfl rfl rfl ⟨rfl, rfl, rfl, rfl, rfl⟩ rfl rfl rfl rfl rfl (by kernel_rfl) Try.func5 (by kernel_rfl)
    (of_decide_eq_true (by kernel_rfl)) (by unfold Func.isWrapper; rw [if_neg (of_decide_eq_false (by kernel_rfl))]; exact ⟨rfl, rfl⟩)
    (fun os started H enc _ => tree_lifted os started H enc)
#print axioms tree_holds
end Go.Proofs.Ytamhokedekhocaa
