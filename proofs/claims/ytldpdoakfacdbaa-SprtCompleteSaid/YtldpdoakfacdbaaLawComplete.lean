/- For every trial and number SprtComplete returns true and leaves its arguments as they were: the counts at the ends, each times its continuations, make 2 to the n together. No condition. -/
import Derived.Test.YtldpdoakfacdbaaOpen
import Derived.Test.YtldpdoakfacdbaaEndsW
namespace Go.Proofs.Ytldpdoakfacdbaa
open Go.ChangeShapes Go.WideShapes Go.ChangeAt Go.RowKit

theorem u8_bounds' {n : Int} (h : (Lit.int .u8 n).wf = true) : 0 ≤ n ∧ n < 256 := by
  simp [Lit.wf, IntKind.min, IntKind.max, IntKind.bits, IntKind.signed] at h
  omega
theorem shl_sum (S xc e : Nat) (h : S + xc * 2 ^ e ≤ 65536) : wrap64 (S + wrap64 (xc * 2 ^ e)) = ((S + xc * 2 ^ e : Nat) : Int) := by
  have h1 : (xc : Int) * 2 ^ e = ((xc * 2 ^ e : Nat) : Int) := by rw [Int.natCast_mul, Int.natCast_pow]; rfl
  rw [h1]
  generalize xc * 2 ^ e = v at h ⊢
  rw [IntWalk.wrap64_in (v : Int) (by omega), IntWalk.wrap64_in _ (by omega)]
  omega
theorem weighE_take (m : Nat) (l : List EndR) (k : Nat) (h : k < l.length) : weighE m (l.take (k + 1)) = weighE m (l.take k) + l[k].c * 2 ^ (m - l[k].p - l[k].f) := by
  rw [List.take_succ_eq_append_getElem h, weighE_append]; simp [weighE]
theorem weighE_take_le (m : Nat) (l : List EndR) (k : Nat) : weighE m (l.take k) ≤ weighE m l := by
  conv => rhs; rw [← List.take_append_drop k l, weighE_append]
  omega

set_option maxHeartbeats 1000000 in
theorem compLaw_bad (gn gd bn bd an ad en ed : Int) (hk : chk gn gd bn bd an ad en ed = 1) (a : Nat) (ha : a < 256) (w : World) :
    Calls Try.prog 9 #[trialV gn gd bn bd an ad en ed, .int .u8 a] w fun e w' => e = .returned (.bool true) ∧ Below w.heap.size w w' := by
  have HK := Lib.hid hk
  clear hk
  have k0 := Lib.hid (L8.fresh gn gd bn bd an ad en ed w 25)
  have hB := (Below.refl w.heap.size w).alloc (Nat.le_refl _) (.cells #[.int .i64 gn, .int .i64 gd, .int .i64 bn, .int .i64 bd, .int .i64 an, .int .i64 ad, .int .i64 en, .int .i64 ed] 25)
  go_enter Try.func9, Try.ntmps9
  go_wp2_with fail
  ((with_reducible refine (ends_bad gn gd bn bd an ad en ed _ HK.out _).mono ?_); rintro e w1 ⟨rfl, hb1⟩)
  have k1 := Lib.hid (k0.out.below hb1 k0.out.lt)
  have B1 := hB.trans (hb1.mono hB.size)
  clear hb1
  obtain ⟨c0, c1, c2, c3, c4, c5, c6, c7, lt⟩ := k1.out
  go_wp2_with fail
  ((with_reducible refine (check_any gn gd bn bd an ad en ed _).mono ?_); rintro e w2 ⟨he, hb2⟩)
  rw [HK.out] at he
  subst he
  have B2 := B1.trans (hb2.mono B1.size)
  clear hb2
  go_wp2_with fail
  ((with_reducible refine (awake_any _).mono ?_); rintro e w3 ⟨rfl, hb3⟩)
  go_wp2
  go_ret
  exact ⟨rfl, B2.trans (hb3.mono B2.size)⟩

set_option maxRecDepth 100000 in
set_option maxHeartbeats 4000000 in
theorem compLaw_good (t : Tr) (ht : t.Ok) (a : Nat) (ha : a < 256) (w : World) :
    Calls Try.prog 9 #[trialV t.gn t.gd t.bn t.bd t.an t.ad t.en t.ed, .int .u8 a] w fun e w' => e = .returned (.bool true) ∧ Below w.heap.size w w' := by
  obtain ⟨k, hk⟩ : ∃ k, k = a % 17 := ⟨_, rfl⟩
  have hk16 : k ≤ 16 := by omega
  have hka : (a : Int) % 17 = (k : Int) := by omega
  have HKA := Lib.hid hka
  clear hk hka
  have hB := (Below.refl w.heap.size w).alloc (Nat.le_refl _) (.cells #[.int .i64 t.gn, .int .i64 t.gd, .int .i64 t.bn, .int .i64 t.bd, .int .i64 t.an, .int .i64 t.ad, .int .i64 t.en, .int .i64 t.ed] 25)
  go_enter Try.func9, Try.ntmps9
  go_wp2_with fail
  rw [HKA.out]
  ((with_reducible refine (ends_good t ht k (by omega) _).mono ?_); rintro e w1 ⟨v1, rfl, i1, hb1⟩)
  have B1 := hB.trans (hb1.mono hB.size)
  have I1 := Lib.hid i1
  clear hb1 hB i1
  have hm := outsE_mem t.dec k (k + 1)
  have hall := outs_all t.dec k
  have hlen := Nat.le_trans (outsE_len t.dec k (k + 1)) (Nat.le_trans (Nat.mul_le_mul (show k + 1 ≤ 17 by omega) (show k + 1 + 1 ≤ 18 by omega)) (show 17 * 18 ≤ 306 by omega))
  generalize outsE t.dec k (k + 1) = L at hm hall hlen I1
  have HM := Lib.hid hm
  have HALL := Lib.hid hall
  clear hm hall
  obtain ⟨a1, cap1, rfl, _, _, hc1⟩ := I1.out
  have HC := Lib.hid hc1
  clear hc1
  go_wp2
  go_loopw [8, 31] (fun s8 s31 wr => ∃ j : Nat, j ≤ L.length ∧ s31 = .int .i64 j ∧ s8 = .int .i64 (weighE k (L.take j) : Nat) ∧ Below w1.heap.size w1 wr) (fun _ i _ => L.length - (intOf i).toNat)
  case atStart => exact ⟨0, Nat.zero_le _, rfl, rfl, Below.refl _ _⟩
  case round =>
    obtain ⟨j, hj, rfl, rfl, hB⟩ := hrel
    by_cases hlt : j < L.length
    · obtain ⟨b1, o1, rfl, hb1, hcell1⟩ := HC.out.resolve_left (by intro e; rw [e] at hlt; simp at hlt)
      obtain ⟨p0, p1, p2, p3⟩ := hcell1 j hlt
      have c1 : ∀ o, wr.cell? ⟨b1, o, none⟩ = w1.cell? ⟨b1, o, none⟩ := fun o => hB.cell (p := ⟨b1, o, none⟩) hb1
      rw [← c1] at p0 p1 p2 p3
      obtain ⟨m1, _, m3, m4, m5⟩ := HM.out L[j] (List.getElem_mem hlt)
      have hs := weighE_take k L j hlt
      have hle := weighE_take_le k L (j + 1)
      rw [HALL.out] at hle
      generalize L[j] = x at p0 p1 p2 p3 m1 m3 m4 m5 hs
      obtain ⟨xp, xf, xd, xc⟩ := x
      simp only at p0 p1 p2 p3 m1 m3 m4 m5 hs
      have hx16 : xc ≤ 65536 := Nat.le_trans m4 (Nat.le_trans (Nat.pow_le_pow_right (by omega) (show xp + xf ≤ 16 by omega)) (by decide))
      have hpk : 2 ^ k ≤ 65536 := Nat.le_trans (Nat.pow_le_pow_right (by omega) hk16) (by decide)
      rw [hs] at hle
      have HS := Lib.hid hs
      generalize weighE k (L.take j) = S at hle HS
      clear hcell1 c1 hs
      have hpf : (xp : Int) + xf ≤ k := by omega
      have HSUM := Lib.hid (shl_sum S xc (k - xp - xf) (by omega))
      by_cases hd : xd = 0
      · subst hd
        have hk2 : ¬ (xp : Int) + xf < k := by omega
        clear m5
        go_wp2
        go_roundw
        case rel => exact ⟨j + 1, by omega, by go_num, by rw [HS.out, HSUM.out], ⟨hB.os, hB.tape, hB.output, Nat.le_trans hB.size (by simp), fun b hb => (Below.heap_alloc _ _ b (Nat.lt_of_lt_of_le hb hB.size)).trans (hB.block b hb)⟩⟩
        case measure => simp [intOf]; omega
      · have hdd : (xd == 0) = false := by simpa using hd
        clear hd m5
        go_wp2
        go_roundw
        case rel => exact ⟨j + 1, by omega, by go_num, by rw [HS.out, HSUM.out], ⟨hB.os, hB.tape, hB.output, Nat.le_trans hB.size (by simp), fun b hb => (Below.heap_alloc _ _ b (Nat.lt_of_lt_of_le hb hB.size)).trans (hB.block b hb)⟩⟩
        case measure => simp [intOf]; omega
    · obtain rfl : j = L.length := by omega
      have hE : (((weighE k (L.take L.length) : Nat) : Int) == wrap64 (2 ^ k)) = true := by
        rw [List.take_length, HALL.out]
        have hpk : 2 ^ k ≤ 65536 := Nat.le_trans (Nat.pow_le_pow_right (by omega) hk16) (by decide)
        have h1 : ((2 ^ k : Nat) : Int) = (2 : Int) ^ k := by rw [Int.natCast_pow]; rfl
        rw [← h1]
        generalize 2 ^ k = z at hpk ⊢
        rw [IntWalk.wrap64_in (z : Int) (by omega)]
        simp
      generalize weighE k (L.take L.length) = S at hE ⊢
      have B2 := B1.trans (hB.mono B1.size)
      go_wp2_with fail
      ((with_reducible refine (awake_any _).mono ?_); rintro e w3 ⟨rfl, hb3⟩)
      go_wp2
      go_ret
      exact ⟨rfl, B2.trans (hb3.mono B2.size)⟩

theorem compLaw_any (gn gd bn bd an ad en ed : Int) (a : Nat) (ha : a < 256) (w : World) :
    Calls Try.prog 9 #[trialV gn gd bn bd an ad en ed, .int .u8 a] w fun e w' => e = .returned (.bool true) ∧ Below w.heap.size w w' := by
  rcases chk_cases gn gd bn bd an ad en ed with hk | ⟨_, t, ht, rfl, rfl, rfl, rfl, rfl, rfl, rfl, rfl⟩
  · exact compLaw_bad gn gd bn bd an ad en ed hk a ha w
  · exact compLaw_good t ht a ha w

set_option maxRecDepth 100000 in
theorem comp_lifted (os : Os) (started : os.Started) (H : Type) (enc : TypeId × Value → H) :
    ReturnsInHanded {} Try.checked os 9 .any (Rows.sprtCompleteSpec.pre6 enc Try.prog Try.f9 Rows.sprtCompleteRow.domain false) (Rows.sprtCompleteSpec.post enc Try.prog Try.f9 false true false false) := by
  refine returnsInHanded_of_change (C := Try.checked) ownK started (by kernel_rfl) Try.func9
    (ChangeSpec.witness6 (enc := enc) (C := Try.checked) false ⟨#[], #[trialV 0 0 0 0 0 0 0 0, .int .u8 0], []⟩ 8 (by kernel_rfl) (by kernel_rfl) (by kernel_rfl) (by kernel_rfl)) ?_
  intro W base args ds gs before hval0 hW hcnd _
  have hval : ∀ (j : Nat) t v, Try.f9.params[j]? = some t → args[j]? = some v → Value.okWide Try.prog W .any base t v := hval0
  have hW' := hW
  obtain ⟨p, q, hA0, hV, rfl, hfz, hnd⟩ := hW
  have hA : DataW.TrodAll enc Try.prog W 0 (fun _ => true) true Try.f9.params.toList args.toList ds p := hA0
  rw [Try.params9] at hA hval
  obtain ⟨v0, v1, d0, d1, p0, p1, rfl, rfl, rfl, h0, h1⟩ := trodAll_two hA
  obtain ⟨rfl, rfl⟩ := trodVars_none hV
  have k0 := h0
  have lt0 : ∀ x ∈ p0, x.block < W.heap.size := by obtain ⟨m, hm⟩ := k0; exact DataW.trod_lt m _ _ _ hm
  obtain ⟨gn, gd, bn, bd, an, ad, en, ed, rfl⟩ := open_trial (hval 0 25 v0 rfl rfl) h0
  obtain ⟨z1, rfl, rfl, rfl, w1⟩ := open_int Try.underlying5 (hval 1 5 v1 rfl rfl) h1
  have b1 := u8_bounds' w1
  obtain ⟨a, rfl⟩ := Int.eq_ofNat_of_zero_le b1.1
  clear hA0 hval0
  refine (compLaw_any gn gd bn bd an ad en ed a (by omega) W).mono fun e W' ⟨he, bel⟩ => ?_
  subst he
  exact ⟨_, rfl, _, _, _, [], _, [], hW', trodAll_mk1 (shut_bool Try.underlying4 _), (trodAll_cons_mk (Below.trod laidOut (by kernel_rfl) (of_decide_eq_true (by kernel_rfl)) k0 bel lt0) (trodAll_cons_mk (shut_int Try.underlying5 w1) trodAll_mk0)), rfl, bel.frame _, fun h => by cases h⟩

theorem comp_holds : Rows.SprtCompleteSaid :=
  OpenClaim.holds_of_wide 9 Try.f9 rfl rfl rfl rfl rfl rfl rfl ⟨rfl, rfl, rfl, rfl, rfl⟩ rfl rfl rfl rfl rfl (by kernel_rfl) Try.func9 (by kernel_rfl)
    (of_decide_eq_true (by kernel_rfl)) (by unfold Func.isWrapper; rw [if_neg (of_decide_eq_false (by kernel_rfl))]; exact ⟨rfl, rfl⟩)
    (fun os started H enc _ => comp_lifted os started H enc)
#print axioms comp_holds
end Go.Proofs.Ytldpdoakfacdbaa
