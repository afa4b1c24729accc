/- Two changes merged in either order: the law's walk, at this translation. -/
import Derived.Test.YtgnkfikihjjpeaaReg
namespace Go.Proofs.Ytgnkfikihjjpeaa
open Go.RowKit Go.Great Go.Maps

theorem Un.add {bx : List (Nat × Value × Value × Sm)} {w W : World} {g : Nat} {a r : Value} {S : Sm} (h : Un bx w W) (hb : SBox W g a r) (hs : IsSum W a r S) : Un ((g, a, r, S) :: bx) w W :=
  ⟨h.b, fun t ht => by
    rcases List.mem_cons.1 ht with rfl | ht
    · exact ⟨hb, hs⟩
    · exact h.x t ht⟩

theorem merged_len {B L R M : Sm} (h : (L = R → M = L) ∧ (L ≠ R → Mrg B L R M)) : M.A.length ≤ L.A.length + R.A.length + B.R.length := by
  by_cases e : L = R
  · rw [h.1 e]; omega
  · exact (h.2 e).most
theorem eqS_no {S T : Sm} (h : eqS S T = false) : S ≠ T := fun e => by rw [eqS_iff.2 e] at h; cases h
theorem order_same {S T0 T1 T2 T3 M1 M2 M3 M4 : Sm} (h1 : Mrg T0 S T1 M1) (h2 : Mrg T2 S T3 M2) (h3 : Mrg T2 M1 T3 M3) (h4 : Mrg T0 M2 T1 M4) : M3 = M4 :=
  h3.n.ext h4.n fun x => by rw [h3.c, h4.c, h1.c, h2.c]; omega

theorem run_index4 (c : Nat → BA) (k : Nat) (hk : k < 4) (w : World) : (Instr.index 44 (.agg #[.string (c 0), .string (c 1), .string (c 2), .string (c 3)]) (.int .i64 k)).run Try.prog w = .ok (.string (c k)) w := by
  obtain ⟨i0, hi, hz0, hz1, hz2⟩ := info_parts info9
  have hs : (sizeOf 9).run Try.prog w = .ok 1 w := by
    simp [sizeOf, typeInfo, hi, hz1]
  have : k = 0 ∨ k = 1 ∨ k = 2 ∨ k = 3 := by omega
  rcases this with rfl | rfl | rfl | rfl <;> simp [Instr.index, go_sem, run_underlying Try.underlying44, hs]
theorem wpList_index4 {ops : Array Oper} {rest : List Oper} {o : Oper} {a : Act} {w : World} {Q : Exit → Act → World → Prop} (hgd : o.guard = none) (s t : Operand) (ho : o.op = .index 44 s t) (c : Nat → BA) (k : Nat) (hk : k < 4) (z : Int) (hz : z = k)
    (hs : a.eval s = .agg #[.string (c 0), .string (c 1), .string (c 2), .string (c 3)]) (ht : a.eval t = .int .i64 z) (h : wpList Try.prog ops Q rest (a.put o.dst (.string (c k))) w) : wpList Try.prog ops Q (o :: rest) a w := by
  refine wpList_plain hgd fun K hK => ?_
  unfold Oper.wp execOp
  simp only [ho, hs, ht, hz, Sem.run_bind, run_index4 c k hk w, Result.andThen_ok, Sem.run_pure]
  exact hK _ _ h

set_option maxRecDepth 100000 in
set_option maxHeartbeats 4000000 in
theorem ord_main (S : Sm) (c : Nat → BA) (hc : ∀ k, (c k).size ≤ 100) (a0 r0 : Value) (w : World) (h0 : IsSum w a0 r0 S) (hb : big S = false) (hS : Ok S) :
    Calls Try.prog 9 #[sv a0 r0, .agg #[.string (c 0), .string (c 1), .string (c 2), .string (c 3)]] w fun e w' => e = .returned (.bool true) ∧ Below w.heap.size w w' := by
  have HB := Lib.hid hb
  have l0 := (not_big hb).2.1
  have l1 := (not_big hb).1
  have HK := Lib.hid ((chk_ok S).2 hS)
  have HS := Lib.hid hS
  clear hb hS
  have n0 : ¬ 100 < (c 0).size := by have := hc 0; omega
  have n1 : ¬ 100 < (c 1).size := by have := hc 1; omega
  have n2 : ¬ 100 < (c 2).size := by have := hc 2; omega
  have n3 : ¬ 100 < (c 3).size := by have := hc 3; omega
  have U1 := Un.new (bx := []) (w := w) ⟨Below.refl _ _, by simp⟩ h0
  obtain ⟨pa0, ca0, pr0, cr0, rfl, rfl, -, -⟩ := h0.parts
  have Q1 := QBox.new (w.alloc (.cells #[.slice pa0 S.A.length ca0, .slice pr0 S.R.length cr0] 24)) c
  rw [World.size_alloc] at Q1
  have U2 := U1.alloc (.cells #[.string (c 0), .string (c 1), .string (c 2), .string (c 3)] 44)
  obtain ⟨wb, hwb⟩ : ∃ wb, (w.alloc (.cells #[.slice pa0 S.A.length ca0, .slice pr0 S.R.length cr0] 24)).alloc (.cells #[.string (c 0), .string (c 1), .string (c 2), .string (c 3)] 44) = wb := ⟨_, rfl⟩
  rw [hwb] at U2 Q1
  have HW := Lib.hid hwb
  have HQ := Lib.hid Q1
  have c0 := Q1.cell (k := 0) (by omega)
  have c1 := Q1.cell (k := 1) (by omega)
  have c2 := Q1.cell (k := 2) (by omega)
  have c3 := Q1.cell (k := 3) (by omega)
  clear U1 hwb h0 Q1
  go_enter Try.func9, Try.ntmps9
  go_upto_region 1 with fail
  rw [HW.out]
  go_wp2
  clear c0 c1 c2 c3
  go_loopw [6, 20] (fun _ s20 wr => ∃ z : Int, (z = 0 ∨ z = 1 ∨ z = 2 ∨ z = 3 ∨ z = 4) ∧ s20 = .int .i64 z ∧ wr = wb) (fun _ i _ => (4 - intOf i).toNat)
  case atStart => exact ⟨0, .inl rfl, rfl, rfl⟩
  case round =>
    obtain ⟨z, hz, rfl, hw⟩ := hrel
    subst wr
    by_cases hlt : z ≠ 4
    · have hz : z = 0 ∨ z = 1 ∨ z = 2 ∨ z = 3 := by omega
      rcases hz with rfl | rfl | rfl | rfl
      · go_upto_region 3 with fail
        apply wp_region_lit
        refine wpList_index4 rfl _ _ rfl c 0 (by omega) 0 (by simp) rfl rfl ?_
        simp [Act.put]
        go_wp2
        go_roundw
        case rel => exact ⟨_, by omega, rfl, by simp⟩
        case measure => simp [intOf]
      · go_upto_region 3 with fail
        apply wp_region_lit
        refine wpList_index4 rfl _ _ rfl c 1 (by omega) 1 (by simp) rfl rfl ?_
        simp [Act.put]
        go_wp2
        go_roundw
        case rel => exact ⟨_, by omega, rfl, by simp⟩
        case measure => simp [intOf]
      · go_upto_region 3 with fail
        apply wp_region_lit
        refine wpList_index4 rfl _ _ rfl c 2 (by omega) 2 (by simp) rfl rfl ?_
        simp [Act.put]
        go_wp2
        go_roundw
        case rel => exact ⟨_, by omega, rfl, by simp⟩
        case measure => simp [intOf]
      · go_upto_region 3 with fail
        apply wp_region_lit
        refine wpList_index4 rfl _ _ rfl c 3 (by omega) 3 (by simp) rfl rfl ?_
        simp [Act.put]
        go_wp2
        go_roundw
        case rel => exact ⟨_, by omega, rfl, by simp⟩
        case measure => simp [intOf]
    · obtain rfl : z = 4 := Decidable.not_not.1 hlt
      clear hlt hz
      have hx := U2.x _ (List.mem_cons_self ..)
      have GR := Lib.hid (fun c hc => great_one S _ _ _ hx.2 c hc)
      have HUA := Lib.hid (U2.alloc (.cells #[.slice pa0 S.A.length ca0, .slice pr0 S.R.length cr0] 24))
      have HQA := Lib.hid (HQ.out.on ((Below.refl _ _).alloc (Nat.le_refl _) (.cells #[.slice pa0 S.A.length ca0, .slice pr0 S.R.length cr0] 24)))
      have c0 := hx.1.c0
      have c1 := hx.1.c1
      clear U2 hx
      go_wp2_with fail
      ((with_reducible refine (GR.out false HB.out).mono ?_); rintro e w1 ⟨rfl, hd⟩)
      have hU := HUA.out.on hd
      have hQ := HQA.out.on hd
      clear c0 c1 hd HUA GR HQA
      have c0 := hU.h.c0
      have c1 := hU.h.c1
      go_wp2_with fail
      ((with_reducible refine (check_any S _ _ _ hU.s (by omega) 0 HK.out).mono ?_); rintro e w2 ⟨rfl, hd⟩)
      have hU := hU.on hd
      have hQ := hQ.on hd
      clear c0 c1 hd
      go_upto_region 9 with fail
      refine region9 hQ rfl rfl ?_
      intro A G W3 F4
      have hU := hU.on F4.b
      have f0 := F4.x 0 (by omega)
      obtain ⟨T0, hT0⟩ : ∃ T : Sm, (⟨[c 0], []⟩ : Sm) = T := ⟨_, rfl⟩
      rw [hT0] at f0
      have O0 := Lib.hid (show Ok T0 by rw [← hT0]; exact one_ok (by have := hc 0; omega))
      have L0 := Lib.hid (show T0.A.length ≤ 1 ∧ T0.R.length ≤ 1 by rw [← hT0]; simp)
      clear hT0
      have f1 := F4.x 1 (by omega)
      obtain ⟨T1, hT1⟩ : ∃ T : Sm, (⟨[c 1], []⟩ : Sm) = T := ⟨_, rfl⟩
      rw [hT1] at f1
      have O1 := Lib.hid (show Ok T1 by rw [← hT1]; exact one_ok (by have := hc 1; omega))
      have L1 := Lib.hid (show T1.A.length ≤ 1 ∧ T1.R.length ≤ 1 by rw [← hT1]; simp)
      clear hT1
      have f2 := F4.x 2 (by omega)
      obtain ⟨T2, hT2⟩ : ∃ T : Sm, (⟨[c 2], []⟩ : Sm) = T := ⟨_, rfl⟩
      rw [hT2] at f2
      have O2 := Lib.hid (show Ok T2 by rw [← hT2]; exact one_ok (by have := hc 2; omega))
      have L2 := Lib.hid (show T2.A.length ≤ 1 ∧ T2.R.length ≤ 1 by rw [← hT2]; simp)
      clear hT2
      have f3 := F4.x 3 (by omega)
      obtain ⟨T3, hT3⟩ : ∃ T : Sm, (⟨[c 3], []⟩ : Sm) = T := ⟨_, rfl⟩
      rw [hT3] at f3
      have O3 := Lib.hid (show Ok T3 by rw [← hT3]; exact one_ok (by have := hc 3; omega))
      have L3 := Lib.hid (show T3.A.length ≤ 1 ∧ T3.R.length ≤ 1 by rw [← hT3]; simp)
      clear hT3
      clear hQ F4
      simp [fin9, slot9, val9, Act.put]
      obtain ⟨a0, ha0⟩ : ∃ a, A 0 = a := ⟨_, rfl⟩
      obtain ⟨g0, hg0⟩ : ∃ g, G 0 = g := ⟨_, rfl⟩
      rw [ha0, hg0] at f0
      rw [ha0, hg0]
      clear ha0 hg0
      obtain ⟨p0, q0, p0', q0', rfl, -, -, -⟩ := f0.2.2.parts
      obtain ⟨a1, ha1⟩ : ∃ a, A 1 = a := ⟨_, rfl⟩
      obtain ⟨g1, hg1⟩ : ∃ g, G 1 = g := ⟨_, rfl⟩
      rw [ha1, hg1] at f1
      rw [ha1, hg1]
      clear ha1 hg1
      obtain ⟨p1, q1, p1', q1', rfl, -, -, -⟩ := f1.2.2.parts
      obtain ⟨a2, ha2⟩ : ∃ a, A 2 = a := ⟨_, rfl⟩
      obtain ⟨g2, hg2⟩ : ∃ g, G 2 = g := ⟨_, rfl⟩
      rw [ha2, hg2] at f2
      rw [ha2, hg2]
      clear ha2 hg2
      obtain ⟨p2, q2, p2', q2', rfl, -, -, -⟩ := f2.2.2.parts
      obtain ⟨a3, ha3⟩ : ∃ a, A 3 = a := ⟨_, rfl⟩
      obtain ⟨g3, hg3⟩ : ∃ g, G 3 = g := ⟨_, rfl⟩
      rw [ha3, hg3] at f3
      rw [ha3, hg3]
      clear ha3 hg3
      obtain ⟨p3, q3, p3', q3', rfl, -, -, -⟩ := f3.2.2.parts
      have hU := (((hU.add f0.2.1 f0.2.2).add f1.2.1 f1.2.2).add f2.2.1 f2.2.2).add f3.2.1 f3.2.2
      clear f0 f1 f2 f3
      go_upto_region 10 with fail
      have x0 := hU.x _ (List.mem_cons_of_mem _ (List.mem_cons_of_mem _ (List.mem_cons_of_mem _ (List.mem_cons_self ..))))
      have c0 := x0.1.c0
      have c1 := x0.1.c1
      have x1 := hU.x _ (List.mem_cons_of_mem _ (List.mem_cons_of_mem _ (List.mem_cons_of_mem _ (List.mem_cons_of_mem _ (List.mem_cons_self ..)))))
      have c2 := x1.1.c0
      have c3 := x1.1.c1
      have x2 := hU.x _ (List.mem_cons_of_mem _ (List.mem_cons_of_mem _ (List.mem_cons_self ..)))
      have c4 := x2.1.c0
      have c5 := x2.1.c1
      go_wp2_with fail
      ((with_reducible refine (merge_ok T0 S T1 _ _ _ _ _ _ _ x0.2 x1.2 x2.2 (by have := L0.out; have := L1.out; omega) O0.out HS.out O1.out).mono ?_); rintro e we ⟨va, vr, M1, rfl, hM, hMg, hd⟩)
      have GM1 := Lib.hid hMg
      obtain ⟨uM11, uM12, uM13, uM14, rfl, rfl, -, -⟩ := hM.parts
      have hU := (hU.on hd).new hM
      clear c0 c1 c2 c3 c4 c5 x0 x1 x2 hM hMg hd
      have OM1 := Lib.hid (merged_ok GM1.out O0.out HS.out O1.out (by have := L0.out; have := L1.out; omega))
      have LM1 := Lib.hid (show M1.A.length ≤ 14 ∧ M1.R.length ≤ 14 by have := merged_len GM1.out; have := OM1.out.l; have := L0.out; have := L1.out; omega)
      go_upto_region 11 with fail
      have x0 := hU.x _ (List.mem_cons_of_mem _ (List.mem_cons_of_mem _ (List.mem_cons_self ..)))
      have c0 := x0.1.c0
      have c1 := x0.1.c1
      have x1 := hU.x _ (List.mem_cons_of_mem _ (List.mem_cons_of_mem _ (List.mem_cons_of_mem _ (List.mem_cons_of_mem _ (List.mem_cons_of_mem _ (List.mem_cons_self ..))))))
      have c2 := x1.1.c0
      have c3 := x1.1.c1
      have x2 := hU.x _ (List.mem_cons_of_mem _ (List.mem_cons_self ..))
      have c4 := x2.1.c0
      have c5 := x2.1.c1
      go_wp2_with fail
      ((with_reducible refine (merge_ok T2 S T3 _ _ _ _ _ _ _ x0.2 x1.2 x2.2 (by have := L2.out; have := L3.out; omega) O2.out HS.out O3.out).mono ?_); rintro e wf ⟨va, vr, M2, rfl, hM, hMg, hd⟩)
      have GM2 := Lib.hid hMg
      obtain ⟨uM21, uM22, uM23, uM24, rfl, rfl, -, -⟩ := hM.parts
      have hU := (hU.on hd).new hM
      clear c0 c1 c2 c3 c4 c5 x0 x1 x2 hM hMg hd
      have OM2 := Lib.hid (merged_ok GM2.out O2.out HS.out O3.out (by have := L2.out; have := L3.out; omega))
      have LM2 := Lib.hid (show M2.A.length ≤ 14 ∧ M2.R.length ≤ 14 by have := merged_len GM2.out; have := OM2.out.l; have := L2.out; have := L3.out; omega)
      obtain ⟨e1, he1⟩ : ∃ e, eqS S T1 = e := ⟨_, rfl⟩
      obtain ⟨e2, he2⟩ : ∃ e, eqS S T3 = e := ⟨_, rfl⟩
      obtain ⟨e3, he3⟩ : ∃ e, eqS M1 T3 = e := ⟨_, rfl⟩
      obtain ⟨e4, he4⟩ : ∃ e, eqS M2 T1 = e := ⟨_, rfl⟩
      have E1 := Lib.hid he1
      have E2 := Lib.hid he2
      have E3 := Lib.hid he3
      have E4 := Lib.hid he4
      clear he1 he2 he3 he4
      go_upto_region 12 with fail
      cases e1 with
      | true =>
        have x0 := hU.x _ (List.mem_cons_of_mem _ (List.mem_cons_of_mem _ (List.mem_cons_of_mem _ (List.mem_cons_of_mem _ (List.mem_cons_of_mem _ (List.mem_cons_of_mem _ (List.mem_cons_self ..)))))))
        have x1 := hU.x _ (List.mem_cons_of_mem _ (List.mem_cons_of_mem _ (List.mem_cons_of_mem _ (List.mem_cons_of_mem _ (List.mem_cons_self ..)))))
        have c0 := x0.1.c0
        have c1 := x0.1.c1
        have c2 := x1.1.c0
        have c3 := x1.1.c1
        go_wp2_with fail
        ((with_reducible refine (same_any S T1 _ _ _ _ _ x0.2 x1.2 true E1.out).mono ?_); rintro e wg ⟨rfl, hd⟩)
        have hU := hU.on hd
        clear c0 c1 c2 c3 x0 x1 hd
        go_wp2_with ((with_reducible refine (awake_any _).mono ?_); rintro e wz ⟨rfl, hd⟩)
        have hU := hU.on hd
        go_ret
        exact ⟨rfl, hU.b⟩
      | false =>
        have x0 := hU.x _ (List.mem_cons_of_mem _ (List.mem_cons_of_mem _ (List.mem_cons_of_mem _ (List.mem_cons_of_mem _ (List.mem_cons_of_mem _ (List.mem_cons_of_mem _ (List.mem_cons_self ..)))))))
        have x1 := hU.x _ (List.mem_cons_of_mem _ (List.mem_cons_of_mem _ (List.mem_cons_of_mem _ (List.mem_cons_of_mem _ (List.mem_cons_self ..)))))
        have c0 := x0.1.c0
        have c1 := x0.1.c1
        have c2 := x1.1.c0
        have c3 := x1.1.c1
        go_wp2_with fail
        ((with_reducible refine (same_any S T1 _ _ _ _ _ x0.2 x1.2 false E1.out).mono ?_); rintro e wg ⟨rfl, hd⟩)
        have hU := hU.on hd
        clear c0 c1 c2 c3 x0 x1 hd
        cases e2 with
        | true =>
          have x0 := hU.x _ (List.mem_cons_of_mem _ (List.mem_cons_of_mem _ (List.mem_cons_of_mem _ (List.mem_cons_of_mem _ (List.mem_cons_of_mem _ (List.mem_cons_of_mem _ (List.mem_cons_self ..)))))))
          have x1 := hU.x _ (List.mem_cons_of_mem _ (List.mem_cons_of_mem _ (List.mem_cons_self ..)))
          have c0 := x0.1.c0
          have c1 := x0.1.c1
          have c2 := x1.1.c0
          have c3 := x1.1.c1
          go_wp2_with fail
          ((with_reducible refine (same_any S T3 _ _ _ _ _ x0.2 x1.2 true E2.out).mono ?_); rintro e wh ⟨rfl, hd⟩)
          have hU := hU.on hd
          clear c0 c1 c2 c3 x0 x1 hd
          go_wp2_with ((with_reducible refine (awake_any _).mono ?_); rintro e wz ⟨rfl, hd⟩)
          have hU := hU.on hd
          go_ret
          exact ⟨rfl, hU.b⟩
        | false =>
          have x0 := hU.x _ (List.mem_cons_of_mem _ (List.mem_cons_of_mem _ (List.mem_cons_of_mem _ (List.mem_cons_of_mem _ (List.mem_cons_of_mem _ (List.mem_cons_of_mem _ (List.mem_cons_self ..)))))))
          have x1 := hU.x _ (List.mem_cons_of_mem _ (List.mem_cons_of_mem _ (List.mem_cons_self ..)))
          have c0 := x0.1.c0
          have c1 := x0.1.c1
          have c2 := x1.1.c0
          have c3 := x1.1.c1
          go_wp2_with fail
          ((with_reducible refine (same_any S T3 _ _ _ _ _ x0.2 x1.2 false E2.out).mono ?_); rintro e wh ⟨rfl, hd⟩)
          have hU := hU.on hd
          clear c0 c1 c2 c3 x0 x1 hd
          cases e3 with
          | true =>
            have x0 := hU.x _ (List.mem_cons_of_mem _ (List.mem_cons_self ..))
            have x1 := hU.x _ (List.mem_cons_of_mem _ (List.mem_cons_of_mem _ (List.mem_cons_self ..)))
            have c0 := x0.1.c0
            have c1 := x0.1.c1
            have c2 := x1.1.c0
            have c3 := x1.1.c1
            go_wp2_with fail
            ((with_reducible refine (same_any M1 T3 _ _ _ _ _ x0.2 x1.2 true E3.out).mono ?_); rintro e wi ⟨rfl, hd⟩)
            have hU := hU.on hd
            clear c0 c1 c2 c3 x0 x1 hd
            go_wp2_with ((with_reducible refine (awake_any _).mono ?_); rintro e wz ⟨rfl, hd⟩)
            have hU := hU.on hd
            go_ret
            exact ⟨rfl, hU.b⟩
          | false =>
            have x0 := hU.x _ (List.mem_cons_of_mem _ (List.mem_cons_self ..))
            have x1 := hU.x _ (List.mem_cons_of_mem _ (List.mem_cons_of_mem _ (List.mem_cons_self ..)))
            have c0 := x0.1.c0
            have c1 := x0.1.c1
            have c2 := x1.1.c0
            have c3 := x1.1.c1
            go_wp2_with fail
            ((with_reducible refine (same_any M1 T3 _ _ _ _ _ x0.2 x1.2 false E3.out).mono ?_); rintro e wi ⟨rfl, hd⟩)
            have hU := hU.on hd
            clear c0 c1 c2 c3 x0 x1 hd
            cases e4 with
            | true =>
              have x0 := hU.x _ (List.mem_cons_self ..)
              have x1 := hU.x _ (List.mem_cons_of_mem _ (List.mem_cons_of_mem _ (List.mem_cons_of_mem _ (List.mem_cons_of_mem _ (List.mem_cons_self ..)))))
              have c0 := x0.1.c0
              have c1 := x0.1.c1
              have c2 := x1.1.c0
              have c3 := x1.1.c1
              go_wp2_with fail
              ((with_reducible refine (same_any M2 T1 _ _ _ _ _ x0.2 x1.2 true E4.out).mono ?_); rintro e wj ⟨rfl, hd⟩)
              have hU := hU.on hd
              clear c0 c1 c2 c3 x0 x1 hd
              go_wp2_with ((with_reducible refine (awake_any _).mono ?_); rintro e wz ⟨rfl, hd⟩)
              have hU := hU.on hd
              go_ret
              exact ⟨rfl, hU.b⟩
            | false =>
              have x0 := hU.x _ (List.mem_cons_self ..)
              have x1 := hU.x _ (List.mem_cons_of_mem _ (List.mem_cons_of_mem _ (List.mem_cons_of_mem _ (List.mem_cons_of_mem _ (List.mem_cons_self ..)))))
              have c0 := x0.1.c0
              have c1 := x0.1.c1
              have c2 := x1.1.c0
              have c3 := x1.1.c1
              go_wp2_with fail
              ((with_reducible refine (same_any M2 T1 _ _ _ _ _ x0.2 x1.2 false E4.out).mono ?_); rintro e wj ⟨rfl, hd⟩)
              have hU := hU.on hd
              clear c0 c1 c2 c3 x0 x1 hd
              go_upto_region 14 with fail
              have x0 := hU.x _ (List.mem_cons_of_mem _ (List.mem_cons_of_mem _ (List.mem_cons_of_mem _ (List.mem_cons_self ..))))
              have c0 := x0.1.c0
              have c1 := x0.1.c1
              have x1 := hU.x _ (List.mem_cons_of_mem _ (List.mem_cons_self ..))
              have c2 := x1.1.c0
              have c3 := x1.1.c1
              have x2 := hU.x _ (List.mem_cons_of_mem _ (List.mem_cons_of_mem _ (List.mem_cons_self ..)))
              have c4 := x2.1.c0
              have c5 := x2.1.c1
              go_wp2_with fail
              ((with_reducible refine (merge_ok T2 M1 T3 _ _ _ _ _ _ _ x0.2 x1.2 x2.2 (by have := L2.out; have := L3.out; have := LM1.out; omega) O2.out OM1.out O3.out).mono ?_); rintro e wk ⟨va, vr, M3, rfl, hM, hMg, hd⟩)
              have GM3 := Lib.hid hMg
              obtain ⟨uM31, uM32, uM33, uM34, rfl, rfl, -, -⟩ := hM.parts
              have hU := (hU.on hd).new hM
              clear c0 c1 c2 c3 c4 c5 x0 x1 x2 hM hMg hd
              go_upto_region 15 with fail
              have x0 := hU.x _ (List.mem_cons_of_mem _ (List.mem_cons_of_mem _ (List.mem_cons_of_mem _ (List.mem_cons_of_mem _ (List.mem_cons_of_mem _ (List.mem_cons_of_mem _ (List.mem_cons_self ..)))))))
              have c0 := x0.1.c0
              have c1 := x0.1.c1
              have x1 := hU.x _ (List.mem_cons_of_mem _ (List.mem_cons_self ..))
              have c2 := x1.1.c0
              have c3 := x1.1.c1
              have x2 := hU.x _ (List.mem_cons_of_mem _ (List.mem_cons_of_mem _ (List.mem_cons_of_mem _ (List.mem_cons_of_mem _ (List.mem_cons_of_mem _ (List.mem_cons_self ..))))))
              have c4 := x2.1.c0
              have c5 := x2.1.c1
              go_wp2_with fail
              ((with_reducible refine (merge_ok T0 M2 T1 _ _ _ _ _ _ _ x0.2 x1.2 x2.2 (by have := L0.out; have := L1.out; have := LM2.out; omega) O0.out OM2.out O1.out).mono ?_); rintro e wl ⟨va, vr, M4, rfl, hM, hMg, hd⟩)
              have GM4 := Lib.hid hMg
              obtain ⟨uM41, uM42, uM43, uM44, rfl, rfl, -, -⟩ := hM.parts
              have hU := (hU.on hd).new hM
              clear c0 c1 c2 c3 c4 c5 x0 x1 x2 hM hMg hd
              have EF := Lib.hid (eqS_iff.2 (order_same (GM1.out.2 (eqS_no E1.out)) (GM2.out.2 (eqS_no E2.out)) (GM3.out.2 (eqS_no E3.out)) (GM4.out.2 (eqS_no E4.out))))
              go_upto_region 16 with fail
              have x0 := hU.x _ (List.mem_cons_of_mem _ (List.mem_cons_self ..))
              have x1 := hU.x _ (List.mem_cons_self ..)
              have c0 := x0.1.c0
              have c1 := x0.1.c1
              have c2 := x1.1.c0
              have c3 := x1.1.c1
              go_wp2_with fail
              ((with_reducible refine (same_any M3 M4 _ _ _ _ _ x0.2 x1.2 true EF.out).mono ?_); rintro e wm ⟨rfl, hd⟩)
              have hU := hU.on hd
              clear c0 c1 c2 c3 x0 x1 hd
              go_wp2_with ((with_reducible refine (awake_any _).mono ?_); rintro e wz ⟨rfl, hd⟩)
              have hU := hU.on hd
              go_ret
              exact ⟨rfl, hU.b⟩
end Go.Proofs.Ytgnkfikihjjpeaa
