/- Merge answers as the reference's: the law's walk, at this translation. -/
import Derived.Test.YtgnkfikihjjpeaaTriv
import Derived.Test.YtgnkfikihjjpeaaRefMerge
namespace Go.Proofs.Ytgnkfikihjjpeaa
open Go.RowKit Go.Great Go.Maps

theorem merge_uniq {B L R M N : Sm} (h : (L = R → M = L) ∧ (L ≠ R → Mrg B L R M)) (h2 : (L = R → N = L) ∧ (L ≠ R → Mrg B L R N)) : M = N := by
  by_cases e : L = R
  · rw [h.1 e, h2.1 e]
  · exact (h.2 e).uniq (h2.2 e)
theorem fst_ok {B L R : Sm} (h : fstErr [B, L, R] = 0) : Ok B ∧ Ok L ∧ Ok R := by
  simp only [fstErr] at h
  split at h
  · rename_i e; exact absurd h e
  · rename_i e
    split at h
    · rename_i e; exact absurd h e
    · rename_i e1
      split at h
      · rename_i e; exact absurd h e
      · rename_i e2
        exact ⟨(chk_ok _).1 (Decidable.not_not.1 e), (chk_ok _).1 (Decidable.not_not.1 e1), (chk_ok _).1 (Decidable.not_not.1 e2)⟩

set_option maxRecDepth 100000 in
set_option maxHeartbeats 4000000 in
theorem lawm_big (B L R : Sm) (a0 r0 a1 r1 a2 r2 : Value) (w : World) (h0 : IsSum w a0 r0 B) (h1 : IsSum w a1 r1 L) (h2 : IsSum w a2 r2 R) (hb : [B, L, R].any big = true) :
    Calls Try.prog 4 #[sv a0 r0, sv a1 r1, sv a2 r2] w fun e w' => e = .returned (.bool true) ∧ Below w.heap.size w w' := by
  have HB := Lib.hid hb
  clear hb
  have b0 := (Below.refl w.heap.size w).alloc (Nat.le_refl _) (.cells #[a0, r0] 24)
  have U1 := Un.new (bx := []) (w := w) ⟨Below.refl _ _, by simp⟩ h0
  have U2 := U1.new (h1.below b0 (Nat.le_refl _))
  have b1 := b0.alloc (by simp) (.cells #[a1, r1] 24)
  have U3 := U2.new (h2.below b1 (Nat.le_refl _))
  simp only [World.size_alloc] at U3
  obtain ⟨wb, hwb⟩ : ∃ wb, ((w.alloc (.cells #[a0, r0] 24)).alloc (.cells #[a1, r1] 24)).alloc (.cells #[a2, r2] 24) = wb := ⟨_, rfl⟩
  rw [hwb] at U3
  have HW := Lib.hid hwb
  clear U1 U2 b0 b1 hwb
  have RW := row3_new wb a0 r0 a1 r1 a2 r2 B L R
  have UA := U3.alloc (.cells #[a0, r0, a1, r1, a2, r2] 24)
  have HS : Hid (∀ j (h : j < [B, L, R].length), IsSum (wb.alloc (.cells #[a0, r0, a1, r1, a2, r2] 24)) (at3 (a0, r0) (a1, r1) (a2, r2) j).1 (at3 (a0, r0) (a1, r1) (a2, r2) j).2 [B, L, R][j]) := Lib.hid fun j hj => by
    have hj : j < 3 := hj
    have : j = 0 ∨ j = 1 ∨ j = 2 := by omega
    rcases this with rfl | rfl | rfl
    · exact (UA.x _ (List.mem_cons_of_mem _ (List.mem_cons_of_mem _ (List.mem_cons_self ..)))).2
    · exact (UA.x _ (List.mem_cons_of_mem _ (List.mem_cons_self ..))).2
    · exact (UA.x _ (List.mem_cons_self ..)).2
  have HR3 := Lib.hid RW
  have HUA := Lib.hid UA
  have y0 := (U3.x _ (List.mem_cons_of_mem _ (List.mem_cons_of_mem _ (List.mem_cons_self ..)))).1
  have y1 := (U3.x _ (List.mem_cons_of_mem _ (List.mem_cons_self ..))).1
  have y2 := (U3.x _ (List.mem_cons_self ..)).1
  have c0 := y0.c0
  have c1 := y0.c1
  have c2 := y1.c0
  have c3 := y1.c1
  have c4 := y2.c0
  have c5 := y2.c1
  clear RW UA y0 y1 y2 U3
  have GR : Hid (∀ c, [B, L, R].any big = c → Calls Try.prog 10 #[.slice (some ⟨wb.heap.size, 0, none⟩) 3 3] (wb.alloc (.cells #[a0, r0, a1, r1, a2, r2] 24)) fun e w' => e = .returned (.bool c) ∧ Below (wb.alloc (.cells #[a0, r0, a1, r1, a2, r2] 24)).heap.size (wb.alloc (.cells #[a0, r0, a1, r1, a2, r2] 24)) w') := Lib.hid fun c hc =>
    great_any [B, L, R] (at3 (a0, r0) (a1, r1) (a2, r2)) 3 rfl (by omega) wb.heap.size 3 _ HR3.out.lt (fun j hj => ⟨HR3.out.c0 j hj, HR3.out.c1 j hj⟩) HS.out c hc
  go_enter Try.func4, Try.ntmps4
  go_upto_region 1 with fail
  rw [HW.out]
  go_wp2_with fail
  ((with_reducible refine (GR.out true HB.out).mono ?_); rintro e w1 ⟨rfl, hd⟩)
  have hU := HUA.out.on hd
  go_wp2_with ((with_reducible refine (awake_any _).mono ?_); rintro e wz ⟨rfl, hd⟩)
  have hU := hU.on hd
  go_ret
  exact ⟨rfl, hU.b⟩

set_option maxRecDepth 100000 in
set_option maxHeartbeats 4000000 in
theorem lawm_err (B L R : Sm) (a0 r0 a1 r1 a2 r2 : Value) (w : World) (h0 : IsSum w a0 r0 B) (h1 : IsSum w a1 r1 L) (h2 : IsSum w a2 r2 R) (hb : [B, L, R].any big = false) (q : Int) (hq : fstErr [B, L, R] = q) (hq0 : q ≠ 0) :
    Calls Try.prog 4 #[sv a0 r0, sv a1 r1, sv a2 r2] w fun e w' => e = .returned (.bool true) ∧ Below w.heap.size w w' := by
  have HB := Lib.hid hb
  have nb := any3_false hb
  have l0 := (not_big nb.1).2.1
  have l1 := (not_big nb.2.1).2.1
  have l2 := (not_big nb.2.2).2.1
  have HQ := Lib.hid hq
  have HQ0 := Lib.hid hq0
  clear hb nb hq hq0
  have b0 := (Below.refl w.heap.size w).alloc (Nat.le_refl _) (.cells #[a0, r0] 24)
  have U1 := Un.new (bx := []) (w := w) ⟨Below.refl _ _, by simp⟩ h0
  have U2 := U1.new (h1.below b0 (Nat.le_refl _))
  have b1 := b0.alloc (by simp) (.cells #[a1, r1] 24)
  have U3 := U2.new (h2.below b1 (Nat.le_refl _))
  simp only [World.size_alloc] at U3
  obtain ⟨wb, hwb⟩ : ∃ wb, ((w.alloc (.cells #[a0, r0] 24)).alloc (.cells #[a1, r1] 24)).alloc (.cells #[a2, r2] 24) = wb := ⟨_, rfl⟩
  rw [hwb] at U3
  have HW := Lib.hid hwb
  clear U1 U2 b0 b1 hwb
  have RW := row3_new wb a0 r0 a1 r1 a2 r2 B L R
  have UA := U3.alloc (.cells #[a0, r0, a1, r1, a2, r2] 24)
  have HS : Hid (∀ j (h : j < [B, L, R].length), IsSum (wb.alloc (.cells #[a0, r0, a1, r1, a2, r2] 24)) (at3 (a0, r0) (a1, r1) (a2, r2) j).1 (at3 (a0, r0) (a1, r1) (a2, r2) j).2 [B, L, R][j]) := Lib.hid fun j hj => by
    have hj : j < 3 := hj
    have : j = 0 ∨ j = 1 ∨ j = 2 := by omega
    rcases this with rfl | rfl | rfl
    · exact (UA.x _ (List.mem_cons_of_mem _ (List.mem_cons_of_mem _ (List.mem_cons_self ..)))).2
    · exact (UA.x _ (List.mem_cons_of_mem _ (List.mem_cons_self ..))).2
    · exact (UA.x _ (List.mem_cons_self ..)).2
  have HR3 := Lib.hid RW
  have HUA := Lib.hid UA
  have y0 := (U3.x _ (List.mem_cons_of_mem _ (List.mem_cons_of_mem _ (List.mem_cons_self ..)))).1
  have y1 := (U3.x _ (List.mem_cons_of_mem _ (List.mem_cons_self ..))).1
  have y2 := (U3.x _ (List.mem_cons_self ..)).1
  have c0 := y0.c0
  have c1 := y0.c1
  have c2 := y1.c0
  have c3 := y1.c1
  have c4 := y2.c0
  have c5 := y2.c1
  clear RW UA y0 y1 y2 U3
  have GR : Hid (∀ c, [B, L, R].any big = c → Calls Try.prog 10 #[.slice (some ⟨wb.heap.size, 0, none⟩) 3 3] (wb.alloc (.cells #[a0, r0, a1, r1, a2, r2] 24)) fun e w' => e = .returned (.bool c) ∧ Below (wb.alloc (.cells #[a0, r0, a1, r1, a2, r2] 24)).heap.size (wb.alloc (.cells #[a0, r0, a1, r1, a2, r2] 24)) w') := Lib.hid fun c hc =>
    great_any [B, L, R] (at3 (a0, r0) (a1, r1) (a2, r2)) 3 rfl (by omega) wb.heap.size 3 _ HR3.out.lt (fun j hj => ⟨HR3.out.c0 j hj, HR3.out.c1 j hj⟩) HS.out c hc
  go_enter Try.func4, Try.ntmps4
  go_upto_region 1 with fail
  rw [HW.out]
  go_wp2_with fail
  ((with_reducible refine (GR.out false HB.out).mono ?_); rintro e w1 ⟨rfl, hd⟩)
  have hU := HUA.out.on hd
  clear c0 c1 c2 c3 c4 c5 hd HUA GR HS HR3
  go_upto_region 3 with fail
  have x0 := hU.x _ (List.mem_cons_of_mem _ (List.mem_cons_of_mem _ (List.mem_cons_self ..)))
  have c0 := x0.1.c0
  have c1 := x0.1.c1
  have x1 := hU.x _ (List.mem_cons_of_mem _ (List.mem_cons_self ..))
  have c2 := x1.1.c0
  have c3 := x1.1.c1
  have x2 := hU.x _ (List.mem_cons_self ..)
  have c4 := x2.1.c0
  have c5 := x2.1.c1
  go_wp2_with fail
  ((with_reducible refine (merge_err B L R _ _ _ _ _ _ _ x0.2 x1.2 x2.2 (by omega) q HQ.out HQ0.out).mono ?_); rintro e wa ⟨rfl, hd⟩)
  have hU := (hU.on hd).new (S := ⟨[], []⟩) ⟨isStrs_nil _, isStrs_nil _⟩
  clear c0 c1 c2 c3 c4 c5 x0 x1 x2 hd
  go_upto_region 4 with fail
  have x0 := hU.x _ (List.mem_cons_of_mem _ (List.mem_cons_of_mem _ (List.mem_cons_of_mem _ (List.mem_cons_self ..))))
  have c0 := x0.1.c0
  have c1 := x0.1.c1
  have x1 := hU.x _ (List.mem_cons_of_mem _ (List.mem_cons_of_mem _ (List.mem_cons_self ..)))
  have c2 := x1.1.c0
  have c3 := x1.1.c1
  have x2 := hU.x _ (List.mem_cons_of_mem _ (List.mem_cons_self ..))
  have c4 := x2.1.c0
  have c5 := x2.1.c1
  go_wp2_with fail
  ((with_reducible refine (refMerge_err B L R _ _ _ _ _ _ _ x0.2 x1.2 x2.2 (by omega) q HQ.out HQ0.out).mono ?_); rintro e wc ⟨rfl, hd⟩)
  have hU := (hU.on hd).new (S := ⟨[], []⟩) ⟨isStrs_nil _, isStrs_nil _⟩
  clear c0 c1 c2 c3 c4 c5 x0 x1 x2 hd
  go_upto_region 5 with fail
  have x0 := hU.x _ (List.mem_cons_self ..)
  have x1 := hU.x _ (List.mem_cons_of_mem _ (List.mem_cons_self ..))
  have c0 := x0.1.c0
  have c1 := x0.1.c1
  have c2 := x1.1.c0
  have c3 := x1.1.c1
  go_wp2_with fail
  ((with_reducible refine (same_any ⟨[], []⟩ ⟨[], []⟩ _ _ _ _ _ x1.2 x0.2 true (by decide)).mono ?_); rintro e wg ⟨rfl, hd⟩)
  have hU := hU.on hd
  clear c0 c1 c2 c3 x0 x1 hd
  go_wp2_with ((with_reducible refine (awake_any _).mono ?_); rintro e wz ⟨rfl, hd⟩)
  have hU := hU.on hd
  go_ret
  exact ⟨rfl, hU.b⟩

set_option maxRecDepth 100000 in
set_option maxHeartbeats 4000000 in
theorem lawm_ok (B L R : Sm) (a0 r0 a1 r1 a2 r2 : Value) (w : World) (h0 : IsSum w a0 r0 B) (h1 : IsSum w a1 r1 L) (h2 : IsSum w a2 r2 R) (hb : [B, L, R].any big = false) (hB0 : Ok B) (hL0 : Ok L) (hR0 : Ok R) :
    Calls Try.prog 4 #[sv a0 r0, sv a1 r1, sv a2 r2] w fun e w' => e = .returned (.bool true) ∧ Below w.heap.size w w' := by
  have HB := Lib.hid hb
  have nb := any3_false hb
  have l0 := (not_big nb.1).2.1
  have l1 := (not_big nb.2.1).2.1
  have l2 := (not_big nb.2.2).2.1
  have l3 := (not_big nb.1).1
  have l4 := (not_big nb.2.1).1
  have l5 := (not_big nb.2.2).1
  have OB := Lib.hid hB0
  have OL := Lib.hid hL0
  have OR := Lib.hid hR0
  clear hb nb hB0 hL0 hR0
  have b0 := (Below.refl w.heap.size w).alloc (Nat.le_refl _) (.cells #[a0, r0] 24)
  have U1 := Un.new (bx := []) (w := w) ⟨Below.refl _ _, by simp⟩ h0
  have U2 := U1.new (h1.below b0 (Nat.le_refl _))
  have b1 := b0.alloc (by simp) (.cells #[a1, r1] 24)
  have U3 := U2.new (h2.below b1 (Nat.le_refl _))
  simp only [World.size_alloc] at U3
  obtain ⟨wb, hwb⟩ : ∃ wb, ((w.alloc (.cells #[a0, r0] 24)).alloc (.cells #[a1, r1] 24)).alloc (.cells #[a2, r2] 24) = wb := ⟨_, rfl⟩
  rw [hwb] at U3
  have HW := Lib.hid hwb
  clear U1 U2 b0 b1 hwb
  have RW := row3_new wb a0 r0 a1 r1 a2 r2 B L R
  have UA := U3.alloc (.cells #[a0, r0, a1, r1, a2, r2] 24)
  have HS : Hid (∀ j (h : j < [B, L, R].length), IsSum (wb.alloc (.cells #[a0, r0, a1, r1, a2, r2] 24)) (at3 (a0, r0) (a1, r1) (a2, r2) j).1 (at3 (a0, r0) (a1, r1) (a2, r2) j).2 [B, L, R][j]) := Lib.hid fun j hj => by
    have hj : j < 3 := hj
    have : j = 0 ∨ j = 1 ∨ j = 2 := by omega
    rcases this with rfl | rfl | rfl
    · exact (UA.x _ (List.mem_cons_of_mem _ (List.mem_cons_of_mem _ (List.mem_cons_self ..)))).2
    · exact (UA.x _ (List.mem_cons_of_mem _ (List.mem_cons_self ..))).2
    · exact (UA.x _ (List.mem_cons_self ..)).2
  have HR3 := Lib.hid RW
  have HUA := Lib.hid UA
  have y0 := (U3.x _ (List.mem_cons_of_mem _ (List.mem_cons_of_mem _ (List.mem_cons_self ..)))).1
  have y1 := (U3.x _ (List.mem_cons_of_mem _ (List.mem_cons_self ..))).1
  have y2 := (U3.x _ (List.mem_cons_self ..)).1
  have c0 := y0.c0
  have c1 := y0.c1
  have c2 := y1.c0
  have c3 := y1.c1
  have c4 := y2.c0
  have c5 := y2.c1
  clear RW UA y0 y1 y2 U3
  have GR : Hid (∀ c, [B, L, R].any big = c → Calls Try.prog 10 #[.slice (some ⟨wb.heap.size, 0, none⟩) 3 3] (wb.alloc (.cells #[a0, r0, a1, r1, a2, r2] 24)) fun e w' => e = .returned (.bool c) ∧ Below (wb.alloc (.cells #[a0, r0, a1, r1, a2, r2] 24)).heap.size (wb.alloc (.cells #[a0, r0, a1, r1, a2, r2] 24)) w') := Lib.hid fun c hc =>
    great_any [B, L, R] (at3 (a0, r0) (a1, r1) (a2, r2)) 3 rfl (by omega) wb.heap.size 3 _ HR3.out.lt (fun j hj => ⟨HR3.out.c0 j hj, HR3.out.c1 j hj⟩) HS.out c hc
  go_enter Try.func4, Try.ntmps4
  go_upto_region 1 with fail
  rw [HW.out]
  go_wp2_with fail
  ((with_reducible refine (GR.out false HB.out).mono ?_); rintro e w1 ⟨rfl, hd⟩)
  have hU := HUA.out.on hd
  clear c0 c1 c2 c3 c4 c5 hd HUA GR HS HR3
  go_upto_region 3 with fail
  have x0 := hU.x _ (List.mem_cons_of_mem _ (List.mem_cons_of_mem _ (List.mem_cons_self ..)))
  have c0 := x0.1.c0
  have c1 := x0.1.c1
  have x1 := hU.x _ (List.mem_cons_of_mem _ (List.mem_cons_self ..))
  have c2 := x1.1.c0
  have c3 := x1.1.c1
  have x2 := hU.x _ (List.mem_cons_self ..)
  have c4 := x2.1.c0
  have c5 := x2.1.c1
  go_wp2_with fail
  ((with_reducible refine (merge_ok B L R _ _ _ _ _ _ _ x0.2 x1.2 x2.2 (by omega) OB.out OL.out OR.out).mono ?_); rintro e wa ⟨va, vr, M1, rfl, hM, hMg, hd⟩)
  have G1 := Lib.hid hMg
  obtain ⟨u1, u2, u3, u4, rfl, rfl, -, -⟩ := hM.parts
  have hU := (hU.on hd).new hM
  clear c0 c1 c2 c3 c4 c5 x0 x1 x2 hd hM hMg
  go_upto_region 4 with fail
  have x0 := hU.x _ (List.mem_cons_of_mem _ (List.mem_cons_of_mem _ (List.mem_cons_of_mem _ (List.mem_cons_self ..))))
  have c0 := x0.1.c0
  have c1 := x0.1.c1
  have x1 := hU.x _ (List.mem_cons_of_mem _ (List.mem_cons_of_mem _ (List.mem_cons_self ..)))
  have c2 := x1.1.c0
  have c3 := x1.1.c1
  have x2 := hU.x _ (List.mem_cons_of_mem _ (List.mem_cons_self ..))
  have c4 := x2.1.c0
  have c5 := x2.1.c1
  go_wp2_with fail
  ((with_reducible refine (refMerge_ok B L R _ _ _ _ _ _ _ x0.2 x1.2 x2.2 (by omega) (by omega) OB.out OL.out OR.out).mono ?_); rintro e wc ⟨va, vr, M2, rfl, hM, hMg, hd⟩)
  have E1 := Lib.hid (eqS_iff.2 (merge_uniq G1.out hMg))
  obtain ⟨u5, u6, u7, u8, rfl, rfl, -, -⟩ := hM.parts
  have hU := (hU.on hd).new hM
  clear c0 c1 c2 c3 c4 c5 x0 x1 x2 hd hM hMg
  go_upto_region 5 with fail
  have x0 := hU.x _ (List.mem_cons_self ..)
  have x1 := hU.x _ (List.mem_cons_of_mem _ (List.mem_cons_self ..))
  have c0 := x0.1.c0
  have c1 := x0.1.c1
  have c2 := x1.1.c0
  have c3 := x1.1.c1
  go_wp2_with fail
  ((with_reducible refine (same_any M1 M2 _ _ _ _ _ x1.2 x0.2 true E1.out).mono ?_); rintro e wg ⟨rfl, hd⟩)
  have hU := hU.on hd
  clear c0 c1 c2 c3 x0 x1 hd
  go_wp2_with ((with_reducible refine (awake_any _).mono ?_); rintro e wz ⟨rfl, hd⟩)
  have hU := hU.on hd
  go_ret
  exact ⟨rfl, hU.b⟩

theorem lawm_any (B L R : Sm) (a0 r0 a1 r1 a2 r2 : Value) (w : World) (h0 : IsSum w a0 r0 B) (h1 : IsSum w a1 r1 L) (h2 : IsSum w a2 r2 R) :
    Calls Try.prog 4 #[sv a0 r0, sv a1 r1, sv a2 r2] w fun e w' => e = .returned (.bool true) ∧ Below w.heap.size w w' := by
  cases hb : [B, L, R].any big with
  | true => exact lawm_big B L R a0 r0 a1 r1 a2 r2 w h0 h1 h2 hb
  | false =>
    by_cases k : fstErr [B, L, R] = 0
    · obtain ⟨k0, k1, k2⟩ := fst_ok k
      exact lawm_ok B L R a0 r0 a1 r1 a2 r2 w h0 h1 h2 hb k0 k1 k2
    · exact lawm_err B L R a0 r0 a1 r1 a2 r2 w h0 h1 h2 hb _ rfl k
end Go.Proofs.Ytgnkfikihjjpeaa
