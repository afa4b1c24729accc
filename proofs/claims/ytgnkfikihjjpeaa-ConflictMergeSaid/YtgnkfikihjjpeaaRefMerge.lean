/- The reference's Merge, at this translation. -/
import Derived.Test.YtgnkfikihjjpeaaRefSum
import Derived.Test.YtgnkfikihjjpeaaUn
import Derived.Deep.DeepCutAuto
namespace Go.Proofs.Ytgnkfikihjjpeaa
open Go.RowKit Go.Great Go.Maps

/-- The six cells of three boxes. -/
theorem sixU {w W : World} {b0 b1 b2 b3 : Nat} {x0 y0 x1 y1 x2 y2 x3 y3 : Value} {S0 S1 S2 S3 : Sm} (h : Un [(b3, x3, y3, S3), (b2, x2, y2, S2), (b1, x1, y1, S1), (b0, x0, y0, S0)] w W) :
    W.cell? ⟨b1, 0, none⟩ = some x1 ∧ W.cell? ⟨b1, 1, none⟩ = some y1 ∧ W.cell? ⟨b2, 0, none⟩ = some x2 ∧ W.cell? ⟨b2, 1, none⟩ = some y2 ∧ W.cell? ⟨b0, 0, none⟩ = some x0 ∧ W.cell? ⟨b0, 1, none⟩ = some y0 := by
  have i0 := h.x _ (List.mem_cons_of_mem _ (List.mem_cons_of_mem _ (List.mem_cons_of_mem _ (List.mem_cons_self ..))))
  have i1 := h.x _ (List.mem_cons_of_mem _ (List.mem_cons_of_mem _ (List.mem_cons_self ..)))
  have i2 := h.x _ (List.mem_cons_of_mem _ (List.mem_cons_self ..))
  exact ⟨i1.1.c0, i1.1.c1, i2.1.c0, i2.1.c1, i0.1.c0, i0.1.c1⟩
theorem Un.s1 {w W : World} {t3 t2 t1 t0 : Nat × Value × Value × Sm} (h : Un [t3, t2, t1, t0] w W) : IsSum W t1.2.1 t1.2.2.1 t1.2.2.2 := (h.x _ (List.mem_cons_of_mem _ (List.mem_cons_of_mem _ (List.mem_cons_self ..)))).2
theorem Un.s2 {w W : World} {t3 t2 t1 t0 : Nat × Value × Value × Sm} (h : Un [t3, t2, t1, t0] w W) : IsSum W t2.2.1 t2.2.2.1 t2.2.2.2 := (h.x _ (List.mem_cons_of_mem _ (List.mem_cons_self ..))).2
theorem Un.s0 {w W : World} {t3 t2 t1 t0 : Nat × Value × Value × Sm} (h : Un [t3, t2, t1, t0] w W) : IsSum W t0.2.1 t0.2.2.1 t0.2.2.2 := (h.x _ (List.mem_cons_of_mem _ (List.mem_cons_of_mem _ (List.mem_cons_of_mem _ (List.mem_cons_self ..))))).2
theorem mrg_of {B L R T1 T : Sm} (h1 : ∀ x, cnt T1 x = cnt L x + (R.A.count x : Int) - (R.R.count x : Int)) (hn : Norm T) (h2 : ∀ x, cnt T x = cnt T1 x + (B.R.count x : Int) - (B.A.count x : Int)) : Mrg B L R T := by
  refine ⟨hn, fun x => ?_⟩
  rw [h2, h1]
  unfold cnt
  omega

set_option maxRecDepth 100000 in
set_option maxHeartbeats 8000000 in
theorem refMerge_err0 (B L R : Sm) (a0 r0 a1 r1 a2 r2 : Value) (w : World) (h0 : IsSum w a0 r0 B) (h1 : IsSum w a1 r1 L) (h2 : IsSum w a2 r2 R) (hl : B.R.length ≤ 1000000 ∧ L.R.length ≤ 1000000 ∧ R.R.length ≤ 1000000) (q : Int) (hq : chk B = q) (hq0 : q ≠ 0) :
    Calls Try.prog 24 #[sv a0 r0, sv a1 r1, sv a2 r2] w fun e w' => e = .returned (.tuple #[sv (.slice none 0 0) (.slice none 0 0), .int .i64 q]) ∧ Below w.heap.size w w' := by
  have HQ := Lib.hid hq
  have q1 : (q == 0) = false := by simpa using hq0
  have q2 : (q != 0) = true := by simpa using hq0
  clear hq hq0 
  obtain ⟨pa0, ca0, pr0, cr0, rfl, rfl, -, -⟩ := h0.parts
  obtain ⟨pa1, ca1, pr1, cr1, rfl, rfl, -, -⟩ := h1.parts
  obtain ⟨pa2, ca2, pr2, cr2, rfl, rfl, -, -⟩ := h2.parts
  have b0 := (Below.refl w.heap.size w).alloc (Nat.le_refl _) (.cells #[.slice pa0 B.A.length ca0, .slice pr0 B.R.length cr0] 24)
  have U1 := Un.new (bx := []) (w := w) ⟨Below.refl _ _, by simp⟩ h0
  have U2 := U1.new (h1.below b0 (Nat.le_refl _))
  have b1 := b0.alloc (by simp) (.cells #[.slice pa1 L.A.length ca1, .slice pr1 L.R.length cr1] 24)
  have U3 := U2.new (h2.below b1 (Nat.le_refl _))
  have U4 := U3.new (S := ⟨[], []⟩) ⟨isStrs_nil _, isStrs_nil _⟩
  simp only [World.size_alloc] at U4
  obtain ⟨wb, hwb⟩ : ∃ wb, (((w.alloc (.cells #[.slice pa0 B.A.length ca0, .slice pr0 B.R.length cr0] 24)).alloc (.cells #[.slice pa1 L.A.length ca1, .slice pr1 L.R.length cr1] 24)).alloc (.cells #[.slice pa2 R.A.length ca2, .slice pr2 R.R.length cr2] 24)).alloc (.cells #[.slice none 0 0, .slice none 0 0] 24) = wb := ⟨_, rfl⟩
  rw [hwb] at U4
  have HW := Lib.hid hwb
  have hU := U4
  have l0 := hl.1
  have l1 := hl.2.1
  have l2 := hl.2.2
  clear U1 U2 U3 U4 b0 b1 hwb h0 h1 h2 hl
  go_enter Try.func24, Try.ntmps24
  go_upto_region 1 with fail
  rw [HW.out]
  have hx := hU.x _ (List.mem_cons_of_mem _ (List.mem_cons_of_mem _ (List.mem_cons_of_mem _ (List.mem_cons_self ..))))
  have c0 := hx.1.c0
  have c1 := hx.1.c1
  go_wp2_with fail
  ((with_reducible refine (refCheck_any B _ _ _ hx.2 (by omega) q HQ.out).mono ?_); rintro e w1 ⟨rfl, hd⟩)
  have hU := hU.on hd
  clear c0 c1 hx hd
  have hx := hU.x _ (List.mem_cons_self ..)
  have k0 := hx.1.c0
  have k1 := hx.1.c1
  have g0 := hx.1.f0 0
  have g1 := hx.1.f0 1
  have BE := (hU.b.setCell (p := ⟨w.heap.size + 1 + 1 + 1, 0, none⟩) (by simp; omega) (.slice none 0 0)).setCell (p := ⟨w.heap.size + 1 + 1 + 1, 1, none⟩) (by simp; omega) (.slice none 0 0)
  clear hx
  go_wp2
  exact bodyPost_ret (v := .tuple #[sv (.slice none 0 0) (.slice none 0 0), .int .i64 q]) (by simp [results, Try.results24, go_sem, k0, k1, World.cell?_setCell_other, World.cell?_setCell_same']) rfl ⟨rfl, BE⟩

set_option maxRecDepth 100000 in
set_option maxHeartbeats 8000000 in
theorem refMerge_err1 (B L R : Sm) (a0 r0 a1 r1 a2 r2 : Value) (w : World) (h0 : IsSum w a0 r0 B) (h1 : IsSum w a1 r1 L) (h2 : IsSum w a2 r2 R) (hl : B.R.length ≤ 1000000 ∧ L.R.length ≤ 1000000 ∧ R.R.length ≤ 1000000) (hk0 : chk B = 0) (q : Int) (hq : chk L = q) (hq0 : q ≠ 0) :
    Calls Try.prog 24 #[sv a0 r0, sv a1 r1, sv a2 r2] w fun e w' => e = .returned (.tuple #[sv (.slice none 0 0) (.slice none 0 0), .int .i64 q]) ∧ Below w.heap.size w w' := by
  have HQ := Lib.hid hq
  have q1 : (q == 0) = false := by simpa using hq0
  have q2 : (q != 0) = true := by simpa using hq0
  have K0 := Lib.hid hk0
  clear hq hq0 hk0
  obtain ⟨pa0, ca0, pr0, cr0, rfl, rfl, -, -⟩ := h0.parts
  obtain ⟨pa1, ca1, pr1, cr1, rfl, rfl, -, -⟩ := h1.parts
  obtain ⟨pa2, ca2, pr2, cr2, rfl, rfl, -, -⟩ := h2.parts
  have b0 := (Below.refl w.heap.size w).alloc (Nat.le_refl _) (.cells #[.slice pa0 B.A.length ca0, .slice pr0 B.R.length cr0] 24)
  have U1 := Un.new (bx := []) (w := w) ⟨Below.refl _ _, by simp⟩ h0
  have U2 := U1.new (h1.below b0 (Nat.le_refl _))
  have b1 := b0.alloc (by simp) (.cells #[.slice pa1 L.A.length ca1, .slice pr1 L.R.length cr1] 24)
  have U3 := U2.new (h2.below b1 (Nat.le_refl _))
  have U4 := U3.new (S := ⟨[], []⟩) ⟨isStrs_nil _, isStrs_nil _⟩
  simp only [World.size_alloc] at U4
  obtain ⟨wb, hwb⟩ : ∃ wb, (((w.alloc (.cells #[.slice pa0 B.A.length ca0, .slice pr0 B.R.length cr0] 24)).alloc (.cells #[.slice pa1 L.A.length ca1, .slice pr1 L.R.length cr1] 24)).alloc (.cells #[.slice pa2 R.A.length ca2, .slice pr2 R.R.length cr2] 24)).alloc (.cells #[.slice none 0 0, .slice none 0 0] 24) = wb := ⟨_, rfl⟩
  rw [hwb] at U4
  have HW := Lib.hid hwb
  have hU := U4
  have l0 := hl.1
  have l1 := hl.2.1
  have l2 := hl.2.2
  clear U1 U2 U3 U4 b0 b1 hwb h0 h1 h2 hl
  go_enter Try.func24, Try.ntmps24
  go_upto_region 1 with fail
  rw [HW.out]
  have hx := hU.x _ (List.mem_cons_of_mem _ (List.mem_cons_of_mem _ (List.mem_cons_of_mem _ (List.mem_cons_self ..))))
  have c0 := hx.1.c0
  have c1 := hx.1.c1
  go_wp2_with fail
  ((with_reducible refine (refCheck_any B _ _ _ hx.2 (by omega) 0 K0.out).mono ?_); rintro e w1 ⟨rfl, hd⟩)
  have hU := hU.on hd
  clear c0 c1 hx hd
  have hx := hU.x _ (List.mem_cons_of_mem _ (List.mem_cons_of_mem _ (List.mem_cons_self ..)))
  have c0 := hx.1.c0
  have c1 := hx.1.c1
  go_wp2_with fail
  ((with_reducible refine (refCheck_any L _ _ _ hx.2 (by omega) q HQ.out).mono ?_); rintro e w2 ⟨rfl, hd⟩)
  have hU := hU.on hd
  clear c0 c1 hx hd
  have hx := hU.x _ (List.mem_cons_self ..)
  have k0 := hx.1.c0
  have k1 := hx.1.c1
  have g0 := hx.1.f0 0
  have g1 := hx.1.f0 1
  have BE := (hU.b.setCell (p := ⟨w.heap.size + 1 + 1 + 1, 0, none⟩) (by simp; omega) (.slice none 0 0)).setCell (p := ⟨w.heap.size + 1 + 1 + 1, 1, none⟩) (by simp; omega) (.slice none 0 0)
  clear hx
  go_wp2
  exact bodyPost_ret (v := .tuple #[sv (.slice none 0 0) (.slice none 0 0), .int .i64 q]) (by simp [results, Try.results24, go_sem, k0, k1, World.cell?_setCell_other, World.cell?_setCell_same']) rfl ⟨rfl, BE⟩

set_option maxRecDepth 100000 in
set_option maxHeartbeats 8000000 in
theorem refMerge_err2 (B L R : Sm) (a0 r0 a1 r1 a2 r2 : Value) (w : World) (h0 : IsSum w a0 r0 B) (h1 : IsSum w a1 r1 L) (h2 : IsSum w a2 r2 R) (hl : B.R.length ≤ 1000000 ∧ L.R.length ≤ 1000000 ∧ R.R.length ≤ 1000000) (hk0 : chk B = 0) (hk1 : chk L = 0) (q : Int) (hq : chk R = q) (hq0 : q ≠ 0) :
    Calls Try.prog 24 #[sv a0 r0, sv a1 r1, sv a2 r2] w fun e w' => e = .returned (.tuple #[sv (.slice none 0 0) (.slice none 0 0), .int .i64 q]) ∧ Below w.heap.size w w' := by
  have HQ := Lib.hid hq
  have q1 : (q == 0) = false := by simpa using hq0
  have q2 : (q != 0) = true := by simpa using hq0
  have K0 := Lib.hid hk0
  have K1 := Lib.hid hk1
  clear hq hq0 hk0 hk1
  obtain ⟨pa0, ca0, pr0, cr0, rfl, rfl, -, -⟩ := h0.parts
  obtain ⟨pa1, ca1, pr1, cr1, rfl, rfl, -, -⟩ := h1.parts
  obtain ⟨pa2, ca2, pr2, cr2, rfl, rfl, -, -⟩ := h2.parts
  have b0 := (Below.refl w.heap.size w).alloc (Nat.le_refl _) (.cells #[.slice pa0 B.A.length ca0, .slice pr0 B.R.length cr0] 24)
  have U1 := Un.new (bx := []) (w := w) ⟨Below.refl _ _, by simp⟩ h0
  have U2 := U1.new (h1.below b0 (Nat.le_refl _))
  have b1 := b0.alloc (by simp) (.cells #[.slice pa1 L.A.length ca1, .slice pr1 L.R.length cr1] 24)
  have U3 := U2.new (h2.below b1 (Nat.le_refl _))
  have U4 := U3.new (S := ⟨[], []⟩) ⟨isStrs_nil _, isStrs_nil _⟩
  simp only [World.size_alloc] at U4
  obtain ⟨wb, hwb⟩ : ∃ wb, (((w.alloc (.cells #[.slice pa0 B.A.length ca0, .slice pr0 B.R.length cr0] 24)).alloc (.cells #[.slice pa1 L.A.length ca1, .slice pr1 L.R.length cr1] 24)).alloc (.cells #[.slice pa2 R.A.length ca2, .slice pr2 R.R.length cr2] 24)).alloc (.cells #[.slice none 0 0, .slice none 0 0] 24) = wb := ⟨_, rfl⟩
  rw [hwb] at U4
  have HW := Lib.hid hwb
  have hU := U4
  have l0 := hl.1
  have l1 := hl.2.1
  have l2 := hl.2.2
  clear U1 U2 U3 U4 b0 b1 hwb h0 h1 h2 hl
  go_enter Try.func24, Try.ntmps24
  go_upto_region 1 with fail
  rw [HW.out]
  have hx := hU.x _ (List.mem_cons_of_mem _ (List.mem_cons_of_mem _ (List.mem_cons_of_mem _ (List.mem_cons_self ..))))
  have c0 := hx.1.c0
  have c1 := hx.1.c1
  go_wp2_with fail
  ((with_reducible refine (refCheck_any B _ _ _ hx.2 (by omega) 0 K0.out).mono ?_); rintro e w1 ⟨rfl, hd⟩)
  have hU := hU.on hd
  clear c0 c1 hx hd
  have hx := hU.x _ (List.mem_cons_of_mem _ (List.mem_cons_of_mem _ (List.mem_cons_self ..)))
  have c0 := hx.1.c0
  have c1 := hx.1.c1
  go_wp2_with fail
  ((with_reducible refine (refCheck_any L _ _ _ hx.2 (by omega) 0 K1.out).mono ?_); rintro e w2 ⟨rfl, hd⟩)
  have hU := hU.on hd
  clear c0 c1 hx hd
  have hx := hU.x _ (List.mem_cons_of_mem _ (List.mem_cons_self ..))
  have c0 := hx.1.c0
  have c1 := hx.1.c1
  go_wp2_with fail
  ((with_reducible refine (refCheck_any R _ _ _ hx.2 (by omega) q HQ.out).mono ?_); rintro e w3 ⟨rfl, hd⟩)
  have hU := hU.on hd
  clear c0 c1 hx hd
  have hx := hU.x _ (List.mem_cons_self ..)
  have k0 := hx.1.c0
  have k1 := hx.1.c1
  have g0 := hx.1.f0 0
  have g1 := hx.1.f0 1
  have BE := (hU.b.setCell (p := ⟨w.heap.size + 1 + 1 + 1, 0, none⟩) (by simp; omega) (.slice none 0 0)).setCell (p := ⟨w.heap.size + 1 + 1 + 1, 1, none⟩) (by simp; omega) (.slice none 0 0)
  clear hx
  go_wp2
  exact bodyPost_ret (v := .tuple #[sv (.slice none 0 0) (.slice none 0 0), .int .i64 q]) (by simp [results, Try.results24, go_sem, k0, k1, World.cell?_setCell_other, World.cell?_setCell_same']) rfl ⟨rfl, BE⟩

theorem refMerge_err (B L R : Sm) (a0 r0 a1 r1 a2 r2 : Value) (w : World) (h0 : IsSum w a0 r0 B) (h1 : IsSum w a1 r1 L) (h2 : IsSum w a2 r2 R) (hl : B.R.length ≤ 1000000 ∧ L.R.length ≤ 1000000 ∧ R.R.length ≤ 1000000) (r : Int) (hr : fstErr [B, L, R] = r) (hr0 : r ≠ 0) :
    Calls Try.prog 24 #[sv a0 r0, sv a1 r1, sv a2 r2] w fun e w' => e = .returned (.tuple #[sv (.slice none 0 0) (.slice none 0 0), .int .i64 r]) ∧ Below w.heap.size w w' := by
  simp only [fstErr] at hr
  by_cases k0 : chk B = 0
  · rw [if_neg (by simpa using k0)] at hr
    by_cases k1 : chk L = 0
    · rw [if_neg (by simpa using k1)] at hr
      by_cases k2 : chk R = 0
      · rw [if_neg (by simpa using k2)] at hr
        exact absurd hr.symm hr0
      · rw [if_pos k2] at hr
        exact refMerge_err2 B L R a0 r0 a1 r1 a2 r2 w h0 h1 h2 hl k0 k1 r hr hr0
    · rw [if_pos k1] at hr
      exact refMerge_err1 B L R a0 r0 a1 r1 a2 r2 w h0 h1 h2 hl k0 r hr hr0
  · rw [if_pos k0] at hr
    exact refMerge_err0 B L R a0 r0 a1 r1 a2 r2 w h0 h1 h2 hl r hr hr0

set_option maxRecDepth 100000 in
set_option maxHeartbeats 8000000 in
theorem refMerge_same (B L R : Sm) (a0 r0 a1 r1 a2 r2 : Value) (w : World) (h0 : IsSum w a0 r0 B) (h1 : IsSum w a1 r1 L) (h2 : IsSum w a2 r2 R) (hl : B.R.length ≤ 1000000 ∧ L.R.length ≤ 1000000 ∧ R.R.length ≤ 1000000) (hk0 : chk B = 0) (hk1 : chk L = 0) (hk2 : chk R = 0) (he : eqS L R = true) :
    Calls Try.prog 24 #[sv a0 r0, sv a1 r1, sv a2 r2] w fun e w' => ∃ va vr, e = .returned (.tuple #[sv va vr, .int .i64 0]) ∧ IsSum w' va vr L ∧ Below w.heap.size w w' := by
  have K0 := Lib.hid hk0
  have K1 := Lib.hid hk1
  have K2 := Lib.hid hk2
  have HE := Lib.hid he
  have HI1 := Lib.hid h1
  clear hk0 hk1 hk2 he
  obtain ⟨pa0, ca0, pr0, cr0, rfl, rfl, -, -⟩ := h0.parts
  obtain ⟨pa1, ca1, pr1, cr1, rfl, rfl, -, -⟩ := h1.parts
  obtain ⟨pa2, ca2, pr2, cr2, rfl, rfl, -, -⟩ := h2.parts
  have b0 := (Below.refl w.heap.size w).alloc (Nat.le_refl _) (.cells #[.slice pa0 B.A.length ca0, .slice pr0 B.R.length cr0] 24)
  have U1 := Un.new (bx := []) (w := w) ⟨Below.refl _ _, by simp⟩ h0
  have U2 := U1.new (h1.below b0 (Nat.le_refl _))
  have b1 := b0.alloc (by simp) (.cells #[.slice pa1 L.A.length ca1, .slice pr1 L.R.length cr1] 24)
  have U3 := U2.new (h2.below b1 (Nat.le_refl _))
  have U4 := U3.new (S := ⟨[], []⟩) ⟨isStrs_nil _, isStrs_nil _⟩
  simp only [World.size_alloc] at U4
  obtain ⟨wb, hwb⟩ : ∃ wb, (((w.alloc (.cells #[.slice pa0 B.A.length ca0, .slice pr0 B.R.length cr0] 24)).alloc (.cells #[.slice pa1 L.A.length ca1, .slice pr1 L.R.length cr1] 24)).alloc (.cells #[.slice pa2 R.A.length ca2, .slice pr2 R.R.length cr2] 24)).alloc (.cells #[.slice none 0 0, .slice none 0 0] 24) = wb := ⟨_, rfl⟩
  rw [hwb] at U4
  have HW := Lib.hid hwb
  have hU := U4
  have l0 := hl.1
  have l1 := hl.2.1
  have l2 := hl.2.2
  clear U1 U2 U3 U4 b0 b1 hwb h0 h1 h2 hl
  go_enter Try.func24, Try.ntmps24
  go_upto_region 1 with fail
  rw [HW.out]
  have hx := hU.x _ (List.mem_cons_of_mem _ (List.mem_cons_of_mem _ (List.mem_cons_of_mem _ (List.mem_cons_self ..))))
  have c0 := hx.1.c0
  have c1 := hx.1.c1
  go_wp2_with fail
  ((with_reducible refine (refCheck_any B _ _ _ hx.2 (by omega) 0 K0.out).mono ?_); rintro e w1 ⟨rfl, hd⟩)
  have hU := hU.on hd
  clear c0 c1 hx hd
  have hx := hU.x _ (List.mem_cons_of_mem _ (List.mem_cons_of_mem _ (List.mem_cons_self ..)))
  have c0 := hx.1.c0
  have c1 := hx.1.c1
  go_wp2_with fail
  ((with_reducible refine (refCheck_any L _ _ _ hx.2 (by omega) 0 K1.out).mono ?_); rintro e w2 ⟨rfl, hd⟩)
  have hU := hU.on hd
  clear c0 c1 hx hd
  have hx := hU.x _ (List.mem_cons_of_mem _ (List.mem_cons_self ..))
  have c0 := hx.1.c0
  have c1 := hx.1.c1
  go_wp2_with fail
  ((with_reducible refine (refCheck_any R _ _ _ hx.2 (by omega) 0 K2.out).mono ?_); rintro e w3 ⟨rfl, hd⟩)
  have hU := hU.on hd
  clear c0 c1 hx hd
  have hx := hU.x _ (List.mem_cons_of_mem _ (List.mem_cons_of_mem _ (List.mem_cons_self ..)))
  have hy := hU.x _ (List.mem_cons_of_mem _ (List.mem_cons_self ..))
  have c0 := hx.1.c0
  have c1 := hx.1.c1
  have c2 := hy.1.c0
  have c3 := hy.1.c1
  go_wp2_with fail
  ((with_reducible refine (same_any L R _ _ _ _ _ hx.2 hy.2 true HE.out).mono ?_); rintro e w4 ⟨rfl, hd⟩)
  have hU := hU.on hd
  clear c0 c1 c2 c3 hx hy hd
  have hy := hU.x _ (List.mem_cons_of_mem _ (List.mem_cons_of_mem _ (List.mem_cons_self ..)))
  have c0 := hy.1.c0
  have c1 := hy.1.c1
  clear hy
  have hx := hU.x _ (List.mem_cons_self ..)
  have k0 := hx.1.c0
  have k1 := hx.1.c1
  have g0 := hx.1.f0 0
  have g1 := hx.1.f0 1
  have BE := (hU.b.setCell (p := ⟨w.heap.size + 1 + 1 + 1, 0, none⟩) (by simp; omega) (.slice pa1 L.A.length ca1)).setCell (p := ⟨w.heap.size + 1 + 1 + 1, 1, none⟩) (by simp; omega) (.slice pr1 L.R.length cr1)
  have HF := Lib.hid (HI1.out.below BE (Nat.le_refl _))
  clear hx
  go_wp2
  exact bodyPost_ret (v := .tuple #[sv (.slice pa1 L.A.length ca1) (.slice pr1 L.R.length cr1), .int .i64 0]) (by simp [results, Try.results24, go_sem, k0, k1, World.cell?_setCell_other, World.cell?_setCell_same']) rfl ⟨_, _, rfl, HF.out, BE⟩

set_option maxRecDepth 100000 in
set_option maxHeartbeats 8000000 in
theorem refMerge_diff (B L R : Sm) (a0 r0 a1 r1 a2 r2 : Value) (w : World) (h0 : IsSum w a0 r0 B) (h1 : IsSum w a1 r1 L) (h2 : IsSum w a2 r2 R) (hl : B.R.length ≤ 1000000 ∧ L.R.length ≤ 1000000 ∧ R.R.length ≤ 1000000) (hk0 : Ok B) (hk1 : Ok L) (hk2 : Ok R) (he : eqS L R = false) (hb : B.A.length ≤ 100 ∧ L.A.length ≤ 100 ∧ R.A.length ≤ 100 ∧ B.R.length ≤ 100 ∧ L.R.length ≤ 100 ∧ R.R.length ≤ 100) :
    Calls Try.prog 24 #[sv a0 r0, sv a1 r1, sv a2 r2] w fun e w' => ∃ va vr T, e = .returned (.tuple #[sv va vr, .int .i64 0]) ∧ IsSum w' va vr T ∧ Mrg B L R T ∧ Below w.heap.size w w' := by
  obtain ⟨m0, m1, m2, m3, m4, m5⟩ := hb
  have K0 := Lib.hid ((chk_ok B).2 hk0)
  have K1 := Lib.hid ((chk_ok L).2 hk1)
  have K2 := Lib.hid ((chk_ok R).2 hk2)
  have O0 := Lib.hid hk0
  have O1 := Lib.hid hk1
  have O2 := Lib.hid hk2
  have HE := Lib.hid he
  clear hk0 hk1 hk2 he
  obtain ⟨pa0, ca0, pr0, cr0, rfl, rfl, -, -⟩ := h0.parts
  obtain ⟨pa1, ca1, pr1, cr1, rfl, rfl, -, -⟩ := h1.parts
  obtain ⟨pa2, ca2, pr2, cr2, rfl, rfl, -, -⟩ := h2.parts
  have b0 := (Below.refl w.heap.size w).alloc (Nat.le_refl _) (.cells #[.slice pa0 B.A.length ca0, .slice pr0 B.R.length cr0] 24)
  have U1 := Un.new (bx := []) (w := w) ⟨Below.refl _ _, by simp⟩ h0
  have U2 := U1.new (h1.below b0 (Nat.le_refl _))
  have b1 := b0.alloc (by simp) (.cells #[.slice pa1 L.A.length ca1, .slice pr1 L.R.length cr1] 24)
  have U3 := U2.new (h2.below b1 (Nat.le_refl _))
  have U4 := U3.new (S := ⟨[], []⟩) ⟨isStrs_nil _, isStrs_nil _⟩
  simp only [World.size_alloc] at U4
  obtain ⟨wb, hwb⟩ : ∃ wb, (((w.alloc (.cells #[.slice pa0 B.A.length ca0, .slice pr0 B.R.length cr0] 24)).alloc (.cells #[.slice pa1 L.A.length ca1, .slice pr1 L.R.length cr1] 24)).alloc (.cells #[.slice pa2 R.A.length ca2, .slice pr2 R.R.length cr2] 24)).alloc (.cells #[.slice none 0 0, .slice none 0 0] 24) = wb := ⟨_, rfl⟩
  rw [hwb] at U4
  have HW := Lib.hid hwb
  have hU := U4
  have l0 := hl.1
  have l1 := hl.2.1
  have l2 := hl.2.2
  clear U1 U2 U3 U4 b0 b1 hwb h0 h1 h2 hl
  go_enter Try.func24, Try.ntmps24
  go_upto_region 1 with fail
  rw [HW.out]
  have hx := hU.x _ (List.mem_cons_of_mem _ (List.mem_cons_of_mem _ (List.mem_cons_of_mem _ (List.mem_cons_self ..))))
  have c0 := hx.1.c0
  have c1 := hx.1.c1
  go_wp2_with fail
  ((with_reducible refine (refCheck_any B _ _ _ hx.2 (by omega) 0 K0.out).mono ?_); rintro e w1 ⟨rfl, hd⟩)
  have hU := hU.on hd
  clear c0 c1 hx hd
  have hx := hU.x _ (List.mem_cons_of_mem _ (List.mem_cons_of_mem _ (List.mem_cons_self ..)))
  have c0 := hx.1.c0
  have c1 := hx.1.c1
  go_wp2_with fail
  ((with_reducible refine (refCheck_any L _ _ _ hx.2 (by omega) 0 K1.out).mono ?_); rintro e w2 ⟨rfl, hd⟩)
  have hU := hU.on hd
  clear c0 c1 hx hd
  have hx := hU.x _ (List.mem_cons_of_mem _ (List.mem_cons_self ..))
  have c0 := hx.1.c0
  have c1 := hx.1.c1
  go_wp2_with fail
  ((with_reducible refine (refCheck_any R _ _ _ hx.2 (by omega) 0 K2.out).mono ?_); rintro e w3 ⟨rfl, hd⟩)
  have hU := hU.on hd
  clear c0 c1 hx hd
  have hx := hU.x _ (List.mem_cons_of_mem _ (List.mem_cons_of_mem _ (List.mem_cons_self ..)))
  have hy := hU.x _ (List.mem_cons_of_mem _ (List.mem_cons_self ..))
  have c0 := hx.1.c0
  have c1 := hx.1.c1
  have c2 := hy.1.c0
  have c3 := hy.1.c1
  go_wp2_with fail
  ((with_reducible refine (same_any L R _ _ _ _ _ hx.2 hy.2 false HE.out).mono ?_); rintro e w4 ⟨rfl, hd⟩)
  have hU := hU.on hd
  clear c0 c1 c2 c3 hx hy hd
  go_upto_region 12 with fail
  have start := hU.drew
  have startB := (hU.alloc (.cells #[.slice none 0 0, .slice none 0 0] 24)).drew
  have zB := (SBox.new w4 (.slice none 0 0) (.slice none 0 0)).drew
  have lk := hU.lts
  have lz := hU.b.size
  go_cut [11] (fun sp W => ∃ g p q p' q' T, sp = .pointer (some ⟨g, 0, none⟩) ∧ Hid (Mrg B L R T) ∧ w.heap.size ≤ g ∧ Un ((g, .slice p T.A.length q, .slice p' T.R.length q', T) :: [(w.heap.size + 1 + 1 + 1, .slice none 0 0, .slice none 0 0, ⟨[], []⟩), (w.heap.size + 1 + 1, .slice pa2 R.A.length ca2, .slice pr2 R.R.length cr2, R), (w.heap.size + 1, .slice pa1 L.A.length ca1, .slice pr1 L.R.length cr1, L), (w.heap.size, .slice pa0 B.A.length ca0, .slice pr0 B.R.length cr0, B)]) w W)
  case first =>
    go_region_held3 (fun V => V.cell? ⟨w.heap.size + 1, 0, none⟩ = some (.slice pa1 L.A.length ca1) ∧ V.cell? ⟨w.heap.size + 1, 1, none⟩ = some (.slice pr1 L.R.length cr1) ∧ V.cell? ⟨w.heap.size + 1 + 1, 0, none⟩ = some (.slice pa2 R.A.length ca2) ∧ V.cell? ⟨w.heap.size + 1 + 1, 1, none⟩ = some (.slice pr2 R.R.length cr2) ∧ V.cell? ⟨w.heap.size, 0, none⟩ = some (.slice pa0 B.A.length ca0) ∧ V.cell? ⟨w.heap.size, 1, none⟩ = some (.slice pr0 B.R.length cr0)) (first | (with_reducible exact sixU start) | (with_reducible exact sixU startB) | (with_reducible exact sixU hh) | (with_reducible exact sixU (hh.alloc _)) | (with_reducible exact sixU (hh.put zz kz (nes nz) hM2).t)) (first | (go_at_call 38; (first | ((with_reducible refine (add_any L R.A R.R _ _ _ _ _ start.s1 O1.out.n start.s2.a start.s2.r (by omega)).mono ?_); rintro e wa ⟨va, vr, T1, rfl, hT1, hTM, hca⟩; have hh := start.on hca; have HT := Lib.hid hTM; have tl := hTM.2.2; clear hTM hca) | ((with_reducible refine (add_any L R.A R.R _ _ _ _ _ startB.s1 O1.out.n startB.s2.a startB.s2.r (by omega)).mono ?_); rintro e wa ⟨va, vr, T1, rfl, hT1, hTM, hca⟩; have hh := startB.on hca; have zz := zB.below hca zB.lt; have kz := lz; have nz := lk; have HT := Lib.hid hTM; have tl := hTM.2.2; clear hTM hca))) | (go_at_call 38; (first | ((with_reducible refine (add_any T1 B.R B.A _ _ _ _ _ hT1 HT.out.1 hh.s0.r hh.s0.a (by omega)).mono ?_); rintro e wc ⟨ma, mr, M2, rfl, hM2, hMg, hcc⟩; have HG2 : Hid (Mrg B L R M2) := Lib.hid (mrg_of HT.out.2.1 hMg.1 hMg.2.1); obtain ⟨u9, v9, u10, v10, rfl, rfl, -, -⟩ := hM2.parts; (have zz := zz.below hcc zz.lt; have hh := hh.on hcc); have z0 := zz.c0; have z1 := zz.c1; have zf0 := zz.f0 0; have zf1 := zz.f0 1; clear hMg hcc) | ((with_reducible refine (add_any T1 B.R B.A _ _ _ _ _ hT1 HT.out.1 hh.s0.r hh.s0.a (by omega)).mono ?_); rintro e wc ⟨ma, mr, M2, rfl, hM2, hMg, hcc⟩; have HG2 : Hid (Mrg B L R M2) := Lib.hid (mrg_of HT.out.2.1 hMg.1 hMg.2.1); obtain ⟨u9, v9, u10, v10, rfl, rfl, -, -⟩ := hM2.parts; (have hh := hh.on hcc); clear hMg hcc) | ((with_reducible refine (add_any T1 B.R B.A _ _ _ _ _ (hT1.below ((Below.refl _ _).alloc (Nat.le_refl _) (.cells #[.slice none 0 0, .slice none 0 0] 24)) (Nat.le_refl _)) HT.out.1 (hh.alloc (.cells #[.slice none 0 0, .slice none 0 0] 24)).s0.r (hh.alloc (.cells #[.slice none 0 0, .slice none 0 0] 24)).s0.a (by omega)).mono ?_); rintro e wc ⟨ma, mr, M2, rfl, hM2, hMg, hcc⟩; have HG2 : Hid (Mrg B L R M2) := Lib.hid (mrg_of HT.out.2.1 hMg.1 hMg.2.1); obtain ⟨u9, v9, u10, v10, rfl, rfl, -, -⟩ := hM2.parts; (have zz := (SBox.new wa (.slice none 0 0) (.slice none 0 0)).below hcc (SBox.new wa (.slice none 0 0) (.slice none 0 0)).lt; have kz := hh.b.size; have nz := hh.lts; have hh := (hh.alloc (.cells #[.slice none 0 0, .slice none 0 0] 24)).on hcc); have z0 := zz.c0; have z1 := zz.c1; have zf0 := zz.f0 0; have zf1 := zz.f0 1; clear hMg hcc))))
    all_goals (go_wp2; go_meet)
    all_goals first | exact ⟨_, _, _, _, _, M2, rfl, HG2, hh.b.size, hh.new hM2⟩ | exact ⟨_, _, _, _, _, M2, rfl, HG2, kz, hh.put zz kz (nes nz) hM2⟩
  case rest =>
    clear start startB zB lk lz hU
    obtain ⟨g, p, q, p', q', T, rfl, HT, hg, hU⟩ := hcut
    have OT := Lib.hid (HT.out.ok O0.out O1.out O2.out (by omega))
    have KT := Lib.hid ((chk_ok T).2 OT.out)
    have LT : T.R.length ≤ 1000000 := by have := OT.out.l; have := OT.out.m; omega
    go_upto_region 13 with fail
    have hx := hU.x _ (List.mem_cons_self ..)
    have c0 := hx.1.c0
    have c1 := hx.1.c1
    go_wp2_with fail
    ((with_reducible refine (refCheck_any T _ _ _ hx.2 LT 0 KT.out).mono ?_); rintro e w5 ⟨rfl, hd⟩)
    have hU := hU.on hd
    clear c0 c1 hx hd
    have hx := hU.x _ (List.mem_cons_self ..)
    have c0 := hx.1.c0
    have c1 := hx.1.c1
    have hz := hU.x _ (List.mem_cons_of_mem _ (List.mem_cons_self ..))
    have k0 := hz.1.c0
    have k1 := hz.1.c1
    have g0 := hz.1.f0 0
    have g1 := hz.1.f0 1
    have hz1 := hz.1.set0 (.slice p T.A.length q)
    have HF := Lib.hid (show IsSum ((w5.setCell ⟨w.heap.size + 1 + 1 + 1, 0, none⟩ (.slice p T.A.length q)).setCell ⟨w.heap.size + 1 + 1 + 1, 1, none⟩ (.slice p' T.R.length q')) (.slice p T.A.length q) (.slice p' T.R.length q') T from ⟨(hx.2.a.box hz.1 0 _).box hz1 1 _, (hx.2.r.box hz.1 0 _).box hz1 1 _⟩)
    have BE := (hU.b.setCell (p := ⟨w.heap.size + 1 + 1 + 1, 0, none⟩) (by simp; omega) (.slice p T.A.length q)).setCell (p := ⟨w.heap.size + 1 + 1 + 1, 1, none⟩) (by simp; omega) (.slice p' T.R.length q')
    clear hx hz hz1
    go_wp2
    exact bodyPost_ret (v := .tuple #[sv (.slice p T.A.length q) (.slice p' T.R.length q'), .int .i64 0]) (by simp [results, Try.results24, go_sem, k0, k1, World.cell?_setCell_other, World.cell?_setCell_same']) rfl ⟨_, _, T, rfl, HF.out, HT.out, BE⟩

/-- The reference's Merge of valid sums. -/
theorem refMerge_ok (B L R : Sm) (a0 r0 a1 r1 a2 r2 : Value) (w : World) (h0 : IsSum w a0 r0 B) (h1 : IsSum w a1 r1 L) (h2 : IsSum w a2 r2 R) (hl : B.R.length ≤ 1000000 ∧ L.R.length ≤ 1000000 ∧ R.R.length ≤ 1000000) (hm : B.A.length ≤ 100 ∧ L.A.length ≤ 100 ∧ R.A.length ≤ 100 ∧ B.R.length ≤ 100 ∧ L.R.length ≤ 100 ∧ R.R.length ≤ 100) (hB0 : Ok B) (hL0 : Ok L) (hR0 : Ok R) :
    Calls Try.prog 24 #[sv a0 r0, sv a1 r1, sv a2 r2] w fun e w' => ∃ va vr M, e = .returned (.tuple #[sv va vr, .int .i64 0]) ∧ IsSum w' va vr M ∧ ((L = R → M = L) ∧ (L ≠ R → Mrg B L R M)) ∧ Below w.heap.size w w' := by
  by_cases e : L = R
  · refine (refMerge_same B L R a0 r0 a1 r1 a2 r2 w h0 h1 h2 hl ((chk_ok _).2 hB0) ((chk_ok _).2 hL0) ((chk_ok _).2 hR0) (eqS_iff.2 e)).mono ?_
    rintro e' w' ⟨va, vr, rfl, h, hb⟩
    exact ⟨va, vr, L, rfl, h, ⟨fun _ => rfl, fun hn => absurd e hn⟩, hb⟩
  · refine (refMerge_diff B L R a0 r0 a1 r1 a2 r2 w h0 h1 h2 hl hB0 hL0 hR0 (by rw [← Bool.not_eq_true, eqS_iff]; exact e) hm).mono ?_
    rintro e' w' ⟨va, vr, T, rfl, h, hT, hb⟩
    exact ⟨va, vr, T, rfl, h, ⟨fun h => absurd h e, fun _ => hT⟩, hb⟩
end Go.Proofs.Ytgnkfikihjjpeaa
