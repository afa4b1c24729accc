/- conflict.Merge of valid sums whose sides are equal, at this translation. -/
import Derived.Test.YtgnkfikihjjpeaaMerge
namespace Go.Proofs.Ytgnkfikihjjpeaa
open Go.RowKit Go.Great Go.Maps

set_option maxRecDepth 100000 in
set_option maxHeartbeats 8000000 in
theorem merge_same (B L R : Sm) (a0 r0 a1 r1 a2 r2 : Value) (w : World) (h0 : IsSum w a0 r0 B) (h1 : IsSum w a1 r1 L) (h2 : IsSum w a2 r2 R) (hl : B.R.length ≤ 1000000 ∧ L.R.length ≤ 1000000 ∧ R.R.length ≤ 1000000) (hr : fstErr [B, L, R] = 0) (hLR : L = R) :
    Calls Try.prog 23 #[sv a0 r0, sv a1 r1, sv a2 r2] w fun e w' => ∃ va vr, e = .returned (.tuple #[sv va vr, .int .i64 0]) ∧ IsSum w' va vr L ∧ Below w.heap.size w w' := by
  have hI1 := h1
  obtain ⟨wb, hwb⟩ : ∃ wb, (((w.alloc (.cells #[a0, r0] 24)).alloc (.cells #[a1, r1] 24)).alloc (.cells #[a2, r2] 24)).alloc (.cells #[.slice none 0 0, .slice none 0 0] 24) = wb := ⟨_, rfl⟩
  have hB := ((((Below.refl w.heap.size w).alloc (Nat.le_refl _) (.cells #[a0, r0] 24)).alloc (by simp) (.cells #[a1, r1] 24)).alloc (by simp; omega) (.cells #[a2, r2] 24)).alloc (by simp; omega) (.cells #[.slice none 0 0, .slice none 0 0] 24)
  have x0 := (((SBox.new w a0 r0).alloc (.cells #[a1, r1] 24)).alloc (.cells #[a2, r2] 24)).alloc (.cells #[.slice none 0 0, .slice none 0 0] 24)
  have x1 := ((SBox.new (w.alloc (.cells #[a0, r0] 24)) a1 r1).alloc (.cells #[a2, r2] 24)).alloc (.cells #[.slice none 0 0, .slice none 0 0] 24)
  have x2 := (SBox.new ((w.alloc (.cells #[a0, r0] 24)).alloc (.cells #[a1, r1] 24)) a2 r2).alloc (.cells #[.slice none 0 0, .slice none 0 0] 24)
  have x3 := SBox.new (((w.alloc (.cells #[a0, r0] 24)).alloc (.cells #[a1, r1] 24)).alloc (.cells #[a2, r2] 24)) (.slice none 0 0) (.slice none 0 0)
  have sz : wb.heap.size = w.heap.size + 4 := by rw [← hwb]; simp
  simp only [World.size_alloc] at x1 x2 x3
  rw [hwb] at hB x0 x1 x2 x3
  have c0 := x0.c0
  have c1 := x0.c1
  have c2 := x1.c0
  have c3 := x1.c1
  have c4 := x2.c0
  have c5 := x2.c1
  have HR := Lib.hid hr
  have HLR := Lib.hid hLR
  have SZ := Lib.hid sz
  have HW := Lib.hid hwb
  clear hr sz hwb hLR
  go_enter Try.func23, Try.ntmps23
  go_upto_region 1 with fail
  rw [HW.out]
  have h0 := h0.below hB (Nat.le_refl _)
  have h1 := h1.below hB (Nat.le_refl _)
  have h2 := h2.below hB (Nat.le_refl _)
  have RW := Lib.hid (row3_new wb a0 r0 a1 r1 a2 r2 B L R)
  have HS := Lib.hid (sums3 h0 h1 h2 hl)
  have X1 := Lib.hid (x1.alloc (.cells #[a0, r0, a1, r1, a2, r2] 24))
  have X2 := Lib.hid (x2.alloc (.cells #[a0, r0, a1, r1, a2, r2] 24))
  have X3 := Lib.hid (x3.alloc (.cells #[a0, r0, a1, r1, a2, r2] 24))
  have B1 := (Below.refl wb.heap.size wb).alloc (Nat.le_refl _) (.cells #[a0, r0, a1, r1, a2, r2] 24)
  have Z1 : wb.heap.size < (wb.alloc (.cells #[a0, r0, a1, r1, a2, r2] 24)).heap.size := by simp
  go_wp2
  clear c0 c1 c2 c3 c4 c5
  generalize hVV : at3 (a0, r0) (a1, r1) (a2, r2) = V at RW HS
  clear hVV
  generalize wb.alloc (.cells #[a0, r0, a1, r1, a2, r2] 24) = w2 at RW B1 Z1 X1 X2 X3 ⊢
  have Z2 := B1.size
  have BB : Below w.heap.size w w2 := hB.trans (B1.mono hB.size)
  obtain ⟨G, hG⟩ : ∃ G, wb.heap.size = G := ⟨_, rfl⟩
  rw [hG] at RW Z1 ⊢
  have HG := Lib.hid hG
  clear hG
  go_loopw [22] (fun s22 wr => ∃ j : Nat, j ≤ 3 ∧ s22 = .int .i64 j ∧ Hid (fstErr ([B, L, R].drop j) = 0) ∧ Below w2.heap.size w2 wr) (fun i _ => 3 - (intOf i).toNat)
  case atStart => exact ⟨0, by omega, rfl, HR, Below.refl _ _⟩
  case round =>
    obtain ⟨j, hj, rfl, HJ, hBr⟩ := hrel
    by_cases hlt : j < 3
    · obtain ⟨S, hS, hIS, hSl⟩ := HS.out j hlt
      have hIS := (hIS.below B1 (Nat.le_refl _)).below hBr (Nat.le_refl _)
      have d0 := (RW.out.below hBr Z1).c0 j hlt
      have d1 := (RW.out.below hBr Z1).c1 j hlt
      obtain ⟨pa, ca, pr, cr, ea, er, -, -⟩ := hIS.parts
      rw [ea, er] at hIS
      rw [ea] at d0
      rw [er] at d1
      rw [hS] at HJ
      have e0 := (SBox.new wr (.slice pa S.A.length ca) (.slice pr S.R.length cr)).c0
      have e1 := (SBox.new wr (.slice pa S.A.length ca) (.slice pr S.R.length cr)).c1
      have BA := (Below.refl wr.heap.size wr).alloc (Nat.le_refl _) (.cells #[.slice pa S.A.length ca, .slice pr S.R.length cr] 24)
      have hIA := hIS.below BA (Nat.le_refl _)
      obtain ⟨q, hq⟩ : ∃ q, chk S = q := ⟨_, rfl⟩
      rw [hq] at HJ
      have HQ := Lib.hid hq
      clear hS ea er hq hIS
      by_cases hq0 : q = 0
      · subst hq0
        rw [if_neg (by simp)] at HJ
        go_wp2_with fail
        ((with_reducible refine (check_any S _ _ _ hIA hSl 0 HQ.out).mono ?_); rintro e w4 ⟨rfl, hb4⟩)
        have hB4 := hBr.trans ((BA.trans (hb4.mono (by simp))).mono hBr.size)
        go_wp2
        go_roundw
        case rel => exact ⟨j + 1, by omega, by go_num, HJ, hB4⟩
        case measure => simp [intOf]; omega
      · rw [if_pos hq0] at HJ
        exact absurd HJ.out hq0
    · have h1 := h1.below B1 (Nat.le_refl _) |>.below hBr (Nat.le_refl _)
      have h2 := h2.below B1 (Nat.le_refl _) |>.below hBr (Nat.le_refl _)
      have y1 := X1.out.below hBr X1.out.lt
      have y2 := X2.out.below hBr X2.out.lt
      have d0 := y1.c0
      have d1 := y1.c1
      have d2 := y2.c0
      have d3 := y2.c1
      clear HJ
      go_wp2_with fail
      ((with_reducible refine (equal_any L.A R.A _ _ _ h1.a h2.a true (by rw [HLR.out]; simp)).mono ?_); rintro e w5 ⟨rfl, hb5⟩)
      have h3 := h1.below hb5 (Nat.le_refl _)
      have h4 := h2.below hb5 (Nat.le_refl _)
      have y1 := y1.below hb5 y1.lt
      have y2 := y2.below hb5 y2.lt
      have B5 := hBr.trans (hb5.mono hBr.size)
      clear d0 d1 d2 d3 h1 h2 hb5
      have d0 := y1.c0
      have d1 := y1.c1
      have d2 := y2.c0
      have d3 := y2.c1
      go_wp2_with fail
      ((with_reducible refine (equal_any L.R R.R _ _ _ h3.r h4.r true (by rw [HLR.out]; simp)).mono ?_); rintro e w6 ⟨rfl, hb6⟩)
      have h5 := h3.below hb6 (Nat.le_refl _)
      have y1 := y1.below hb6 y1.lt
      have B6 := B5.trans (hb6.mono B5.size)
      have y3 := X3.out.below B6 X3.out.lt
      clear d0 d1 d2 d3 h3 h4 hb6 B5
      have d0 := y1.c0
      have d1 := y1.c1
      have k0 := y3.c0
      have k1 := y3.c1
      have g0 := y3.f0 0
      have g1 := y3.f0 1
      obtain ⟨u1, u2, u3, u4, rfl, rfl, -, -⟩ := hI1.parts
      have BE := ((BB.trans (B6.mono BB.size)).setCell (p := ⟨w.heap.size + 1 + 1 + 1, 0, none⟩) (by simp; omega) (.slice u1 L.A.length u2)).setCell (p := ⟨w.heap.size + 1 + 1 + 1, 1, none⟩) (by simp; omega) (.slice u3 L.R.length u4)
      have hE := hI1.below BE (Nat.le_refl _)
      clear h5 hI1
      go_wp2
      exact bodyPost_ret (v := .tuple #[sv (.slice u1 L.A.length u2) (.slice u3 L.R.length u4), .int .i64 0]) (by simp [results, Try.results23, go_sem, k0, k1, World.cell?_setCell_other, World.cell?_setCell_same']) rfl ⟨_, _, rfl, hE, BE⟩
end Go.Proofs.Ytgnkfikihjjpeaa
