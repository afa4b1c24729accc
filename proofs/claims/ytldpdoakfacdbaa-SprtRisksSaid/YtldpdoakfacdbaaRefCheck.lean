/- The reference's Check, at this translation. -/
import Derived.Test.YtldpdoakfacdbaaCheck
namespace Go.Proofs.Ytldpdoakfacdbaa
open Go.RowKit

set_option maxHeartbeats 2000000 in
theorem refCheck_bad0 (gn gd bn bd an ad en ed : Int) (h0 : ratioB gn gd = false) (w : World) : Calls Try.prog 13 #[trialV gn gd bn bd an ad en ed] w fun e w' => e = .returned (.int .i64 1) ∧ Below w.heap.size w w' := by
  have H0 := Lib.hid h0
  clear h0
  have K0 := Lib.hid (L8.fresh gn gd bn bd an ad en ed w 25)
  have B0 := (Below.refl w.heap.size w).alloc (Nat.le_refl _) (.cells #[.int .i64 gn, .int .i64 gd, .int .i64 bn, .int .i64 bd, .int .i64 an, .int .i64 ad, .int .i64 en, .int .i64 ed] 25)
  obtain ⟨c0, c1, c2, c3, c4, c5, c6, c7, lt⟩ := K0.out
  go_enter Try.func13, Try.ntmps13
  go_wp2_with fail
  ((with_reducible refine (ratio25' gn gd false H0.out _).mono ?_); rintro e w1 ⟨rfl, hb1⟩)
  have K1 := Lib.hid (K0.out.below hb1 K0.out.lt)
  have B1 := B0.trans (hb1.mono B0.size)
  clear hb1
  clear c0 c1 c2 c3 c4 c5 c6 c7 lt
  obtain ⟨c0, c1, c2, c3, c4, c5, c6, c7, lt⟩ := K1.out
  go_wp2
  go_ret
  exact ⟨rfl, B1⟩

set_option maxHeartbeats 2000000 in
theorem refCheck_bad1 (gn gd bn bd an ad en ed : Int) (h0 : ratioB gn gd = true) (h1 : ratioB bn bd = false) (w : World) : Calls Try.prog 13 #[trialV gn gd bn bd an ad en ed] w fun e w' => e = .returned (.int .i64 1) ∧ Below w.heap.size w w' := by
  have H0 := Lib.hid h0
  have H1 := Lib.hid h1
  clear h0 h1
  have K0 := Lib.hid (L8.fresh gn gd bn bd an ad en ed w 25)
  have B0 := (Below.refl w.heap.size w).alloc (Nat.le_refl _) (.cells #[.int .i64 gn, .int .i64 gd, .int .i64 bn, .int .i64 bd, .int .i64 an, .int .i64 ad, .int .i64 en, .int .i64 ed] 25)
  obtain ⟨c0, c1, c2, c3, c4, c5, c6, c7, lt⟩ := K0.out
  go_enter Try.func13, Try.ntmps13
  go_wp2_with fail
  ((with_reducible refine (ratio25' gn gd true H0.out _).mono ?_); rintro e w1 ⟨rfl, hb1⟩)
  have K1 := Lib.hid (K0.out.below hb1 K0.out.lt)
  have B1 := B0.trans (hb1.mono B0.size)
  clear hb1
  clear c0 c1 c2 c3 c4 c5 c6 c7 lt
  obtain ⟨c0, c1, c2, c3, c4, c5, c6, c7, lt⟩ := K1.out
  go_wp2_with fail
  ((with_reducible refine (ratio25' bn bd false H1.out _).mono ?_); rintro e w2 ⟨rfl, hb2⟩)
  have K2 := Lib.hid (K1.out.below hb2 K1.out.lt)
  have B2 := B1.trans (hb2.mono B1.size)
  clear hb2
  clear c0 c1 c2 c3 c4 c5 c6 c7 lt
  obtain ⟨c0, c1, c2, c3, c4, c5, c6, c7, lt⟩ := K2.out
  go_wp2
  go_ret
  exact ⟨rfl, B2⟩

set_option maxHeartbeats 2000000 in
theorem refCheck_bad2 (gn gd bn bd an ad en ed : Int) (h0 : ratioB gn gd = true) (h1 : ratioB bn bd = true) (h2 : ratioB an ad = false) (w : World) : Calls Try.prog 13 #[trialV gn gd bn bd an ad en ed] w fun e w' => e = .returned (.int .i64 1) ∧ Below w.heap.size w w' := by
  have H0 := Lib.hid h0
  have H1 := Lib.hid h1
  have H2 := Lib.hid h2
  clear h0 h1 h2
  have K0 := Lib.hid (L8.fresh gn gd bn bd an ad en ed w 25)
  have B0 := (Below.refl w.heap.size w).alloc (Nat.le_refl _) (.cells #[.int .i64 gn, .int .i64 gd, .int .i64 bn, .int .i64 bd, .int .i64 an, .int .i64 ad, .int .i64 en, .int .i64 ed] 25)
  obtain ⟨c0, c1, c2, c3, c4, c5, c6, c7, lt⟩ := K0.out
  go_enter Try.func13, Try.ntmps13
  go_wp2_with fail
  ((with_reducible refine (ratio25' gn gd true H0.out _).mono ?_); rintro e w1 ⟨rfl, hb1⟩)
  have K1 := Lib.hid (K0.out.below hb1 K0.out.lt)
  have B1 := B0.trans (hb1.mono B0.size)
  clear hb1
  clear c0 c1 c2 c3 c4 c5 c6 c7 lt
  obtain ⟨c0, c1, c2, c3, c4, c5, c6, c7, lt⟩ := K1.out
  go_wp2_with fail
  ((with_reducible refine (ratio25' bn bd true H1.out _).mono ?_); rintro e w2 ⟨rfl, hb2⟩)
  have K2 := Lib.hid (K1.out.below hb2 K1.out.lt)
  have B2 := B1.trans (hb2.mono B1.size)
  clear hb2
  clear c0 c1 c2 c3 c4 c5 c6 c7 lt
  obtain ⟨c0, c1, c2, c3, c4, c5, c6, c7, lt⟩ := K2.out
  go_wp2_with fail
  ((with_reducible refine (ratio25' an ad false H2.out _).mono ?_); rintro e w3 ⟨rfl, hb3⟩)
  have K3 := Lib.hid (K2.out.below hb3 K2.out.lt)
  have B3 := B2.trans (hb3.mono B2.size)
  clear hb3
  clear c0 c1 c2 c3 c4 c5 c6 c7 lt
  obtain ⟨c0, c1, c2, c3, c4, c5, c6, c7, lt⟩ := K3.out
  go_wp2
  go_ret
  exact ⟨rfl, B3⟩

set_option maxHeartbeats 2000000 in
theorem refCheck_bad3 (gn gd bn bd an ad en ed : Int) (h0 : ratioB gn gd = true) (h1 : ratioB bn bd = true) (h2 : ratioB an ad = true) (h3 : ratioB en ed = false) (w : World) : Calls Try.prog 13 #[trialV gn gd bn bd an ad en ed] w fun e w' => e = .returned (.int .i64 1) ∧ Below w.heap.size w w' := by
  have H0 := Lib.hid h0
  have H1 := Lib.hid h1
  have H2 := Lib.hid h2
  have H3 := Lib.hid h3
  clear h0 h1 h2 h3
  have K0 := Lib.hid (L8.fresh gn gd bn bd an ad en ed w 25)
  have B0 := (Below.refl w.heap.size w).alloc (Nat.le_refl _) (.cells #[.int .i64 gn, .int .i64 gd, .int .i64 bn, .int .i64 bd, .int .i64 an, .int .i64 ad, .int .i64 en, .int .i64 ed] 25)
  obtain ⟨c0, c1, c2, c3, c4, c5, c6, c7, lt⟩ := K0.out
  go_enter Try.func13, Try.ntmps13
  go_wp2_with fail
  ((with_reducible refine (ratio25' gn gd true H0.out _).mono ?_); rintro e w1 ⟨rfl, hb1⟩)
  have K1 := Lib.hid (K0.out.below hb1 K0.out.lt)
  have B1 := B0.trans (hb1.mono B0.size)
  clear hb1
  clear c0 c1 c2 c3 c4 c5 c6 c7 lt
  obtain ⟨c0, c1, c2, c3, c4, c5, c6, c7, lt⟩ := K1.out
  go_wp2_with fail
  ((with_reducible refine (ratio25' bn bd true H1.out _).mono ?_); rintro e w2 ⟨rfl, hb2⟩)
  have K2 := Lib.hid (K1.out.below hb2 K1.out.lt)
  have B2 := B1.trans (hb2.mono B1.size)
  clear hb2
  clear c0 c1 c2 c3 c4 c5 c6 c7 lt
  obtain ⟨c0, c1, c2, c3, c4, c5, c6, c7, lt⟩ := K2.out
  go_wp2_with fail
  ((with_reducible refine (ratio25' an ad true H2.out _).mono ?_); rintro e w3 ⟨rfl, hb3⟩)
  have K3 := Lib.hid (K2.out.below hb3 K2.out.lt)
  have B3 := B2.trans (hb3.mono B2.size)
  clear hb3
  clear c0 c1 c2 c3 c4 c5 c6 c7 lt
  obtain ⟨c0, c1, c2, c3, c4, c5, c6, c7, lt⟩ := K3.out
  go_wp2_with fail
  ((with_reducible refine (ratio25' en ed false H3.out _).mono ?_); rintro e w4 ⟨rfl, hb4⟩)
  have K4 := Lib.hid (K3.out.below hb4 K3.out.lt)
  have B4 := B3.trans (hb4.mono B3.size)
  clear hb4
  clear c0 c1 c2 c3 c4 c5 c6 c7 lt
  obtain ⟨c0, c1, c2, c3, c4, c5, c6, c7, lt⟩ := K4.out
  go_wp2
  go_ret
  exact ⟨rfl, B4⟩

set_option maxHeartbeats 2000000 in
theorem refCheck_cross1 (gn gd bn bd an ad en ed : Int) (h0 : ratioB gn gd = true) (h1 : ratioB bn bd = true) (h2 : ratioB an ad = true) (h3 : ratioB en ed = true) (x1 : gn * bd ≤ bn * gd) (w : World) : Calls Try.prog 13 #[trialV gn gd bn bd an ad en ed] w fun e w' => e = .returned (.int .i64 1) ∧ Below w.heap.size w w' := by
  obtain ⟨g1, g2, g3, g4⟩ := ratioB_true h0
  obtain ⟨b1, b2, b3, b4⟩ := ratioB_true h1
  obtain ⟨a1, a2, a3, a4⟩ := ratioB_true h2
  obtain ⟨f1, f2, f3, f4⟩ := ratioB_true h3
  have p1 := mul400 bn gd b3 (by omega) g1 g2
  have p2 := mul400 gn bd g3 (by omega) b1 b2
  have p3 := mul400 an ed a3 (by omega) f1 f2
  have p4 := mul400 en ad f3 (by omega) a1 a2
  have p5 := mul400 ad ed a1 a2 f1 f2
  have H0 := Lib.hid h0
  have H1 := Lib.hid h1
  have H2 := Lib.hid h2
  have H3 := Lib.hid h3
  clear h0 h1 h2 h3
  have K0 := Lib.hid (L8.fresh gn gd bn bd an ad en ed w 25)
  have B0 := (Below.refl w.heap.size w).alloc (Nat.le_refl _) (.cells #[.int .i64 gn, .int .i64 gd, .int .i64 bn, .int .i64 bd, .int .i64 an, .int .i64 ad, .int .i64 en, .int .i64 ed] 25)
  obtain ⟨c0, c1, c2, c3, c4, c5, c6, c7, lt⟩ := K0.out
  go_enter Try.func13, Try.ntmps13
  go_wp2_with fail
  ((with_reducible refine (ratio25' gn gd true H0.out _).mono ?_); rintro e w1 ⟨rfl, hb1⟩)
  have K1 := Lib.hid (K0.out.below hb1 K0.out.lt)
  have B1 := B0.trans (hb1.mono B0.size)
  clear hb1
  clear c0 c1 c2 c3 c4 c5 c6 c7 lt
  obtain ⟨c0, c1, c2, c3, c4, c5, c6, c7, lt⟩ := K1.out
  go_wp2_with fail
  ((with_reducible refine (ratio25' bn bd true H1.out _).mono ?_); rintro e w2 ⟨rfl, hb2⟩)
  have K2 := Lib.hid (K1.out.below hb2 K1.out.lt)
  have B2 := B1.trans (hb2.mono B1.size)
  clear hb2
  clear c0 c1 c2 c3 c4 c5 c6 c7 lt
  obtain ⟨c0, c1, c2, c3, c4, c5, c6, c7, lt⟩ := K2.out
  go_wp2_with fail
  ((with_reducible refine (ratio25' an ad true H2.out _).mono ?_); rintro e w3 ⟨rfl, hb3⟩)
  have K3 := Lib.hid (K2.out.below hb3 K2.out.lt)
  have B3 := B2.trans (hb3.mono B2.size)
  clear hb3
  clear c0 c1 c2 c3 c4 c5 c6 c7 lt
  obtain ⟨c0, c1, c2, c3, c4, c5, c6, c7, lt⟩ := K3.out
  go_wp2_with fail
  ((with_reducible refine (ratio25' en ed true H3.out _).mono ?_); rintro e w4 ⟨rfl, hb4⟩)
  have K4 := Lib.hid (K3.out.below hb4 K3.out.lt)
  have B4 := B3.trans (hb4.mono B3.size)
  clear hb4
  clear c0 c1 c2 c3 c4 c5 c6 c7 lt
  obtain ⟨c0, c1, c2, c3, c4, c5, c6, c7, lt⟩ := K4.out
  go_wp2
  go_ret
  exact ⟨rfl, B4⟩

set_option maxHeartbeats 2000000 in
theorem refCheck_cross2 (gn gd bn bd an ad en ed : Int) (h0 : ratioB gn gd = true) (h1 : ratioB bn bd = true) (h2 : ratioB an ad = true) (h3 : ratioB en ed = true) (x1 : bn * gd < gn * bd) (x2 : ad * ed ≤ an * ed + en * ad) (w : World) : Calls Try.prog 13 #[trialV gn gd bn bd an ad en ed] w fun e w' => e = .returned (.int .i64 1) ∧ Below w.heap.size w w' := by
  obtain ⟨g1, g2, g3, g4⟩ := ratioB_true h0
  obtain ⟨b1, b2, b3, b4⟩ := ratioB_true h1
  obtain ⟨a1, a2, a3, a4⟩ := ratioB_true h2
  obtain ⟨f1, f2, f3, f4⟩ := ratioB_true h3
  have p1 := mul400 bn gd b3 (by omega) g1 g2
  have p2 := mul400 gn bd g3 (by omega) b1 b2
  have p3 := mul400 an ed a3 (by omega) f1 f2
  have p4 := mul400 en ad f3 (by omega) a1 a2
  have p5 := mul400 ad ed a1 a2 f1 f2
  have H0 := Lib.hid h0
  have H1 := Lib.hid h1
  have H2 := Lib.hid h2
  have H3 := Lib.hid h3
  clear h0 h1 h2 h3
  have K0 := Lib.hid (L8.fresh gn gd bn bd an ad en ed w 25)
  have B0 := (Below.refl w.heap.size w).alloc (Nat.le_refl _) (.cells #[.int .i64 gn, .int .i64 gd, .int .i64 bn, .int .i64 bd, .int .i64 an, .int .i64 ad, .int .i64 en, .int .i64 ed] 25)
  obtain ⟨c0, c1, c2, c3, c4, c5, c6, c7, lt⟩ := K0.out
  go_enter Try.func13, Try.ntmps13
  go_wp2_with fail
  ((with_reducible refine (ratio25' gn gd true H0.out _).mono ?_); rintro e w1 ⟨rfl, hb1⟩)
  have K1 := Lib.hid (K0.out.below hb1 K0.out.lt)
  have B1 := B0.trans (hb1.mono B0.size)
  clear hb1
  clear c0 c1 c2 c3 c4 c5 c6 c7 lt
  obtain ⟨c0, c1, c2, c3, c4, c5, c6, c7, lt⟩ := K1.out
  go_wp2_with fail
  ((with_reducible refine (ratio25' bn bd true H1.out _).mono ?_); rintro e w2 ⟨rfl, hb2⟩)
  have K2 := Lib.hid (K1.out.below hb2 K1.out.lt)
  have B2 := B1.trans (hb2.mono B1.size)
  clear hb2
  clear c0 c1 c2 c3 c4 c5 c6 c7 lt
  obtain ⟨c0, c1, c2, c3, c4, c5, c6, c7, lt⟩ := K2.out
  go_wp2_with fail
  ((with_reducible refine (ratio25' an ad true H2.out _).mono ?_); rintro e w3 ⟨rfl, hb3⟩)
  have K3 := Lib.hid (K2.out.below hb3 K2.out.lt)
  have B3 := B2.trans (hb3.mono B2.size)
  clear hb3
  clear c0 c1 c2 c3 c4 c5 c6 c7 lt
  obtain ⟨c0, c1, c2, c3, c4, c5, c6, c7, lt⟩ := K3.out
  go_wp2_with fail
  ((with_reducible refine (ratio25' en ed true H3.out _).mono ?_); rintro e w4 ⟨rfl, hb4⟩)
  have K4 := Lib.hid (K3.out.below hb4 K3.out.lt)
  have B4 := B3.trans (hb4.mono B3.size)
  clear hb4
  clear c0 c1 c2 c3 c4 c5 c6 c7 lt
  obtain ⟨c0, c1, c2, c3, c4, c5, c6, c7, lt⟩ := K4.out
  go_wp2
  go_ret
  exact ⟨rfl, B4⟩

set_option maxHeartbeats 2000000 in
theorem refCheck_good (gn gd bn bd an ad en ed : Int) (h0 : ratioB gn gd = true) (h1 : ratioB bn bd = true) (h2 : ratioB an ad = true) (h3 : ratioB en ed = true) (x1 : bn * gd < gn * bd) (x2 : an * ed + en * ad < ad * ed) (w : World) : Calls Try.prog 13 #[trialV gn gd bn bd an ad en ed] w fun e w' => e = .returned (.int .i64 0) ∧ Below w.heap.size w w' := by
  obtain ⟨g1, g2, g3, g4⟩ := ratioB_true h0
  obtain ⟨b1, b2, b3, b4⟩ := ratioB_true h1
  obtain ⟨a1, a2, a3, a4⟩ := ratioB_true h2
  obtain ⟨f1, f2, f3, f4⟩ := ratioB_true h3
  have p1 := mul400 bn gd b3 (by omega) g1 g2
  have p2 := mul400 gn bd g3 (by omega) b1 b2
  have p3 := mul400 an ed a3 (by omega) f1 f2
  have p4 := mul400 en ad f3 (by omega) a1 a2
  have p5 := mul400 ad ed a1 a2 f1 f2
  have H0 := Lib.hid h0
  have H1 := Lib.hid h1
  have H2 := Lib.hid h2
  have H3 := Lib.hid h3
  clear h0 h1 h2 h3
  have K0 := Lib.hid (L8.fresh gn gd bn bd an ad en ed w 25)
  have B0 := (Below.refl w.heap.size w).alloc (Nat.le_refl _) (.cells #[.int .i64 gn, .int .i64 gd, .int .i64 bn, .int .i64 bd, .int .i64 an, .int .i64 ad, .int .i64 en, .int .i64 ed] 25)
  obtain ⟨c0, c1, c2, c3, c4, c5, c6, c7, lt⟩ := K0.out
  go_enter Try.func13, Try.ntmps13
  go_wp2_with fail
  ((with_reducible refine (ratio25' gn gd true H0.out _).mono ?_); rintro e w1 ⟨rfl, hb1⟩)
  have K1 := Lib.hid (K0.out.below hb1 K0.out.lt)
  have B1 := B0.trans (hb1.mono B0.size)
  clear hb1
  clear c0 c1 c2 c3 c4 c5 c6 c7 lt
  obtain ⟨c0, c1, c2, c3, c4, c5, c6, c7, lt⟩ := K1.out
  go_wp2_with fail
  ((with_reducible refine (ratio25' bn bd true H1.out _).mono ?_); rintro e w2 ⟨rfl, hb2⟩)
  have K2 := Lib.hid (K1.out.below hb2 K1.out.lt)
  have B2 := B1.trans (hb2.mono B1.size)
  clear hb2
  clear c0 c1 c2 c3 c4 c5 c6 c7 lt
  obtain ⟨c0, c1, c2, c3, c4, c5, c6, c7, lt⟩ := K2.out
  go_wp2_with fail
  ((with_reducible refine (ratio25' an ad true H2.out _).mono ?_); rintro e w3 ⟨rfl, hb3⟩)
  have K3 := Lib.hid (K2.out.below hb3 K2.out.lt)
  have B3 := B2.trans (hb3.mono B2.size)
  clear hb3
  clear c0 c1 c2 c3 c4 c5 c6 c7 lt
  obtain ⟨c0, c1, c2, c3, c4, c5, c6, c7, lt⟩ := K3.out
  go_wp2_with fail
  ((with_reducible refine (ratio25' en ed true H3.out _).mono ?_); rintro e w4 ⟨rfl, hb4⟩)
  have K4 := Lib.hid (K3.out.below hb4 K3.out.lt)
  have B4 := B3.trans (hb4.mono B3.size)
  clear hb4
  clear c0 c1 c2 c3 c4 c5 c6 c7 lt
  obtain ⟨c0, c1, c2, c3, c4, c5, c6, c7, lt⟩ := K4.out
  go_wp2
  go_ret
  exact ⟨rfl, B4⟩

theorem refCheck_any (gn gd bn bd an ad en ed : Int) (w : World) : Calls Try.prog 13 #[trialV gn gd bn bd an ad en ed] w fun e w' => e = .returned (.int .i64 (chk gn gd bn bd an ad en ed)) ∧ Below w.heap.size w w' := by
  obtain h0 | h0 := bool_or (ratioB gn gd)
  · rw [show chk gn gd bn bd an ad en ed = 1 by simp [chk, chkB, h0]]; exact refCheck_bad0 gn gd bn bd an ad en ed h0 w
  · obtain h1 | h1 := bool_or (ratioB bn bd)
    · rw [show chk gn gd bn bd an ad en ed = 1 by simp [chk, chkB, h1]]; exact refCheck_bad1 gn gd bn bd an ad en ed h0 h1 w
    · obtain h2 | h2 := bool_or (ratioB an ad)
      · rw [show chk gn gd bn bd an ad en ed = 1 by simp [chk, chkB, h2]]; exact refCheck_bad2 gn gd bn bd an ad en ed h0 h1 h2 w
      · obtain h3 | h3 := bool_or (ratioB en ed)
        · rw [show chk gn gd bn bd an ad en ed = 1 by simp [chk, chkB, h3]]; exact refCheck_bad3 gn gd bn bd an ad en ed h0 h1 h2 h3 w
        · by_cases x1 : bn * gd < gn * bd
          · by_cases x2 : an * ed + en * ad < ad * ed
            · rw [show chk gn gd bn bd an ad en ed = 0 by simp [chk, chkB, crossB, h0, h1, h2, h3, x1, x2]]; exact refCheck_good gn gd bn bd an ad en ed h0 h1 h2 h3 x1 x2 w
            · rw [show chk gn gd bn bd an ad en ed = 1 by simp [chk, chkB, crossB, x2]]; exact refCheck_cross2 gn gd bn bd an ad en ed h0 h1 h2 h3 x1 (by omega) w
          · rw [show chk gn gd bn bd an ad en ed = 1 by simp [chk, chkB, crossB, x1]]; exact refCheck_cross1 gn gd bn bd an ad en ed h0 h1 h2 h3 (by omega) w
end Go.Proofs.Ytldpdoakfacdbaa
