/- Decoding of sums, of program and reference, at this translation. -/
import Derived.Test.YtgnkfikihjjpeaaEnc
import Derived.Test.YtgnkfikihjjpeaaMerge3
namespace Go.Proofs.Ytgnkfikihjjpeaa
open Go.RowKit Go.Great
open Cd (encTs getTs strN nats encT)

/-- What Decode reads, if anything. -/
def dec (t : BA) : Option Sm :=
  if (getTs t).2.2 ≠ 0 then none
  else if (getTs (t.extract (getTs t).2.1 t.size)).2.2 ≠ 0 then none
  else if (getTs t).2.1 + (getTs (t.extract (getTs t).2.1 t.size)).2.1 ≠ t.size then none
  else if chk ⟨(getTs t).1, (getTs (t.extract (getTs t).2.1 t.size)).1⟩ ≠ 0 then none
  else some ⟨(getTs t).1, (getTs (t.extract (getTs t).2.1 t.size)).1⟩
theorem getTs_fit {s : BA} {R : List BA} {n : Nat} (h : getTs s = (R, n, 0)) : n ≤ s.size ∧ R.length ≤ 1000 := by
  have := Cd.canon_Ts s R n h
  exact ⟨this.2.2.1, this.2.2.2.1⟩

set_option maxHeartbeats 2000000 in
theorem dec_e1 (t : BA) (ht : t.size ≤ maxLen) (L1 : List BA) (n1 : Nat) (e1 : Int) (h1 : getTs t = (L1, n1, e1)) (he : e1 ≠ 0) (w : World) :
    Calls Try.prog 25 #[.string t] w fun e w' => e = .returned (.tuple #[sv (.slice none 0 0) (.slice none 0 0), .int .i64 13]) ∧ Below w.heap.size w w' := by
  have q1 : (e1 == 0) = false := by simpa using he
  have q2 : (e1 != 0) = true := by simpa using he
  have H1 := Lib.hid h1
  clear h1 he
  have hB := (Below.refl w.heap.size w).alloc (Nat.le_refl _) (.cells #[.slice none 0 0, .slice none 0 0] 24)
  have x := SBox.new w (.slice none 0 0) (.slice none 0 0)
  go_enter Try.func25, Try.ntmps25
  go_wp2_with fail
  ((with_reducible refine (Cd.getTexts_any t ht L1 n1 e1 H1.out _).mono ?_); rintro e w1 ⟨v1, rfl, hv1, hb1⟩)
  have hv1 := Lib.hid (ofCd hv1)
  have x1 := x.below hb1 (by simp)
  have hB1 := hB.trans (hb1.mono (by simp))
  clear x hb1
  have k0 := x1.c0
  have k1 := x1.c1
  have g0 := x1.f0 0
  have g1 := x1.f0 1
  have BE := (hB1.setCell (p := ⟨w.heap.size, 0, none⟩) (Nat.le_refl _) (.slice none 0 0)).setCell (p := ⟨w.heap.size, 1, none⟩) (Nat.le_refl _) (.slice none 0 0)
  clear x1
  go_wp2
  exact bodyPost_ret (v := .tuple #[sv (.slice none 0 0) (.slice none 0 0), .int .i64 13]) (by simp [results, Try.results25, go_sem, k0, k1, World.cell?_setCell_other, World.cell?_setCell_same']) rfl ⟨rfl, BE⟩

set_option maxHeartbeats 2000000 in
theorem dec_e2 (t : BA) (ht : t.size ≤ maxLen) (L1 : List BA) (n1 : Nat) (h1 : getTs t = (L1, n1, 0)) (L2 : List BA) (n2 : Nat) (e2 : Int) (h2 : getTs (t.extract n1 t.size) = (L2, n2, e2)) (he : e2 ≠ 0) (w : World) :
    Calls Try.prog 25 #[.string t] w fun e w' => e = .returned (.tuple #[sv (.slice none 0 0) (.slice none 0 0), .int .i64 13]) ∧ Below w.heap.size w w' := by
  have q1 : (e2 == 0) = false := by simpa using he
  have q2 : (e2 != 0) = true := by simpa using he
  have fit := getTs_fit h1
  have fn := fit.1
  have HM := Lib.hid (show (t.extract n1 t.size).size ≤ maxLen by rw [ByteArray.size_extract]; omega)
  have H1 := Lib.hid h1
  have H2 := Lib.hid h2
  have ht2 := ht
  unfold maxLen at ht2
  clear h1 h2 he fit
  have hB := (Below.refl w.heap.size w).alloc (Nat.le_refl _) (.cells #[.slice none 0 0, .slice none 0 0] 24)
  have x := SBox.new w (.slice none 0 0) (.slice none 0 0)
  go_enter Try.func25, Try.ntmps25
  go_wp2_with fail
  ((with_reducible refine (Cd.getTexts_any t ht L1 n1 0 H1.out _).mono ?_); rintro e w1 ⟨v1, rfl, hv1, hb1⟩)
  have hv1 := Lib.hid (ofCd hv1)
  have x1 := x.below hb1 (by simp)
  have hB1 := hB.trans (hb1.mono (by simp))
  clear x hb1
  obtain ⟨p1, q1', rfl, -, -, -⟩ := id hv1.out
  go_wp2_with fail
  ((with_reducible refine (Cd.getTexts_any _ HM.out L2 n2 e2 H2.out _).mono ?_); rintro e w2 ⟨v2, rfl, hv2, hb2⟩)
  have hv1 := Lib.hid (hv1.out.below hb2 (Nat.le_refl _))
  have hv2 := Lib.hid (ofCd hv2)
  obtain ⟨p2, q2', rfl, -, -, -⟩ := id hv2.out
  have x2 := x1.below hb2 x1.lt
  have hB2 := hB1.trans (hb2.mono hB1.size)
  clear hb2 hB1 x1
  have S2 := Lib.hid (show IsSum w2 (.slice p1 L1.length q1') (.slice p2 L2.length q2') ⟨L1, L2⟩ from ⟨hv1.out, hv2.out⟩)
  clear hv1 hv2
  go_upto_region 6 with fail
  have x3 := x2.alloc (.cells #[.slice p1 L1.length q1', .slice p2 L2.length q2'] 24)
  have y3 := SBox.new w2 (.slice p1 L1.length q1') (.slice p2 L2.length q2')
  have hB3 := hB2.alloc hB2.size (.cells #[.slice p1 L1.length q1', .slice p2 L2.length q2'] 24)
  have S3 := Lib.hid (S2.out.below ((Below.refl w2.heap.size w2).alloc (Nat.le_refl _) (.cells #[.slice p1 L1.length q1', .slice p2 L2.length q2'] 24)) (Nat.le_refl _))
  generalize hw3 : w2.alloc (.cells #[.slice p1 L1.length q1', .slice p2 L2.length q2'] 24) = w3 at *
  obtain ⟨g, hg⟩ : ∃ g, w2.heap.size = g := ⟨_, rfl⟩
  rw [hg] at y3 ⊢
  clear x2 hB2 S2 hw3 hg
  have k0 := x3.c0
  have k1 := x3.c1
  have g0 := x3.f0 0
  have g1 := x3.f0 1
  have BE := (hB3.setCell (p := ⟨w.heap.size, 0, none⟩) (Nat.le_refl _) (.slice none 0 0)).setCell (p := ⟨w.heap.size, 1, none⟩) (Nat.le_refl _) (.slice none 0 0)
  clear x3
  go_wp2
  exact bodyPost_ret (v := .tuple #[sv (.slice none 0 0) (.slice none 0 0), .int .i64 13]) (by simp [results, Try.results25, go_sem, k0, k1, World.cell?_setCell_other, World.cell?_setCell_same']) rfl ⟨rfl, BE⟩

set_option maxHeartbeats 2000000 in
theorem dec_e3 (t : BA) (ht : t.size ≤ maxLen) (L1 : List BA) (n1 : Nat) (h1 : getTs t = (L1, n1, 0)) (L2 : List BA) (n2 : Nat) (h2 : getTs (t.extract n1 t.size) = (L2, n2, 0)) (hn : n1 + n2 ≠ t.size) (w : World) :
    Calls Try.prog 25 #[.string t] w fun e w' => e = .returned (.tuple #[sv (.slice none 0 0) (.slice none 0 0), .int .i64 13]) ∧ Below w.heap.size w w' := by
  have q1 : ((n1 : Int) + (n2 : Int) == (t.size : Int)) = false := by simpa using (by omega : ¬ (n1 : Int) + (n2 : Int) = (t.size : Int))
  have q2 : ((n1 : Int) + (n2 : Int) != (t.size : Int)) = true := by simpa using (by omega : ¬ (n1 : Int) + (n2 : Int) = (t.size : Int))
  have fm := (getTs_fit h2).1
  rw [ByteArray.size_extract] at fm
  have fit := getTs_fit h1
  have fn := fit.1
  have HM := Lib.hid (show (t.extract n1 t.size).size ≤ maxLen by rw [ByteArray.size_extract]; omega)
  have H1 := Lib.hid h1
  have H2 := Lib.hid h2
  have ht2 := ht
  unfold maxLen at ht2
  clear h1 h2 fit hn
  have hB := (Below.refl w.heap.size w).alloc (Nat.le_refl _) (.cells #[.slice none 0 0, .slice none 0 0] 24)
  have x := SBox.new w (.slice none 0 0) (.slice none 0 0)
  go_enter Try.func25, Try.ntmps25
  go_wp2_with fail
  ((with_reducible refine (Cd.getTexts_any t ht L1 n1 0 H1.out _).mono ?_); rintro e w1 ⟨v1, rfl, hv1, hb1⟩)
  have hv1 := Lib.hid (ofCd hv1)
  have x1 := x.below hb1 (by simp)
  have hB1 := hB.trans (hb1.mono (by simp))
  clear x hb1
  obtain ⟨p1, q1', rfl, -, -, -⟩ := id hv1.out
  go_wp2_with fail
  ((with_reducible refine (Cd.getTexts_any _ HM.out L2 n2 0 H2.out _).mono ?_); rintro e w2 ⟨v2, rfl, hv2, hb2⟩)
  have hv1 := Lib.hid (hv1.out.below hb2 (Nat.le_refl _))
  have hv2 := Lib.hid (ofCd hv2)
  obtain ⟨p2, q2', rfl, -, -, -⟩ := id hv2.out
  have x2 := x1.below hb2 x1.lt
  have hB2 := hB1.trans (hb2.mono hB1.size)
  clear hb2 hB1 x1
  have S2 := Lib.hid (show IsSum w2 (.slice p1 L1.length q1') (.slice p2 L2.length q2') ⟨L1, L2⟩ from ⟨hv1.out, hv2.out⟩)
  clear hv1 hv2
  go_upto_region 6 with fail
  have x3 := x2.alloc (.cells #[.slice p1 L1.length q1', .slice p2 L2.length q2'] 24)
  have y3 := SBox.new w2 (.slice p1 L1.length q1') (.slice p2 L2.length q2')
  have hB3 := hB2.alloc hB2.size (.cells #[.slice p1 L1.length q1', .slice p2 L2.length q2'] 24)
  have S3 := Lib.hid (S2.out.below ((Below.refl w2.heap.size w2).alloc (Nat.le_refl _) (.cells #[.slice p1 L1.length q1', .slice p2 L2.length q2'] 24)) (Nat.le_refl _))
  generalize hw3 : w2.alloc (.cells #[.slice p1 L1.length q1', .slice p2 L2.length q2'] 24) = w3 at *
  obtain ⟨g, hg⟩ : ∃ g, w2.heap.size = g := ⟨_, rfl⟩
  rw [hg] at y3 ⊢
  clear x2 hB2 S2 hw3 hg
  have k0 := x3.c0
  have k1 := x3.c1
  have g0 := x3.f0 0
  have g1 := x3.f0 1
  have BE := (hB3.setCell (p := ⟨w.heap.size, 0, none⟩) (Nat.le_refl _) (.slice none 0 0)).setCell (p := ⟨w.heap.size, 1, none⟩) (Nat.le_refl _) (.slice none 0 0)
  clear x3
  go_wp2
  exact bodyPost_ret (v := .tuple #[sv (.slice none 0 0) (.slice none 0 0), .int .i64 13]) (by simp [results, Try.results25, go_sem, k0, k1, World.cell?_setCell_other, World.cell?_setCell_same']) rfl ⟨rfl, BE⟩

set_option maxHeartbeats 2000000 in
theorem dec_e4 (t : BA) (ht : t.size ≤ maxLen) (L1 : List BA) (n1 : Nat) (h1 : getTs t = (L1, n1, 0)) (L2 : List BA) (n2 : Nat) (h2 : getTs (t.extract n1 t.size) = (L2, n2, 0)) (hn : n1 + n2 = t.size) (q : Int) (hq : chk ⟨L1, L2⟩ = q) (hq0 : q ≠ 0) (w : World) :
    Calls Try.prog 25 #[.string t] w fun e w' => e = .returned (.tuple #[sv (.slice none 0 0) (.slice none 0 0), .int .i64 13]) ∧ Below w.heap.size w w' := by
  have q1 : ((n1 : Int) + (n2 : Int) == (t.size : Int)) = true := by simpa using (by omega : (n1 : Int) + (n2 : Int) = (t.size : Int))
  have q2 : ((n1 : Int) + (n2 : Int) != (t.size : Int)) = false := by simpa using (by omega : (n1 : Int) + (n2 : Int) = (t.size : Int))
  have lm : (Sm.mk L1 L2).R.length ≤ 1000000 := by have := (getTs_fit h2).2; show L2.length ≤ _; omega
  have fm := (getTs_fit h2).1
  rw [ByteArray.size_extract] at fm
  have r1 : (q == 0) = false := by simpa using hq0
  have r2 : (q != 0) = true := by simpa using hq0
  have CK := Lib.hid hq
  have fit := getTs_fit h1
  have fn := fit.1
  have HM := Lib.hid (show (t.extract n1 t.size).size ≤ maxLen by rw [ByteArray.size_extract]; omega)
  have H1 := Lib.hid h1
  have H2 := Lib.hid h2
  have ht2 := ht
  unfold maxLen at ht2
  clear h1 h2 fit hn hq hq0
  have hB := (Below.refl w.heap.size w).alloc (Nat.le_refl _) (.cells #[.slice none 0 0, .slice none 0 0] 24)
  have x := SBox.new w (.slice none 0 0) (.slice none 0 0)
  go_enter Try.func25, Try.ntmps25
  go_wp2_with fail
  ((with_reducible refine (Cd.getTexts_any t ht L1 n1 0 H1.out _).mono ?_); rintro e w1 ⟨v1, rfl, hv1, hb1⟩)
  have hv1 := Lib.hid (ofCd hv1)
  have x1 := x.below hb1 (by simp)
  have hB1 := hB.trans (hb1.mono (by simp))
  clear x hb1
  obtain ⟨p1, q1', rfl, -, -, -⟩ := id hv1.out
  go_wp2_with fail
  ((with_reducible refine (Cd.getTexts_any _ HM.out L2 n2 0 H2.out _).mono ?_); rintro e w2 ⟨v2, rfl, hv2, hb2⟩)
  have hv1 := Lib.hid (hv1.out.below hb2 (Nat.le_refl _))
  have hv2 := Lib.hid (ofCd hv2)
  obtain ⟨p2, q2', rfl, -, -, -⟩ := id hv2.out
  have x2 := x1.below hb2 x1.lt
  have hB2 := hB1.trans (hb2.mono hB1.size)
  clear hb2 hB1 x1
  have S2 := Lib.hid (show IsSum w2 (.slice p1 L1.length q1') (.slice p2 L2.length q2') ⟨L1, L2⟩ from ⟨hv1.out, hv2.out⟩)
  clear hv1 hv2
  go_upto_region 6 with fail
  have x3 := x2.alloc (.cells #[.slice p1 L1.length q1', .slice p2 L2.length q2'] 24)
  have y3 := SBox.new w2 (.slice p1 L1.length q1') (.slice p2 L2.length q2')
  have hB3 := hB2.alloc hB2.size (.cells #[.slice p1 L1.length q1', .slice p2 L2.length q2'] 24)
  have S3 := Lib.hid (S2.out.below ((Below.refl w2.heap.size w2).alloc (Nat.le_refl _) (.cells #[.slice p1 L1.length q1', .slice p2 L2.length q2'] 24)) (Nat.le_refl _))
  generalize hw3 : w2.alloc (.cells #[.slice p1 L1.length q1', .slice p2 L2.length q2'] 24) = w3 at *
  obtain ⟨g, hg⟩ : ∃ g, w2.heap.size = g := ⟨_, rfl⟩
  rw [hg] at y3 ⊢
  clear x2 hB2 S2 hw3 hg
  have d0 := y3.c0
  have d1 := y3.c1
  go_wp2_with fail
  ((with_reducible refine (check_any ⟨L1, L2⟩ _ _ _ S3.out lm q CK.out).mono ?_); rintro e w4 ⟨rfl, hb4⟩)
  have x4 := x3.below hb4 x3.lt
  have y4 := y3.below hb4 y3.lt
  have hB4 := hB3.trans (hb4.mono hB3.size)
  have S4 := Lib.hid (S3.out.below hb4 (Nat.le_refl _))
  clear d0 d1 x3 y3 hb4 hB3
  have k0 := x4.c0
  have k1 := x4.c1
  have g0 := x4.f0 0
  have g1 := x4.f0 1
  have BE := (hB4.setCell (p := ⟨w.heap.size, 0, none⟩) (Nat.le_refl _) (.slice none 0 0)).setCell (p := ⟨w.heap.size, 1, none⟩) (Nat.le_refl _) (.slice none 0 0)
  clear x4
  go_wp2
  exact bodyPost_ret (v := .tuple #[sv (.slice none 0 0) (.slice none 0 0), .int .i64 13]) (by simp [results, Try.results25, go_sem, k0, k1, World.cell?_setCell_other, World.cell?_setCell_same']) rfl ⟨rfl, BE⟩

set_option maxHeartbeats 2000000 in
theorem dec_ok (t : BA) (ht : t.size ≤ maxLen) (L1 : List BA) (n1 : Nat) (h1 : getTs t = (L1, n1, 0)) (L2 : List BA) (n2 : Nat) (h2 : getTs (t.extract n1 t.size) = (L2, n2, 0)) (hn : n1 + n2 = t.size) (hq : chk ⟨L1, L2⟩ = 0) (w : World) :
    Calls Try.prog 25 #[.string t] w fun e w' => ∃ va vr, e = .returned (.tuple #[sv va vr, .int .i64 0]) ∧ IsSum w' va vr ⟨L1, L2⟩ ∧ Below w.heap.size w w' := by
  have q1 : ((n1 : Int) + (n2 : Int) == (t.size : Int)) = true := by simpa using (by omega : (n1 : Int) + (n2 : Int) = (t.size : Int))
  have q2 : ((n1 : Int) + (n2 : Int) != (t.size : Int)) = false := by simpa using (by omega : (n1 : Int) + (n2 : Int) = (t.size : Int))
  have lm : (Sm.mk L1 L2).R.length ≤ 1000000 := by have := (getTs_fit h2).2; show L2.length ≤ _; omega
  have fm := (getTs_fit h2).1
  rw [ByteArray.size_extract] at fm
  have CK := Lib.hid hq
  have fit := getTs_fit h1
  have fn := fit.1
  have HM := Lib.hid (show (t.extract n1 t.size).size ≤ maxLen by rw [ByteArray.size_extract]; omega)
  have H1 := Lib.hid h1
  have H2 := Lib.hid h2
  have ht2 := ht
  unfold maxLen at ht2
  clear h1 h2 fit hn hq
  have hB := (Below.refl w.heap.size w).alloc (Nat.le_refl _) (.cells #[.slice none 0 0, .slice none 0 0] 24)
  have x := SBox.new w (.slice none 0 0) (.slice none 0 0)
  go_enter Try.func25, Try.ntmps25
  go_wp2_with fail
  ((with_reducible refine (Cd.getTexts_any t ht L1 n1 0 H1.out _).mono ?_); rintro e w1 ⟨v1, rfl, hv1, hb1⟩)
  have hv1 := Lib.hid (ofCd hv1)
  have x1 := x.below hb1 (by simp)
  have hB1 := hB.trans (hb1.mono (by simp))
  clear x hb1
  obtain ⟨p1, q1', rfl, -, -, -⟩ := id hv1.out
  go_wp2_with fail
  ((with_reducible refine (Cd.getTexts_any _ HM.out L2 n2 0 H2.out _).mono ?_); rintro e w2 ⟨v2, rfl, hv2, hb2⟩)
  have hv1 := Lib.hid (hv1.out.below hb2 (Nat.le_refl _))
  have hv2 := Lib.hid (ofCd hv2)
  obtain ⟨p2, q2', rfl, -, -, -⟩ := id hv2.out
  have x2 := x1.below hb2 x1.lt
  have hB2 := hB1.trans (hb2.mono hB1.size)
  clear hb2 hB1 x1
  have S2 := Lib.hid (show IsSum w2 (.slice p1 L1.length q1') (.slice p2 L2.length q2') ⟨L1, L2⟩ from ⟨hv1.out, hv2.out⟩)
  clear hv1 hv2
  go_upto_region 6 with fail
  have x3 := x2.alloc (.cells #[.slice p1 L1.length q1', .slice p2 L2.length q2'] 24)
  have y3 := SBox.new w2 (.slice p1 L1.length q1') (.slice p2 L2.length q2')
  have hB3 := hB2.alloc hB2.size (.cells #[.slice p1 L1.length q1', .slice p2 L2.length q2'] 24)
  have S3 := Lib.hid (S2.out.below ((Below.refl w2.heap.size w2).alloc (Nat.le_refl _) (.cells #[.slice p1 L1.length q1', .slice p2 L2.length q2'] 24)) (Nat.le_refl _))
  generalize hw3 : w2.alloc (.cells #[.slice p1 L1.length q1', .slice p2 L2.length q2'] 24) = w3 at *
  obtain ⟨g, hg⟩ : ∃ g, w2.heap.size = g := ⟨_, rfl⟩
  rw [hg] at y3 ⊢
  clear x2 hB2 S2 hw3 hg
  have d0 := y3.c0
  have d1 := y3.c1
  go_wp2_with fail
  ((with_reducible refine (check_any ⟨L1, L2⟩ _ _ _ S3.out lm 0 CK.out).mono ?_); rintro e w4 ⟨rfl, hb4⟩)
  have x4 := x3.below hb4 x3.lt
  have y4 := y3.below hb4 y3.lt
  have hB4 := hB3.trans (hb4.mono hB3.size)
  have S4 := Lib.hid (S3.out.below hb4 (Nat.le_refl _))
  clear d0 d1 x3 y3 hb4 hB3
  have d0 := y4.c0
  have d1 := y4.c1
  have k0 := x4.c0
  have k1 := x4.c1
  have g0 := x4.f0 0
  have g1 := x4.f0 1
  have hz1 := x4.set0 (.slice p1 L1.length q1')
  have HF := Lib.hid (show IsSum ((w4.setCell ⟨w.heap.size, 0, none⟩ (.slice p1 L1.length q1')).setCell ⟨w.heap.size, 1, none⟩ (.slice p2 L2.length q2')) (.slice p1 L1.length q1') (.slice p2 L2.length q2') ⟨L1, L2⟩ from ⟨(S4.out.a.box x4 0 _).box hz1 1 _, (S4.out.r.box x4 0 _).box hz1 1 _⟩)
  have BE := (hB4.setCell (p := ⟨w.heap.size, 0, none⟩) (Nat.le_refl _) (.slice p1 L1.length q1')).setCell (p := ⟨w.heap.size, 1, none⟩) (Nat.le_refl _) (.slice p2 L2.length q2')
  clear x4 y4 hz1
  go_wp2
  exact bodyPost_ret (v := .tuple #[sv (.slice p1 L1.length q1') (.slice p2 L2.length q2'), .int .i64 0]) (by simp [results, Try.results25, go_sem, k0, k1, World.cell?_setCell_other, World.cell?_setCell_same']) rfl ⟨_, _, rfl, HF.out, BE⟩

/-- Decode, whatever it reads. -/
theorem dec_any (t : BA) (ht : t.size ≤ maxLen) (o : Option Sm) (ho : dec t = o) (w : World) :
    Calls Try.prog 25 #[.string t] w fun e w' => ∃ va vr, e = .returned (.tuple #[sv va vr, .int .i64 (if o = none then 13 else 0)]) ∧ IsSum w' va vr (o.getD ⟨[], []⟩) ∧ Below w.heap.size w w' := by
  have none_of : ∀ {r : Ending} {w' : World}, o = none → r = .returned (.tuple #[sv (.slice none 0 0) (.slice none 0 0), .int .i64 13]) ∧ Below w.heap.size w w' → ∃ va vr, r = .returned (.tuple #[sv va vr, .int .i64 (if o = none then 13 else 0)]) ∧ IsSum w' va vr (o.getD ⟨[], []⟩) ∧ Below w.heap.size w w' := by
    rintro r w' rfl ⟨rfl, hb⟩
    exact ⟨_, _, rfl, ⟨isStrs_nil _, isStrs_nil _⟩, hb⟩
  rcases h1 : getTs t with ⟨L1, n1, e1⟩
  unfold dec at ho
  rw [h1] at ho
  by_cases k1 : e1 = 0
  · subst k1
    rw [if_neg (by simp)] at ho
    simp only at ho
    rcases h2 : getTs (t.extract n1 t.size) with ⟨L2, n2, e2⟩
    rw [h2] at ho
    by_cases k2 : e2 = 0
    · subst k2
      rw [if_neg (by simp)] at ho
      simp only at ho
      by_cases k3 : n1 + n2 = t.size
      · rw [if_neg (by simpa using k3)] at ho
        by_cases k4 : chk ⟨L1, L2⟩ = 0
        · rw [if_neg (by simpa using k4)] at ho
          subst ho
          refine (dec_ok t ht L1 n1 h1 L2 n2 h2 k3 k4 w).mono ?_
          rintro e w' ⟨va, vr, rfl, hs, hb⟩
          exact ⟨va, vr, by simp, hs, hb⟩
        · rw [if_pos k4] at ho
          exact (dec_e4 t ht L1 n1 h1 L2 n2 h2 k3 _ rfl k4 w).mono fun e w' h => none_of ho.symm h
      · rw [if_pos k3] at ho
        exact (dec_e3 t ht L1 n1 h1 L2 n2 h2 k3 w).mono fun e w' h => none_of ho.symm h
    · rw [if_pos k2] at ho
      exact (dec_e2 t ht L1 n1 h1 L2 n2 e2 h2 k2 w).mono fun e w' h => none_of ho.symm h
  · rw [if_pos k1] at ho
    exact (dec_e1 t ht L1 n1 e1 h1 k1 w).mono fun e w' h => none_of ho.symm h

set_option maxHeartbeats 2000000 in
theorem refDec_e1 (t : BA) (ht : t.size ≤ maxLen) (L1 : List BA) (n1 : Nat) (e1 : Int) (h1 : getTs t = (L1, n1, e1)) (he : e1 ≠ 0) (w : World) :
    Calls Try.prog 26 #[.string t] w fun e w' => e = .returned (.tuple #[sv (.slice none 0 0) (.slice none 0 0), .int .i64 13]) ∧ Below w.heap.size w w' := by
  have q1 : (e1 == 0) = false := by simpa using he
  have q2 : (e1 != 0) = true := by simpa using he
  have H1 := Lib.hid h1
  clear h1 he
  have hB := (Below.refl w.heap.size w).alloc (Nat.le_refl _) (.cells #[.slice none 0 0, .slice none 0 0] 24)
  have x := SBox.new w (.slice none 0 0) (.slice none 0 0)
  go_enter Try.func26, Try.ntmps26
  go_wp2_with fail
  ((with_reducible refine (Cd.refGetTexts_any t ht L1 n1 e1 H1.out _).mono ?_); rintro e w1 ⟨v1, rfl, hv1, hb1⟩)
  have hv1 := Lib.hid (ofCd hv1)
  have x1 := x.below hb1 (by simp)
  have hB1 := hB.trans (hb1.mono (by simp))
  clear x hb1
  have k0 := x1.c0
  have k1 := x1.c1
  have g0 := x1.f0 0
  have g1 := x1.f0 1
  have BE := (hB1.setCell (p := ⟨w.heap.size, 0, none⟩) (Nat.le_refl _) (.slice none 0 0)).setCell (p := ⟨w.heap.size, 1, none⟩) (Nat.le_refl _) (.slice none 0 0)
  clear x1
  go_wp2
  exact bodyPost_ret (v := .tuple #[sv (.slice none 0 0) (.slice none 0 0), .int .i64 13]) (by simp [results, Try.results26, go_sem, k0, k1, World.cell?_setCell_other, World.cell?_setCell_same']) rfl ⟨rfl, BE⟩

set_option maxHeartbeats 2000000 in
theorem refDec_e2 (t : BA) (ht : t.size ≤ maxLen) (L1 : List BA) (n1 : Nat) (h1 : getTs t = (L1, n1, 0)) (L2 : List BA) (n2 : Nat) (e2 : Int) (h2 : getTs (t.extract n1 t.size) = (L2, n2, e2)) (he : e2 ≠ 0) (w : World) :
    Calls Try.prog 26 #[.string t] w fun e w' => e = .returned (.tuple #[sv (.slice none 0 0) (.slice none 0 0), .int .i64 13]) ∧ Below w.heap.size w w' := by
  have q1 : (e2 == 0) = false := by simpa using he
  have q2 : (e2 != 0) = true := by simpa using he
  have fit := getTs_fit h1
  have fn := fit.1
  have HM := Lib.hid (show (t.extract n1 t.size).size ≤ maxLen by rw [ByteArray.size_extract]; omega)
  have H1 := Lib.hid h1
  have H2 := Lib.hid h2
  have ht2 := ht
  unfold maxLen at ht2
  clear h1 h2 he fit
  have hB := (Below.refl w.heap.size w).alloc (Nat.le_refl _) (.cells #[.slice none 0 0, .slice none 0 0] 24)
  have x := SBox.new w (.slice none 0 0) (.slice none 0 0)
  go_enter Try.func26, Try.ntmps26
  go_wp2_with fail
  ((with_reducible refine (Cd.refGetTexts_any t ht L1 n1 0 H1.out _).mono ?_); rintro e w1 ⟨v1, rfl, hv1, hb1⟩)
  have hv1 := Lib.hid (ofCd hv1)
  have x1 := x.below hb1 (by simp)
  have hB1 := hB.trans (hb1.mono (by simp))
  clear x hb1
  obtain ⟨p1, q1', rfl, -, -, -⟩ := id hv1.out
  go_wp2_with fail
  ((with_reducible refine (Cd.refGetTexts_any _ HM.out L2 n2 e2 H2.out _).mono ?_); rintro e w2 ⟨v2, rfl, hv2, hb2⟩)
  have hv1 := Lib.hid (hv1.out.below hb2 (Nat.le_refl _))
  have hv2 := Lib.hid (ofCd hv2)
  obtain ⟨p2, q2', rfl, -, -, -⟩ := id hv2.out
  have x2 := x1.below hb2 x1.lt
  have hB2 := hB1.trans (hb2.mono hB1.size)
  clear hb2 hB1 x1
  have S2 := Lib.hid (show IsSum w2 (.slice p1 L1.length q1') (.slice p2 L2.length q2') ⟨L1, L2⟩ from ⟨hv1.out, hv2.out⟩)
  clear hv1 hv2
  go_upto_region 6 with fail
  have x3 := x2.alloc (.cells #[.slice p1 L1.length q1', .slice p2 L2.length q2'] 24)
  have y3 := SBox.new w2 (.slice p1 L1.length q1') (.slice p2 L2.length q2')
  have hB3 := hB2.alloc hB2.size (.cells #[.slice p1 L1.length q1', .slice p2 L2.length q2'] 24)
  have S3 := Lib.hid (S2.out.below ((Below.refl w2.heap.size w2).alloc (Nat.le_refl _) (.cells #[.slice p1 L1.length q1', .slice p2 L2.length q2'] 24)) (Nat.le_refl _))
  generalize hw3 : w2.alloc (.cells #[.slice p1 L1.length q1', .slice p2 L2.length q2'] 24) = w3 at *
  obtain ⟨g, hg⟩ : ∃ g, w2.heap.size = g := ⟨_, rfl⟩
  rw [hg] at y3 ⊢
  clear x2 hB2 S2 hw3 hg
  have k0 := x3.c0
  have k1 := x3.c1
  have g0 := x3.f0 0
  have g1 := x3.f0 1
  have BE := (hB3.setCell (p := ⟨w.heap.size, 0, none⟩) (Nat.le_refl _) (.slice none 0 0)).setCell (p := ⟨w.heap.size, 1, none⟩) (Nat.le_refl _) (.slice none 0 0)
  clear x3
  go_wp2
  exact bodyPost_ret (v := .tuple #[sv (.slice none 0 0) (.slice none 0 0), .int .i64 13]) (by simp [results, Try.results26, go_sem, k0, k1, World.cell?_setCell_other, World.cell?_setCell_same']) rfl ⟨rfl, BE⟩

set_option maxHeartbeats 2000000 in
theorem refDec_e3 (t : BA) (ht : t.size ≤ maxLen) (L1 : List BA) (n1 : Nat) (h1 : getTs t = (L1, n1, 0)) (L2 : List BA) (n2 : Nat) (h2 : getTs (t.extract n1 t.size) = (L2, n2, 0)) (hn : n1 + n2 ≠ t.size) (w : World) :
    Calls Try.prog 26 #[.string t] w fun e w' => e = .returned (.tuple #[sv (.slice none 0 0) (.slice none 0 0), .int .i64 13]) ∧ Below w.heap.size w w' := by
  have q1 : ((n1 : Int) + (n2 : Int) == (t.size : Int)) = false := by simpa using (by omega : ¬ (n1 : Int) + (n2 : Int) = (t.size : Int))
  have q2 : ((n1 : Int) + (n2 : Int) != (t.size : Int)) = true := by simpa using (by omega : ¬ (n1 : Int) + (n2 : Int) = (t.size : Int))
  have fm := (getTs_fit h2).1
  rw [ByteArray.size_extract] at fm
  have fit := getTs_fit h1
  have fn := fit.1
  have HM := Lib.hid (show (t.extract n1 t.size).size ≤ maxLen by rw [ByteArray.size_extract]; omega)
  have H1 := Lib.hid h1
  have H2 := Lib.hid h2
  have ht2 := ht
  unfold maxLen at ht2
  clear h1 h2 fit hn
  have hB := (Below.refl w.heap.size w).alloc (Nat.le_refl _) (.cells #[.slice none 0 0, .slice none 0 0] 24)
  have x := SBox.new w (.slice none 0 0) (.slice none 0 0)
  go_enter Try.func26, Try.ntmps26
  go_wp2_with fail
  ((with_reducible refine (Cd.refGetTexts_any t ht L1 n1 0 H1.out _).mono ?_); rintro e w1 ⟨v1, rfl, hv1, hb1⟩)
  have hv1 := Lib.hid (ofCd hv1)
  have x1 := x.below hb1 (by simp)
  have hB1 := hB.trans (hb1.mono (by simp))
  clear x hb1
  obtain ⟨p1, q1', rfl, -, -, -⟩ := id hv1.out
  go_wp2_with fail
  ((with_reducible refine (Cd.refGetTexts_any _ HM.out L2 n2 0 H2.out _).mono ?_); rintro e w2 ⟨v2, rfl, hv2, hb2⟩)
  have hv1 := Lib.hid (hv1.out.below hb2 (Nat.le_refl _))
  have hv2 := Lib.hid (ofCd hv2)
  obtain ⟨p2, q2', rfl, -, -, -⟩ := id hv2.out
  have x2 := x1.below hb2 x1.lt
  have hB2 := hB1.trans (hb2.mono hB1.size)
  clear hb2 hB1 x1
  have S2 := Lib.hid (show IsSum w2 (.slice p1 L1.length q1') (.slice p2 L2.length q2') ⟨L1, L2⟩ from ⟨hv1.out, hv2.out⟩)
  clear hv1 hv2
  go_upto_region 6 with fail
  have x3 := x2.alloc (.cells #[.slice p1 L1.length q1', .slice p2 L2.length q2'] 24)
  have y3 := SBox.new w2 (.slice p1 L1.length q1') (.slice p2 L2.length q2')
  have hB3 := hB2.alloc hB2.size (.cells #[.slice p1 L1.length q1', .slice p2 L2.length q2'] 24)
  have S3 := Lib.hid (S2.out.below ((Below.refl w2.heap.size w2).alloc (Nat.le_refl _) (.cells #[.slice p1 L1.length q1', .slice p2 L2.length q2'] 24)) (Nat.le_refl _))
  generalize hw3 : w2.alloc (.cells #[.slice p1 L1.length q1', .slice p2 L2.length q2'] 24) = w3 at *
  obtain ⟨g, hg⟩ : ∃ g, w2.heap.size = g := ⟨_, rfl⟩
  rw [hg] at y3 ⊢
  clear x2 hB2 S2 hw3 hg
  have k0 := x3.c0
  have k1 := x3.c1
  have g0 := x3.f0 0
  have g1 := x3.f0 1
  have BE := (hB3.setCell (p := ⟨w.heap.size, 0, none⟩) (Nat.le_refl _) (.slice none 0 0)).setCell (p := ⟨w.heap.size, 1, none⟩) (Nat.le_refl _) (.slice none 0 0)
  clear x3
  go_wp2
  exact bodyPost_ret (v := .tuple #[sv (.slice none 0 0) (.slice none 0 0), .int .i64 13]) (by simp [results, Try.results26, go_sem, k0, k1, World.cell?_setCell_other, World.cell?_setCell_same']) rfl ⟨rfl, BE⟩

set_option maxHeartbeats 2000000 in
theorem refDec_e4 (t : BA) (ht : t.size ≤ maxLen) (L1 : List BA) (n1 : Nat) (h1 : getTs t = (L1, n1, 0)) (L2 : List BA) (n2 : Nat) (h2 : getTs (t.extract n1 t.size) = (L2, n2, 0)) (hn : n1 + n2 = t.size) (q : Int) (hq : chk ⟨L1, L2⟩ = q) (hq0 : q ≠ 0) (w : World) :
    Calls Try.prog 26 #[.string t] w fun e w' => e = .returned (.tuple #[sv (.slice none 0 0) (.slice none 0 0), .int .i64 13]) ∧ Below w.heap.size w w' := by
  have q1 : ((n1 : Int) + (n2 : Int) == (t.size : Int)) = true := by simpa using (by omega : (n1 : Int) + (n2 : Int) = (t.size : Int))
  have q2 : ((n1 : Int) + (n2 : Int) != (t.size : Int)) = false := by simpa using (by omega : (n1 : Int) + (n2 : Int) = (t.size : Int))
  have lm : (Sm.mk L1 L2).R.length ≤ 1000000 := by have := (getTs_fit h2).2; show L2.length ≤ _; omega
  have fm := (getTs_fit h2).1
  rw [ByteArray.size_extract] at fm
  have r1 : (q == 0) = false := by simpa using hq0
  have r2 : (q != 0) = true := by simpa using hq0
  have CK := Lib.hid hq
  have fit := getTs_fit h1
  have fn := fit.1
  have HM := Lib.hid (show (t.extract n1 t.size).size ≤ maxLen by rw [ByteArray.size_extract]; omega)
  have H1 := Lib.hid h1
  have H2 := Lib.hid h2
  have ht2 := ht
  unfold maxLen at ht2
  clear h1 h2 fit hn hq hq0
  have hB := (Below.refl w.heap.size w).alloc (Nat.le_refl _) (.cells #[.slice none 0 0, .slice none 0 0] 24)
  have x := SBox.new w (.slice none 0 0) (.slice none 0 0)
  go_enter Try.func26, Try.ntmps26
  go_wp2_with fail
  ((with_reducible refine (Cd.refGetTexts_any t ht L1 n1 0 H1.out _).mono ?_); rintro e w1 ⟨v1, rfl, hv1, hb1⟩)
  have hv1 := Lib.hid (ofCd hv1)
  have x1 := x.below hb1 (by simp)
  have hB1 := hB.trans (hb1.mono (by simp))
  clear x hb1
  obtain ⟨p1, q1', rfl, -, -, -⟩ := id hv1.out
  go_wp2_with fail
  ((with_reducible refine (Cd.refGetTexts_any _ HM.out L2 n2 0 H2.out _).mono ?_); rintro e w2 ⟨v2, rfl, hv2, hb2⟩)
  have hv1 := Lib.hid (hv1.out.below hb2 (Nat.le_refl _))
  have hv2 := Lib.hid (ofCd hv2)
  obtain ⟨p2, q2', rfl, -, -, -⟩ := id hv2.out
  have x2 := x1.below hb2 x1.lt
  have hB2 := hB1.trans (hb2.mono hB1.size)
  clear hb2 hB1 x1
  have S2 := Lib.hid (show IsSum w2 (.slice p1 L1.length q1') (.slice p2 L2.length q2') ⟨L1, L2⟩ from ⟨hv1.out, hv2.out⟩)
  clear hv1 hv2
  go_upto_region 6 with fail
  have x3 := x2.alloc (.cells #[.slice p1 L1.length q1', .slice p2 L2.length q2'] 24)
  have y3 := SBox.new w2 (.slice p1 L1.length q1') (.slice p2 L2.length q2')
  have hB3 := hB2.alloc hB2.size (.cells #[.slice p1 L1.length q1', .slice p2 L2.length q2'] 24)
  have S3 := Lib.hid (S2.out.below ((Below.refl w2.heap.size w2).alloc (Nat.le_refl _) (.cells #[.slice p1 L1.length q1', .slice p2 L2.length q2'] 24)) (Nat.le_refl _))
  generalize hw3 : w2.alloc (.cells #[.slice p1 L1.length q1', .slice p2 L2.length q2'] 24) = w3 at *
  obtain ⟨g, hg⟩ : ∃ g, w2.heap.size = g := ⟨_, rfl⟩
  rw [hg] at y3 ⊢
  clear x2 hB2 S2 hw3 hg
  have d0 := y3.c0
  have d1 := y3.c1
  go_wp2_with fail
  ((with_reducible refine (refCheck_any ⟨L1, L2⟩ _ _ _ S3.out lm q CK.out).mono ?_); rintro e w4 ⟨rfl, hb4⟩)
  have x4 := x3.below hb4 x3.lt
  have y4 := y3.below hb4 y3.lt
  have hB4 := hB3.trans (hb4.mono hB3.size)
  have S4 := Lib.hid (S3.out.below hb4 (Nat.le_refl _))
  clear d0 d1 x3 y3 hb4 hB3
  have k0 := x4.c0
  have k1 := x4.c1
  have g0 := x4.f0 0
  have g1 := x4.f0 1
  have BE := (hB4.setCell (p := ⟨w.heap.size, 0, none⟩) (Nat.le_refl _) (.slice none 0 0)).setCell (p := ⟨w.heap.size, 1, none⟩) (Nat.le_refl _) (.slice none 0 0)
  clear x4
  go_wp2
  exact bodyPost_ret (v := .tuple #[sv (.slice none 0 0) (.slice none 0 0), .int .i64 13]) (by simp [results, Try.results26, go_sem, k0, k1, World.cell?_setCell_other, World.cell?_setCell_same']) rfl ⟨rfl, BE⟩

set_option maxHeartbeats 2000000 in
theorem refDec_ok (t : BA) (ht : t.size ≤ maxLen) (L1 : List BA) (n1 : Nat) (h1 : getTs t = (L1, n1, 0)) (L2 : List BA) (n2 : Nat) (h2 : getTs (t.extract n1 t.size) = (L2, n2, 0)) (hn : n1 + n2 = t.size) (hq : chk ⟨L1, L2⟩ = 0) (w : World) :
    Calls Try.prog 26 #[.string t] w fun e w' => ∃ va vr, e = .returned (.tuple #[sv va vr, .int .i64 0]) ∧ IsSum w' va vr ⟨L1, L2⟩ ∧ Below w.heap.size w w' := by
  have q1 : ((n1 : Int) + (n2 : Int) == (t.size : Int)) = true := by simpa using (by omega : (n1 : Int) + (n2 : Int) = (t.size : Int))
  have q2 : ((n1 : Int) + (n2 : Int) != (t.size : Int)) = false := by simpa using (by omega : (n1 : Int) + (n2 : Int) = (t.size : Int))
  have lm : (Sm.mk L1 L2).R.length ≤ 1000000 := by have := (getTs_fit h2).2; show L2.length ≤ _; omega
  have fm := (getTs_fit h2).1
  rw [ByteArray.size_extract] at fm
  have CK := Lib.hid hq
  have fit := getTs_fit h1
  have fn := fit.1
  have HM := Lib.hid (show (t.extract n1 t.size).size ≤ maxLen by rw [ByteArray.size_extract]; omega)
  have H1 := Lib.hid h1
  have H2 := Lib.hid h2
  have ht2 := ht
  unfold maxLen at ht2
  clear h1 h2 fit hn hq
  have hB := (Below.refl w.heap.size w).alloc (Nat.le_refl _) (.cells #[.slice none 0 0, .slice none 0 0] 24)
  have x := SBox.new w (.slice none 0 0) (.slice none 0 0)
  go_enter Try.func26, Try.ntmps26
  go_wp2_with fail
  ((with_reducible refine (Cd.refGetTexts_any t ht L1 n1 0 H1.out _).mono ?_); rintro e w1 ⟨v1, rfl, hv1, hb1⟩)
  have hv1 := Lib.hid (ofCd hv1)
  have x1 := x.below hb1 (by simp)
  have hB1 := hB.trans (hb1.mono (by simp))
  clear x hb1
  obtain ⟨p1, q1', rfl, -, -, -⟩ := id hv1.out
  go_wp2_with fail
  ((with_reducible refine (Cd.refGetTexts_any _ HM.out L2 n2 0 H2.out _).mono ?_); rintro e w2 ⟨v2, rfl, hv2, hb2⟩)
  have hv1 := Lib.hid (hv1.out.below hb2 (Nat.le_refl _))
  have hv2 := Lib.hid (ofCd hv2)
  obtain ⟨p2, q2', rfl, -, -, -⟩ := id hv2.out
  have x2 := x1.below hb2 x1.lt
  have hB2 := hB1.trans (hb2.mono hB1.size)
  clear hb2 hB1 x1
  have S2 := Lib.hid (show IsSum w2 (.slice p1 L1.length q1') (.slice p2 L2.length q2') ⟨L1, L2⟩ from ⟨hv1.out, hv2.out⟩)
  clear hv1 hv2
  go_upto_region 6 with fail
  have x3 := x2.alloc (.cells #[.slice p1 L1.length q1', .slice p2 L2.length q2'] 24)
  have y3 := SBox.new w2 (.slice p1 L1.length q1') (.slice p2 L2.length q2')
  have hB3 := hB2.alloc hB2.size (.cells #[.slice p1 L1.length q1', .slice p2 L2.length q2'] 24)
  have S3 := Lib.hid (S2.out.below ((Below.refl w2.heap.size w2).alloc (Nat.le_refl _) (.cells #[.slice p1 L1.length q1', .slice p2 L2.length q2'] 24)) (Nat.le_refl _))
  generalize hw3 : w2.alloc (.cells #[.slice p1 L1.length q1', .slice p2 L2.length q2'] 24) = w3 at *
  obtain ⟨g, hg⟩ : ∃ g, w2.heap.size = g := ⟨_, rfl⟩
  rw [hg] at y3 ⊢
  clear x2 hB2 S2 hw3 hg
  have d0 := y3.c0
  have d1 := y3.c1
  go_wp2_with fail
  ((with_reducible refine (refCheck_any ⟨L1, L2⟩ _ _ _ S3.out lm 0 CK.out).mono ?_); rintro e w4 ⟨rfl, hb4⟩)
  have x4 := x3.below hb4 x3.lt
  have y4 := y3.below hb4 y3.lt
  have hB4 := hB3.trans (hb4.mono hB3.size)
  have S4 := Lib.hid (S3.out.below hb4 (Nat.le_refl _))
  clear d0 d1 x3 y3 hb4 hB3
  have d0 := y4.c0
  have d1 := y4.c1
  have k0 := x4.c0
  have k1 := x4.c1
  have g0 := x4.f0 0
  have g1 := x4.f0 1
  have hz1 := x4.set0 (.slice p1 L1.length q1')
  have HF := Lib.hid (show IsSum ((w4.setCell ⟨w.heap.size, 0, none⟩ (.slice p1 L1.length q1')).setCell ⟨w.heap.size, 1, none⟩ (.slice p2 L2.length q2')) (.slice p1 L1.length q1') (.slice p2 L2.length q2') ⟨L1, L2⟩ from ⟨(S4.out.a.box x4 0 _).box hz1 1 _, (S4.out.r.box x4 0 _).box hz1 1 _⟩)
  have BE := (hB4.setCell (p := ⟨w.heap.size, 0, none⟩) (Nat.le_refl _) (.slice p1 L1.length q1')).setCell (p := ⟨w.heap.size, 1, none⟩) (Nat.le_refl _) (.slice p2 L2.length q2')
  clear x4 y4 hz1
  go_wp2
  exact bodyPost_ret (v := .tuple #[sv (.slice p1 L1.length q1') (.slice p2 L2.length q2'), .int .i64 0]) (by simp [results, Try.results26, go_sem, k0, k1, World.cell?_setCell_other, World.cell?_setCell_same']) rfl ⟨_, _, rfl, HF.out, BE⟩

/-- Decode, whatever it reads. -/
theorem refDec_any (t : BA) (ht : t.size ≤ maxLen) (o : Option Sm) (ho : dec t = o) (w : World) :
    Calls Try.prog 26 #[.string t] w fun e w' => ∃ va vr, e = .returned (.tuple #[sv va vr, .int .i64 (if o = none then 13 else 0)]) ∧ IsSum w' va vr (o.getD ⟨[], []⟩) ∧ Below w.heap.size w w' := by
  have none_of : ∀ {r : Ending} {w' : World}, o = none → r = .returned (.tuple #[sv (.slice none 0 0) (.slice none 0 0), .int .i64 13]) ∧ Below w.heap.size w w' → ∃ va vr, r = .returned (.tuple #[sv va vr, .int .i64 (if o = none then 13 else 0)]) ∧ IsSum w' va vr (o.getD ⟨[], []⟩) ∧ Below w.heap.size w w' := by
    rintro r w' rfl ⟨rfl, hb⟩
    exact ⟨_, _, rfl, ⟨isStrs_nil _, isStrs_nil _⟩, hb⟩
  rcases h1 : getTs t with ⟨L1, n1, e1⟩
  unfold dec at ho
  rw [h1] at ho
  by_cases k1 : e1 = 0
  · subst k1
    rw [if_neg (by simp)] at ho
    simp only at ho
    rcases h2 : getTs (t.extract n1 t.size) with ⟨L2, n2, e2⟩
    rw [h2] at ho
    by_cases k2 : e2 = 0
    · subst k2
      rw [if_neg (by simp)] at ho
      simp only at ho
      by_cases k3 : n1 + n2 = t.size
      · rw [if_neg (by simpa using k3)] at ho
        by_cases k4 : chk ⟨L1, L2⟩ = 0
        · rw [if_neg (by simpa using k4)] at ho
          subst ho
          refine (refDec_ok t ht L1 n1 h1 L2 n2 h2 k3 k4 w).mono ?_
          rintro e w' ⟨va, vr, rfl, hs, hb⟩
          exact ⟨va, vr, by simp, hs, hb⟩
        · rw [if_pos k4] at ho
          exact (refDec_e4 t ht L1 n1 h1 L2 n2 h2 k3 _ rfl k4 w).mono fun e w' h => none_of ho.symm h
      · rw [if_pos k3] at ho
        exact (refDec_e3 t ht L1 n1 h1 L2 n2 h2 k3 w).mono fun e w' h => none_of ho.symm h
    · rw [if_pos k2] at ho
      exact (refDec_e2 t ht L1 n1 h1 L2 n2 e2 h2 k2 w).mono fun e w' h => none_of ho.symm h
  · rw [if_pos k1] at ho
    exact (refDec_e1 t ht L1 n1 e1 h1 k1 w).mono fun e w' h => none_of ho.symm h
end Go.Proofs.Ytgnkfikihjjpeaa
