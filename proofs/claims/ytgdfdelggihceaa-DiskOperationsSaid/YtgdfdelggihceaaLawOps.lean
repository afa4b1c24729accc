/- For every disk, sector and data DiskOperations returns true and leaves its arguments as they were: Check, Read, Write and Sync answer as the reference's. No condition. -/
import Derived.Test.YtgdfdelggihceaaRefWrite2
import Derived.Test.YtgdfdelggihceaaReadBad
import Derived.Test.YtgdfdelggihceaaLawCut
namespace Go.Proofs.Ytgdfdelggihceaa
open Go.ChangeShapes Go.WideShapes Go.ChangeAt Go.RowKit
open Go.ChangeMaps (open_string shut_string)

set_option maxHeartbeats 2000000 in
theorem opsLaw_out (D : Dk) (v : Value) (s : Int) (x : ByteArray) (hx : x.size ≤ maxLen) (w : World) (hv : IsDisk w v D)
    (h : (12 < D.secs.length ∨ 12 < D.pend.length ∨ 40 < D.size) ∨ (D.secs.length ≤ 12 ∧ D.pend.length ≤ 12 ∧ D.size ≤ 40 ∧ 60 < x.size)) :
    Calls Try.prog 4 #[v, .int .i64 s, .string x] w fun e w' => e = .returned (.bool true) ∧ Below w.heap.size w w' := by
  have hv0 := Lib.hid hv
  obtain ⟨_, _, rfl, ⟨a0, cap, rfl, _, _, _⟩, ⟨b0, cap2, rfl, _, _, _⟩⟩ := hv
  unfold maxLen at hx
  have hB := (Below.refl w.heap.size w).alloc (Nat.le_refl _) (.cells #[.int .i64 D.size, .slice a0 D.secs.length cap, .slice b0 D.pend.length cap2, .int .i64 D.left] 26)
  rcases h with h | ⟨h1, h2, h3, h⟩
  · have H := Lib.hid h
    clear h
    go_enter Try.func4, Try.ntmps4
    go_wp2_with fail
    ((with_reducible refine (great_yes D _ _ (hv0.out.below hB (Nat.le_refl _)) H.out).mono ?_); rintro e w1 ⟨rfl, hb1⟩)
    have B1 := hB.trans (hb1.mono hB.size)
    go_wp2_with fail
    ((with_reducible refine (awake_any _).mono ?_); rintro e w2 ⟨rfl, hb2⟩)
    go_wp2
    go_ret
    exact ⟨rfl, B1.trans (hb2.mono B1.size)⟩
  · have hp : (60 : Int) < x.size := by omega
    go_enter Try.func4, Try.ntmps4
    go_wp2_with fail
    ((with_reducible refine (great_no D _ _ (hv0.out.below hB (Nat.le_refl _)) h1 h2 h3).mono ?_); rintro e w1 ⟨rfl, hb1⟩)
    have B1 := hB.trans (hb1.mono hB.size)
    go_wp2_with fail
    ((with_reducible refine (awake_any _).mono ?_); rintro e w2 ⟨rfl, hb2⟩)
    go_wp2
    go_ret
    exact ⟨rfl, B1.trans (hb2.mono B1.size)⟩

/-- The five boxes of the law. -/
structure Five (N0 N1 N2 N3 N4 : Nat) (s0 l0 s1 l1 s2 l2 s3 l3 s4 l4 : Int) (x0 y0 x1 y1 x2 y2 x3 y3 x4 y4 : Value) (W : World) : Prop where
  b0 : Bx N0 s0 x0 y0 l0 W
  b1 : Bx N1 s1 x1 y1 l1 W
  b2 : Bx N2 s2 x2 y2 l2 W
  b3 : Bx N3 s3 x3 y3 l3 W
  b4 : Bx N4 s4 x4 y4 l4 W
section
variable {N0 N1 N2 N3 N4 : Nat} {s0 l0 s1 l1 s2 l2 s3 l3 s4 l4 : Int} {x0 y0 x1 y1 x2 y2 x3 y3 x4 y4 : Value} {W W' : World}
theorem Five.on (h : Five N0 N1 N2 N3 N4 s0 l0 s1 l1 s2 l2 s3 l3 s4 l4 x0 y0 x1 y1 x2 y2 x3 y3 x4 y4 W) (hB : Below W.heap.size W W') : Five N0 N1 N2 N3 N4 s0 l0 s1 l1 s2 l2 s3 l3 s4 l4 x0 y0 x1 y1 x2 y2 x3 y3 x4 y4 W' :=
  ⟨h.b0.below hB h.b0.lt, h.b1.below hB h.b1.lt, h.b2.below hB h.b2.lt, h.b3.below hB h.b3.lt, h.b4.below hB h.b4.lt⟩
theorem Five.drew (h : Five N0 N1 N2 N3 N4 s0 l0 s1 l1 s2 l2 s3 l3 s4 l4 x0 y0 x1 y1 x2 y2 x3 y3 x4 y4 W) : Five N0 N1 N2 N3 N4 s0 l0 s1 l1 s2 l2 s3 l3 s4 l4 x0 y0 x1 y1 x2 y2 x3 y3 x4 y4 W.drew :=
  ⟨h.b0.drew, h.b1.drew, h.b2.drew, h.b3.drew, h.b4.drew⟩
theorem Five.cells (h : Five N0 N1 N2 N3 N4 s0 l0 s1 l1 s2 l2 s3 l3 s4 l4 x0 y0 x1 y1 x2 y2 x3 y3 x4 y4 W) :
    W.cell? ⟨N0, 0, none⟩ = some (.int .i64 s0) ∧ W.cell? ⟨N0, 1, none⟩ = some x0 ∧ W.cell? ⟨N0, 2, none⟩ = some y0 ∧ W.cell? ⟨N0, 3, none⟩ = some (.int .i64 l0) ∧
    W.cell? ⟨N1, 0, none⟩ = some (.int .i64 s1) ∧ W.cell? ⟨N1, 1, none⟩ = some x1 ∧ W.cell? ⟨N1, 2, none⟩ = some y1 ∧ W.cell? ⟨N1, 3, none⟩ = some (.int .i64 l1) ∧
    W.cell? ⟨N2, 0, none⟩ = some (.int .i64 s2) ∧ W.cell? ⟨N2, 1, none⟩ = some x2 ∧ W.cell? ⟨N2, 2, none⟩ = some y2 ∧ W.cell? ⟨N2, 3, none⟩ = some (.int .i64 l2) ∧
    W.cell? ⟨N3, 0, none⟩ = some (.int .i64 s3) ∧ W.cell? ⟨N3, 1, none⟩ = some x3 ∧ W.cell? ⟨N3, 2, none⟩ = some y3 ∧ W.cell? ⟨N3, 3, none⟩ = some (.int .i64 l3) ∧
    W.cell? ⟨N4, 0, none⟩ = some (.int .i64 s4) ∧ W.cell? ⟨N4, 1, none⟩ = some x4 ∧ W.cell? ⟨N4, 2, none⟩ = some y4 ∧ W.cell? ⟨N4, 3, none⟩ = some (.int .i64 l4) :=
  ⟨h.b0.c0, h.b0.c1, h.b0.c2, h.b0.c3, h.b1.c0, h.b1.c1, h.b1.c2, h.b1.c3, h.b2.c0, h.b2.c1, h.b2.c2, h.b2.c3, h.b3.c0, h.b3.c1, h.b3.c2, h.b3.c3, h.b4.c0, h.b4.c1, h.b4.c2, h.b4.c3⟩
end

set_option maxHeartbeats 8000000 in
theorem opsLaw_main (D A X : Dk) (v : Value) (s : Int) (x : ByteArray) (hx : x.size ≤ 60) (w : World) (hv : IsDisk w v D) (h1 : D.secs.length ≤ 12) (h2 : D.pend.length ≤ 12) (h3 : D.size ≤ 40) (r : ByteArray) (er ew es c : Int)
    (R1 : ∀ W, Below w.heap.size w W → Calls Try.prog 16 #[v, .int .i64 s] W fun e w' => e = .returned (.tuple #[.string r, .int .i64 er]) ∧ Below W.heap.size W w')
    (R2 : ∀ W, Below w.heap.size w W → Calls Try.prog 17 #[v, .int .i64 s] W fun e w' => e = .returned (.tuple #[.string r, .int .i64 er]) ∧ Below W.heap.size W w')
    (W1 : ∀ W, Below w.heap.size w W → Calls Try.prog 18 #[v, .int .i64 s, .string x] W fun e w' => ∃ v', e = .returned (.tuple #[v', .int .i64 ew]) ∧ IsDisk w' v' A ∧ Below W.heap.size W w')
    (W2 : ∀ W, Below w.heap.size w W → Calls Try.prog 19 #[v, .int .i64 s, .string x] W fun e w' => ∃ v', e = .returned (.tuple #[v', .int .i64 ew]) ∧ IsDisk w' v' A ∧ Below W.heap.size W w')
    (S1 : ∀ W, Below w.heap.size w W → Calls Try.prog 20 #[v] W fun e w' => ∃ v', e = .returned (.tuple #[v', .int .i64 es]) ∧ IsDisk w' v' X ∧ Below W.heap.size W w')
    (S2 : ∀ W, Below w.heap.size w W → Calls Try.prog 21 #[v] W fun e w' => ∃ v', e = .returned (.tuple #[v', .int .i64 es]) ∧ IsDisk w' v' X ∧ Below W.heap.size W w')
    (K1 : ∀ W, Below w.heap.size w W → Calls Try.prog 22 #[v] W fun e w' => e = .returned (.int .i64 c) ∧ Below W.heap.size W w')
    (K2 : ∀ W, Below w.heap.size w W → Calls Try.prog 23 #[v] W fun e w' => e = .returned (.int .i64 c) ∧ Below W.heap.size W w') :
    Calls Try.prog 4 #[v, .int .i64 s, .string x] w fun e w' => e = .returned (.bool true) ∧ Below w.heap.size w w' := by
  have hv0 := Lib.hid hv
  obtain ⟨_, _, rfl, ⟨a0, cap, rfl, _, _, _⟩, ⟨b0, cap2, rfl, _, _, _⟩⟩ := hv
  have hB := (Below.refl w.heap.size w).alloc (Nat.le_refl _) (.cells #[.int .i64 D.size, .slice a0 D.secs.length cap, .slice b0 D.pend.length cap2, .int .i64 D.left] 26)
  have x0 := Bx.fresh D.size (.slice a0 D.secs.length cap) (.slice b0 D.pend.length cap2) D.left w
  have hp : ¬ (60 : Int) < x.size := by omega
  have HR1 := Lib.hid R1
  have HR2 := Lib.hid R2
  have HW1 := Lib.hid W1
  have HW2 := Lib.hid W2
  have HS1 := Lib.hid S1
  have HS2 := Lib.hid S2
  have HK1 := Lib.hid K1
  have HK2 := Lib.hid K2
  clear R1 R2 W1 W2 S1 S2 K1 K2
  go_enter Try.func4, Try.ntmps4
  go_wp2_with fail
  ((with_reducible refine (great_no D _ _ (hv0.out.below hB (Nat.le_refl _)) h1 h2 h3).mono ?_); rintro e w1 ⟨rfl, hb1⟩)
  have B1 := hB.trans (hb1.mono hB.size)
  have X1 := Lib.hid (x0.below hb1 x0.lt)
  clear hb1 hB x0
  obtain ⟨q0, q1, q2, q3, g0, g1, g2, g3, qlt⟩ := X1.out
  go_wp2_with fail
  ((with_reducible refine (HR1.out _ B1).mono ?_); rintro e w2 ⟨rfl, hb2⟩)
  have B2 := B1.trans (hb2.mono B1.size)
  have X2 := Lib.hid (X1.out.below hb2 X1.out.lt)
  clear hb2 q0 q1 q2 q3 g0 g1 g2 g3 qlt X1
  obtain ⟨q0, q1, q2, q3, g0, g1, g2, g3, qlt⟩ := X2.out
  go_wp2_with fail
  ((with_reducible refine (HR2.out _ B2).mono ?_); rintro e w3 ⟨rfl, hb3⟩)
  have B3 := B2.trans (hb3.mono B2.size)
  have X3 := Lib.hid (X2.out.below hb3 X2.out.lt)
  clear hb3 q0 q1 q2 q3 g0 g1 g2 g3 qlt X2
  obtain ⟨q0, q1, q2, q3, g0, g1, g2, g3, qlt⟩ := X3.out
  go_wp2_with fail
  ((with_reducible refine (HW1.out _ B3).mono ?_); rintro e w4 ⟨v4, rfl, d4, hb4⟩)
  have DD4 := Lib.hid d4
  obtain ⟨_, _, rfl, ⟨a4, cap4, rfl, _, _, _⟩, ⟨b4, cap4', rfl, _, _, _⟩⟩ := d4
  have hb4 := hb4.alloc hb4.size (.cells #[.int .i64 A.size, .slice a4 A.secs.length cap4, .slice b4 A.pend.length cap4', .int .i64 A.left] 26)
  have B5 := B3.trans (hb4.mono B3.size)
  have X5 := Lib.hid (X3.out.below hb4 X3.out.lt)
  have Y4_5 := Lib.hid (Bx.fresh A.size (.slice a4 A.secs.length cap4) (.slice b4 A.pend.length cap4') A.left w4)
  have D4_5 := Lib.hid (DD4.out.below ((Below.refl _ w4).alloc (Nat.le_refl _) (.cells #[.int .i64 A.size, .slice a4 A.secs.length cap4, .slice b4 A.pend.length cap4', .int .i64 A.left] 26)) (Nat.le_refl _))
  clear hb4 DD4 q0 q1 q2 q3 g0 g1 g2 g3 qlt X3 
  obtain ⟨q0, q1, q2, q3, g0, g1, g2, g3, qlt⟩ := X5.out
  go_wp2_with fail
  clear q0 q1 q2 q3 g0 g1 g2 g3 qlt
  generalize w4.alloc (.cells #[.int .i64 A.size, .slice a4 A.secs.length cap4, .slice b4 A.pend.length cap4', .int .i64 A.left] 26) = w5 at B5 X5 Y4_5 D4_5 ⊢
  obtain ⟨q0, q1, q2, q3, g0, g1, g2, g3, qlt⟩ := X5.out
  go_wp2_with fail
  ((with_reducible refine (HW2.out _ B5).mono ?_); rintro e w6 ⟨v6, rfl, d6, hb6⟩)
  have DD6 := Lib.hid d6
  obtain ⟨_, _, rfl, ⟨a6, cap6, rfl, _, _, _⟩, ⟨b6, cap6', rfl, _, _, _⟩⟩ := d6
  have hb6 := hb6.alloc hb6.size (.cells #[.int .i64 A.size, .slice a6 A.secs.length cap6, .slice b6 A.pend.length cap6', .int .i64 A.left] 26)
  have B7 := B5.trans (hb6.mono B5.size)
  have X7 := Lib.hid (X5.out.below hb6 X5.out.lt)
  have Y4_7 := Lib.hid (Y4_5.out.below hb6 Y4_5.out.lt)
  have D4_7 := Lib.hid (D4_5.out.below hb6 (Nat.le_refl _))
  have Y6_7 := Lib.hid (Bx.fresh A.size (.slice a6 A.secs.length cap6) (.slice b6 A.pend.length cap6') A.left w6)
  have D6_7 := Lib.hid (DD6.out.below ((Below.refl _ w6).alloc (Nat.le_refl _) (.cells #[.int .i64 A.size, .slice a6 A.secs.length cap6, .slice b6 A.pend.length cap6', .int .i64 A.left] 26)) (Nat.le_refl _))
  clear hb6 DD6 q0 q1 q2 q3 g0 g1 g2 g3 qlt X5 Y4_5 D4_5
  obtain ⟨q0, q1, q2, q3, g0, g1, g2, g3, qlt⟩ := X7.out
  go_wp2_with fail
  clear q0 q1 q2 q3 g0 g1 g2 g3 qlt
  generalize w6.alloc (.cells #[.int .i64 A.size, .slice a6 A.secs.length cap6, .slice b6 A.pend.length cap6', .int .i64 A.left] 26) = w7 at B7 X7 Y4_7 D4_7 Y6_7 D6_7 ⊢
  obtain ⟨q0, q1, q2, q3, g0, g1, g2, g3, qlt⟩ := X7.out
  go_wp2_with fail
  ((with_reducible refine (HS1.out _ B7).mono ?_); rintro e w8 ⟨v8, rfl, d8, hb8⟩)
  have DD8 := Lib.hid d8
  obtain ⟨_, _, rfl, ⟨a8, cap8, rfl, _, _, _⟩, ⟨b8, cap8', rfl, _, _, _⟩⟩ := d8
  have hb8 := hb8.alloc hb8.size (.cells #[.int .i64 X.size, .slice a8 X.secs.length cap8, .slice b8 X.pend.length cap8', .int .i64 X.left] 26)
  have B9 := B7.trans (hb8.mono B7.size)
  have X9 := Lib.hid (X7.out.below hb8 X7.out.lt)
  have Y4_9 := Lib.hid (Y4_7.out.below hb8 Y4_7.out.lt)
  have D4_9 := Lib.hid (D4_7.out.below hb8 (Nat.le_refl _))
  have Y6_9 := Lib.hid (Y6_7.out.below hb8 Y6_7.out.lt)
  have D6_9 := Lib.hid (D6_7.out.below hb8 (Nat.le_refl _))
  have Y8_9 := Lib.hid (Bx.fresh X.size (.slice a8 X.secs.length cap8) (.slice b8 X.pend.length cap8') X.left w8)
  have D8_9 := Lib.hid (DD8.out.below ((Below.refl _ w8).alloc (Nat.le_refl _) (.cells #[.int .i64 X.size, .slice a8 X.secs.length cap8, .slice b8 X.pend.length cap8', .int .i64 X.left] 26)) (Nat.le_refl _))
  clear hb8 DD8 q0 q1 q2 q3 g0 g1 g2 g3 qlt X7 Y4_7 D4_7 Y6_7 D6_7
  obtain ⟨q0, q1, q2, q3, g0, g1, g2, g3, qlt⟩ := X9.out
  go_wp2_with fail
  clear q0 q1 q2 q3 g0 g1 g2 g3 qlt
  generalize w8.alloc (.cells #[.int .i64 X.size, .slice a8 X.secs.length cap8, .slice b8 X.pend.length cap8', .int .i64 X.left] 26) = w9 at B9 X9 Y4_9 D4_9 Y6_9 D6_9 Y8_9 D8_9 ⊢
  obtain ⟨q0, q1, q2, q3, g0, g1, g2, g3, qlt⟩ := X9.out
  go_wp2_with fail
  ((with_reducible refine (HS2.out _ B9).mono ?_); rintro e w10 ⟨v10, rfl, d10, hb10⟩)
  have DD10 := Lib.hid d10
  obtain ⟨_, _, rfl, ⟨a10, cap10, rfl, _, _, _⟩, ⟨b10, cap10', rfl, _, _, _⟩⟩ := d10
  have hb10 := hb10.alloc hb10.size (.cells #[.int .i64 X.size, .slice a10 X.secs.length cap10, .slice b10 X.pend.length cap10', .int .i64 X.left] 26)
  have B11 := B9.trans (hb10.mono B9.size)
  have X11 := Lib.hid (X9.out.below hb10 X9.out.lt)
  have Y4_11 := Lib.hid (Y4_9.out.below hb10 Y4_9.out.lt)
  have D4_11 := Lib.hid (D4_9.out.below hb10 (Nat.le_refl _))
  have Y6_11 := Lib.hid (Y6_9.out.below hb10 Y6_9.out.lt)
  have D6_11 := Lib.hid (D6_9.out.below hb10 (Nat.le_refl _))
  have Y8_11 := Lib.hid (Y8_9.out.below hb10 Y8_9.out.lt)
  have D8_11 := Lib.hid (D8_9.out.below hb10 (Nat.le_refl _))
  have Y10_11 := Lib.hid (Bx.fresh X.size (.slice a10 X.secs.length cap10) (.slice b10 X.pend.length cap10') X.left w10)
  have D10_11 := Lib.hid (DD10.out.below ((Below.refl _ w10).alloc (Nat.le_refl _) (.cells #[.int .i64 X.size, .slice a10 X.secs.length cap10, .slice b10 X.pend.length cap10', .int .i64 X.left] 26)) (Nat.le_refl _))
  clear hb10 DD10 q0 q1 q2 q3 g0 g1 g2 g3 qlt X9 Y4_9 D4_9 Y6_9 D6_9 Y8_9 D8_9
  go_upto_region 9 with fail
  generalize w10.alloc (.cells #[.int .i64 X.size, .slice a10 X.secs.length cap10, .slice b10 X.pend.length cap10', .int .i64 X.left] 26) = w11 at B11 X11 Y4_11 D4_11 Y6_11 D6_11 Y8_11 D8_11 Y10_11 D10_11 ⊢
  have start := (show Five _ _ _ _ _ _ _ _ _ _ _ _ _ _ _ _ _ _ _ _ _ _ _ _ _ w11 from ⟨X11.out, Y4_11.out, Y6_11.out, Y8_11.out, Y10_11.out⟩).drew
  have sc := start.cells
  have Bd := B11.drew
  have dA := Lib.hid (D4_11.out.below (Below.refl _ _).drew (Nat.le_refl _))
  have dB := Lib.hid (D6_11.out.below (Below.refl _ _).drew (Nat.le_refl _))
  have dX := Lib.hid (D8_11.out.below (Below.refl _ _).drew (Nat.le_refl _))
  have dY := Lib.hid (D10_11.out.below (Below.refl _ _).drew (Nat.le_refl _))
  clear D4_11 D6_11 D8_11 D10_11 Y4_11 Y6_11 Y8_11 Y10_11 X11 B2 B3 B5 B7 B9 B11
  go_region_held3 (fun V => V.cell? ⟨w.heap.size, 0, none⟩ = some (.int .i64 D.size) ∧ V.cell? ⟨w.heap.size, 1, none⟩ = some (.slice a0 D.secs.length cap) ∧ V.cell? ⟨w.heap.size, 2, none⟩ = some (.slice b0 D.pend.length cap2) ∧ V.cell? ⟨w.heap.size, 3, none⟩ = some (.int .i64 D.left) ∧ V.cell? ⟨w4.heap.size, 0, none⟩ = some (.int .i64 A.size) ∧ V.cell? ⟨w4.heap.size, 1, none⟩ = some (.slice a4 A.secs.length cap4) ∧ V.cell? ⟨w4.heap.size, 2, none⟩ = some (.slice b4 A.pend.length cap4') ∧ V.cell? ⟨w4.heap.size, 3, none⟩ = some (.int .i64 A.left) ∧ V.cell? ⟨w6.heap.size, 0, none⟩ = some (.int .i64 A.size) ∧ V.cell? ⟨w6.heap.size, 1, none⟩ = some (.slice a6 A.secs.length cap6) ∧ V.cell? ⟨w6.heap.size, 2, none⟩ = some (.slice b6 A.pend.length cap6') ∧ V.cell? ⟨w6.heap.size, 3, none⟩ = some (.int .i64 A.left) ∧ V.cell? ⟨w8.heap.size, 0, none⟩ = some (.int .i64 X.size) ∧ V.cell? ⟨w8.heap.size, 1, none⟩ = some (.slice a8 X.secs.length cap8) ∧ V.cell? ⟨w8.heap.size, 2, none⟩ = some (.slice b8 X.pend.length cap8') ∧ V.cell? ⟨w8.heap.size, 3, none⟩ = some (.int .i64 X.left) ∧ V.cell? ⟨w10.heap.size, 0, none⟩ = some (.int .i64 X.size) ∧ V.cell? ⟨w10.heap.size, 1, none⟩ = some (.slice a10 X.secs.length cap10) ∧ V.cell? ⟨w10.heap.size, 2, none⟩ = some (.slice b10 X.pend.length cap10') ∧ V.cell? ⟨w10.heap.size, 3, none⟩ = some (.int .i64 X.left)) (first | with_reducible exact sc | with_reducible exact hh.cells)
    (first | (go_at_call 22; (with_reducible refine (HK1.out _ Bd).mono ?_); rintro e v1 ⟨rfl, hc1⟩; have hh := start.on hc1; have E1 := Bd.trans (hc1.mono Bd.size); have dA := Lib.hid (dA.out.below hc1 (Nat.le_refl _)); have dB := Lib.hid (dB.out.below hc1 (Nat.le_refl _)); have dX := Lib.hid (dX.out.below hc1 (Nat.le_refl _)); have dY := Lib.hid (dY.out.below hc1 (Nat.le_refl _)); clear hc1) | (go_at_call 23; (with_reducible refine (HK2.out _ E1).mono ?_); rintro e v2 ⟨rfl, hc2⟩; have hh := hh.on hc2; have E2 := E1.trans (hc2.mono E1.size); have dA := Lib.hid (dA.out.below hc2 (Nat.le_refl _)); have dB := Lib.hid (dB.out.below hc2 (Nat.le_refl _)); have dX := Lib.hid (dX.out.below hc2 (Nat.le_refl _)); have dY := Lib.hid (dY.out.below hc2 (Nat.le_refl _)); clear hc2) | (go_at_call 14; (with_reducible refine (same_any A _ _ _ dA.out dB.out).mono ?_); rintro e v3 ⟨rfl, hc3⟩; have hh := hh.on hc3; have E3 := E2.trans (hc3.mono E2.size); have dX := Lib.hid (dX.out.below hc3 (Nat.le_refl _)); have dY := Lib.hid (dY.out.below hc3 (Nat.le_refl _)); clear hc3) | (go_at_call 14; (with_reducible refine (same_any X _ _ _ dX.out dY.out).mono ?_); rintro e v4 ⟨rfl, hc4⟩; have hh := hh.on hc4; have E4 := E3.trans (hc4.mono E3.size); clear hc4) | (go_at_call 11; (with_reducible refine (awake_any _).mono ?_); rintro e v5 ⟨rfl, hc5⟩; have hh := hh.on hc5; have E5 := E4.trans (hc5.mono E4.size); clear hc5))
  go_wp2
  go_ret
  exact ⟨rfl, E5⟩

theorem opsLaw_any (D : Dk) (hf : D.Fit) (hhi : D.left ≤ 9223372036854775807) (v : Value) (s : Int) (x : ByteArray) (hx : x.size ≤ maxLen) (w : World) (hv : IsDisk w v D) :
    Calls Try.prog 4 #[v, .int .i64 s, .string x] w fun e w' => e = .returned (.bool true) ∧ Below w.heap.size w w' := by
  by_cases hg : 12 < D.secs.length ∨ 12 < D.pend.length ∨ 40 < D.size
  · exact opsLaw_out D v s x hx w hv (.inl hg)
  by_cases hs : 60 < x.size
  · exact opsLaw_out D v s x hx w hv (.inr ⟨by omega, by omega, by omega, hs⟩)
  have hp : D.pend.length ≤ 100000 := by omega
  have vb : ∀ W, Below w.heap.size w W → IsDisk W v D := fun W hW => hv.below hW (Nat.le_refl _)
  by_cases h0 : chk D = 0
  · have hok := (chk_zero D).1 h0
    -- what Read answers
    obtain ⟨r, er, R1, R2⟩ : ∃ (r : ByteArray) (er : Int), (∀ W, Below w.heap.size w W → Calls Try.prog 16 #[v, .int .i64 s] W fun e w' => e = .returned (.tuple #[.string r, .int .i64 er]) ∧ Below W.heap.size W w') ∧ (∀ W, Below w.heap.size w W → Calls Try.prog 17 #[v, .int .i64 s] W fun e w' => e = .returned (.tuple #[.string r, .int .i64 er]) ∧ Below W.heap.size W w') := by
      by_cases hr : s < 0 ∨ (D.secs.length : Int) ≤ s
      · exact ⟨⟨#[]⟩, 2, fun W hW => read_out D hf hok v W (vb W hW) s hr, fun W hW => refRead_out D hf hok v W (vb W hW) s hr⟩
      · obtain ⟨i, rfl⟩ := Int.eq_ofNat_of_zero_le (show 0 ≤ s by omega)
        have hi : i < D.secs.length := by omega
        exact ⟨_, 0, fun W hW => read_good D hf hok v W (vb W hW) _ i rfl hi _ rfl, fun W hW => refRead_good D hf hok hp v W (vb W hW) i hi _ rfl⟩
    -- what Sync answers
    obtain ⟨X, es, S1, S2⟩ : ∃ (X : Dk) (es : Int), (∀ W, Below w.heap.size w W → Calls Try.prog 20 #[v] W fun e w' => ∃ v', e = .returned (.tuple #[v', .int .i64 es]) ∧ IsDisk w' v' X ∧ Below W.heap.size W w') ∧ (∀ W, Below w.heap.size w W → Calls Try.prog 21 #[v] W fun e w' => ∃ v', e = .returned (.tuple #[v', .int .i64 es]) ∧ IsDisk w' v' X ∧ Below W.heap.size W w') := by
      by_cases hl : D.left = 0
      · exact ⟨D, 20, fun W hW => (sync_lost D hf hok v W (vb W hW) hl).mono (by rintro e w' ⟨v', he, d, _, hb⟩; exact ⟨v', he, d, hb⟩), fun W hW => refSync_lost D hf hok v W (vb W hW) hl⟩
      · obtain ⟨z, hz⟩ : ∃ z : Nat, (z : Int) = D.size := ⟨D.size.toNat, by have := hok.s1; omega⟩
        exact ⟨_, 0, fun W hW => (sync_ok D hf hok v W (vb W hW) hl hhi _ rfl z hz).mono (by rintro e w' ⟨v', he, f, hb⟩; exact ⟨v', he, f.disk, hb⟩), fun W hW => refSync_ok D hf hok hp v W (vb W hW) hl hhi _ rfl z hz⟩
    -- what Write answers
    obtain ⟨A, ew, W1, W2⟩ : ∃ (A : Dk) (ew : Int), (∀ W, Below w.heap.size w W → Calls Try.prog 18 #[v, .int .i64 s, .string x] W fun e w' => ∃ v', e = .returned (.tuple #[v', .int .i64 ew]) ∧ IsDisk w' v' A ∧ Below W.heap.size W w') ∧ (∀ W, Below w.heap.size w W → Calls Try.prog 19 #[v, .int .i64 s, .string x] W fun e w' => ∃ v', e = .returned (.tuple #[v', .int .i64 ew]) ∧ IsDisk w' v' A ∧ Below W.heap.size W w') := by
      by_cases hc : cw D s x = 0
      · by_cases hl : D.left = 0
        · exact ⟨D, 20, fun W hW => (write_lost D hf hok v W (vb W hW) s x hx hc hl).mono (by rintro e w' ⟨v', he, d, _, hb⟩; exact ⟨v', he, d, hb⟩), fun W hW => refWrite_lost D hf hok v W (vb W hW) hl s x hx hc⟩
        · exact ⟨_, 0, fun W hW => (write_ok D hf hok v W (vb W hW) s x hx hc hl hhi hp _ rfl).mono (by rintro e w' ⟨v', he, d, _, hb⟩; exact ⟨v', he, d, hb⟩), fun W hW => refWrite_ok D hf hok v W (vb W hW) s x hx hc hl hhi hp _ rfl⟩
      · exact ⟨Dk.zero, _, fun W hW => (write_cw D hf hok v W (vb W hW) s x hx _ rfl hc).mono (by rintro e w' ⟨v', he, d, _, hb⟩; exact ⟨v', he, d, hb⟩), fun W hW => refWrite_cw D hf hok v W (vb W hW) s x hx _ rfl hc⟩
    exact opsLaw_main D A X v s x (by omega) w hv (by omega) (by omega) (by omega) r er ew es 0 R1 R2 W1 W2 S1 S2 (fun W hW => check_any D hf v W (vb W hW) 0 h0) (fun W hW => refCheck_any D hf v W (vb W hW) 0 h0)
  · exact opsLaw_main D Dk.zero Dk.zero v s x (by omega) w hv (by omega) (by omega) (by omega) ⟨#[]⟩ 1 1 1 (chk D)
      (fun W hW => read_bad D hf _ rfl h0 v W (vb W hW) s) (fun W hW => refRead_bad D hf _ rfl h0 v W (vb W hW) s)
      (fun W hW => (write_bad D hf _ rfl h0 v W (vb W hW) s x).mono (by rintro e w' ⟨v', he, d, _, hb⟩; exact ⟨v', he, d, hb⟩)) (fun W hW => refWrite_bad D hf _ rfl h0 v W (vb W hW) s x)
      (fun W hW => (sync_bad D hf _ rfl h0 v W (vb W hW)).mono (by rintro e w' ⟨v', he, d, _, hb⟩; exact ⟨v', he, d, hb⟩)) (fun W hW => (refSync_bad D hf _ rfl h0 v W (vb W hW)).mono (by rintro e w' ⟨v', he, d, _, hb⟩; exact ⟨v', he, d, hb⟩))
      (fun W hW => check_any D hf v W (vb W hW) _ rfl) (fun W hW => refCheck_any D hf v W (vb W hW) _ rfl)

set_option maxRecDepth 100000 in
theorem opsLaw_lifted (os : Os) (started : os.Started) (H : Type) (enc : TypeId × Value → H) :
    ReturnsInHanded {} Try.checked os 4 .any (Rows.diskOperationsSpec.pre6 enc Try.prog Try.f4 Rows.diskOperationsRow.domain false) (Rows.diskOperationsSpec.post enc Try.prog Try.f4 false true false false) := by
  refine returnsInHanded_of_change (C := Try.checked) ownK started (by kernel_rfl) Try.func4
    (ChangeSpec.witness6 (enc := enc) (C := Try.checked) false ⟨#[], #[dv 0 (.slice none 0 0) (.slice none 0 0) 0, .int .i64 0, .string ⟨#[]⟩], []⟩ 8 (by kernel_rfl) (by kernel_rfl) (by kernel_rfl) (by kernel_rfl)) ?_
  intro W base args ds gs before hval0 hW hcnd _
  have hval : ∀ (j : Nat) t v, Try.f4.params[j]? = some t → args[j]? = some v → Value.okWide Try.prog W .any base t v := hval0
  have hW' := hW
  obtain ⟨p, q, hA0, hV, rfl, hfz, hnd⟩ := hW
  have hA : DataW.TrodAll enc Try.prog W 0 (fun _ => true) true Try.f4.params.toList args.toList ds p := hA0
  rw [Try.params4] at hA hval
  obtain ⟨v0, v1, v2, d0, d1, d2, p0, p1, p2, rfl, rfl, rfl, h0, h1, h2⟩ := trodAll_three hA
  obtain ⟨rfl, rfl⟩ := trodVars_none hV
  have k0 := h0
  have lt0 : ∀ x ∈ p0, x.block < W.heap.size := by obtain ⟨m, hm⟩ := k0; exact DataW.trod_lt m _ _ _ hm
  obtain ⟨D, hv, hf, hl⟩ := open_disk (hval 0 26 v0 rfl rfl) h0
  obtain ⟨z1, rfl, rfl, rfl, w1⟩ := open_int Try.underlying3 (hval 1 3 v1 rfl rfl) h1
  obtain ⟨s, rfl, rfl, rfl, w3⟩ := open_string Try.underlying9 (hval 2 9 v2 rfl rfl) h2
  clear hA0 hval0
  refine (opsLaw_any D hf hl v0 z1 s w3 W hv).mono fun e W' ⟨he, bel⟩ => ?_
  subst he
  exact ⟨_, rfl, _, _, _, [], _, [], hW', trodAll_mk1 (shut_bool Try.underlying4 _), (trodAll_cons_mk (Below.trod laidOut (by kernel_rfl) (of_decide_eq_true (by kernel_rfl)) k0 bel lt0) (trodAll_cons_mk (shut_int Try.underlying3 w1) (trodAll_cons_mk (shut_string Try.underlying9 w3) trodAll_mk0))), rfl, bel.frame _, fun h => by cases h⟩

theorem opsLaw_holds : Rows.DiskOperationsSaid :=
  OpenClaim.holds_of_wide 4 Try.f4 rfl rfl rfl rfl rfl rfl rfl ⟨rfl, rfl, rfl, rfl, rfl⟩ rfl rfl rfl rfl rfl (by kernel_rfl) Try.func4 (by kernel_rfl)
    (of_decide_eq_true (by kernel_rfl)) (by unfold Func.isWrapper; rw [if_neg (of_decide_eq_false (by kernel_rfl))]; exact ⟨rfl, rfl⟩)
    (fun os started H enc _ => opsLaw_lifted os started H enc)
#print axioms opsLaw_holds
end Go.Proofs.Ytgdfdelggihceaa
