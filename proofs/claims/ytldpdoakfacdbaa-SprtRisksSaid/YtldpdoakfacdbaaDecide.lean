/- sprt.decide: the decision of a valid trial, at this translation. -/
import Derived.Test.YtldpdoakfacdbaaCompare
import Derived.Test.YtldpdoakfacdbaaCheck
import Derived.Deep.RegionHeld3
import Derived.IntWalk
namespace Go.Proofs.Ytldpdoakfacdbaa
open Go.RowKit

/-- A trial's eight numbers lie in block N. -/
structure D8 (N gn gd bn bd an ad en ed : Nat) (W : World) : Prop where
  cells : W.cell? ⟨N, 0, none⟩ = some (.int .i64 gn) ∧ W.cell? ⟨N, 1, none⟩ = some (.int .i64 gd) ∧ W.cell? ⟨N, 2, none⟩ = some (.int .i64 bn) ∧ W.cell? ⟨N, 3, none⟩ = some (.int .i64 bd) ∧
    W.cell? ⟨N, 4, none⟩ = some (.int .i64 an) ∧ W.cell? ⟨N, 5, none⟩ = some (.int .i64 ad) ∧ W.cell? ⟨N, 6, none⟩ = some (.int .i64 en) ∧ W.cell? ⟨N, 7, none⟩ = some (.int .i64 ed)
  lt : N < W.heap.size
theorem D8.below {N gn gd bn bd an ad en ed : Nat} {W W' : World} (h : D8 N gn gd bn bd an ad en ed W) {B : Nat} (hB : Below B W W') (hN : N < B) : D8 N gn gd bn bd an ad en ed W' := by
  obtain ⟨⟨h0, h1, h2, h3, h4, h5, h6, h7⟩, hl⟩ := h
  have k := fun o => hB.cell (p := ⟨N, o, none⟩) hN
  exact ⟨⟨(k 0).trans h0, (k 1).trans h1, (k 2).trans h2, (k 3).trans h3, (k 4).trans h4, (k 5).trans h5, (k 6).trans h6, (k 7).trans h7⟩, Nat.lt_of_lt_of_le hl hB.size⟩
theorem D8.drew {N gn gd bn bd an ad en ed : Nat} {W : World} (h : D8 N gn gd bn bd an ad en ed W) : D8 N gn gd bn bd an ad en ed W.drew := ⟨h.cells, h.lt⟩
theorem IsLong.drew {W : World} {v : Value} {L : List Nat} (h : IsLong W v L) : IsLong W.drew v L := h
theorem D8.fresh (w : World) (gn gd bn bd an ad en ed : Nat) : D8 w.heap.size gn gd bn bd an ad en ed (w.alloc (.cells #[.int .i64 gn, .int .i64 gd, .int .i64 bn, .int .i64 bd, .int .i64 an, .int .i64 ad, .int .i64 en, .int .i64 ed] 25)) := by
  refine ⟨?_, by simp⟩
  simp [World.cell?_alloc_new]
theorem isLong_one (w : World) : IsLong (w.alloc (.cells #[.int .i64 1] 3)) (.slice (some ⟨w.heap.size, 0, none⟩) 1 1) [1] := by
  refine ⟨w.heap.size, 1, rfl, by simp, by simp, fun j hj => ?_⟩
  obtain rfl : j = 0 := by simpa using hj
  simp [World.cell?_alloc_new]
theorem digs_1 : digs B9 1 = [1] := by rw [digs_one B9 1 (by decide) (by decide)]; rfl


theorem pow_pos1 (a q p : Nat) (ha : 1 ≤ a) (hq : 1 ≤ q) : 1 ≤ a * q ^ p := Nat.mul_pos ha (Nat.pow_pos hq)

set_option maxHeartbeats 4000000 in
set_option maxRecDepth 100000 in
theorem decide_walk (gn gd bn bd an ad en ed p f q1 q2 q3 q4 q5 q6 q7 q8 d1 d2 d3 d4 : Nat) (c1 c2 r : Int) (w : World)
    (e1 : IntKind.i64.wrap ((bn : Int) * gd) = q1) (e2 : IntKind.i64.wrap ((bd : Int) - bn) = d1) (e3 : IntKind.i64.wrap ((d1 : Int) * gd) = q2)
    (e4 : IntKind.i64.wrap ((bd : Int) * gn) = q3) (e5 : IntKind.i64.wrap ((gd : Int) - gn) = d2) (e6 : IntKind.i64.wrap ((bd : Int) * d2) = q4)
    (e7 : IntKind.i64.wrap ((ed : Int) * an) = q5) (e8 : IntKind.i64.wrap ((ed : Int) - en) = d3) (e9 : IntKind.i64.wrap ((d3 : Int) * ad) = q6)
    (e10 : IntKind.i64.wrap ((ad : Int) - an) = d4) (e11 : IntKind.i64.wrap ((ed : Int) * d4) = q7) (e12 : IntKind.i64.wrap ((en : Int) * ad) = q8)
    (hp : p ≤ 40) (hf : f ≤ 40) (r1 : 1 ≤ q1 ∧ q1 ≤ 400) (r2 : 1 ≤ q2 ∧ q2 ≤ 400) (r3 : 1 ≤ q3 ∧ q3 ≤ 400) (r4 : 1 ≤ q4 ∧ q4 ≤ 400)
    (r5 : 1 ≤ q5 ∧ q5 ≤ 400) (r6 : 1 ≤ q6 ∧ q6 ≤ 400) (r7 : 1 ≤ q7 ∧ q7 ≤ 400) (r8 : 1 ≤ q8 ∧ q8 ≤ 400)
    (hc1 : c1 = cmpZ ((1 * q1 ^ p * q2 ^ f * q5 : Nat) : Int) ((1 * q3 ^ p * q4 ^ f * q6 : Nat) : Int)) (hc2 : c2 = cmpZ ((1 * q1 ^ p * q2 ^ f * q7 : Nat) : Int) ((1 * q3 ^ p * q4 ^ f * q8 : Nat) : Int))
    (hr : (0 ≤ c1 ∧ r = 2) ∨ (c1 < 0 ∧ c2 ≤ 0 ∧ r = 1) ∨ (c1 < 0 ∧ 0 < c2 ∧ r = 0)) :
    Calls Try.prog 27 #[trialV gn gd bn bd an ad en ed, .int .i64 p, .int .i64 f] w fun e w' => e = .returned (.int .i64 r) ∧ Below w.heap.size w w' := by
  have R1 := Lib.hid r1
  have R2 := Lib.hid r2
  have R3 := Lib.hid r3
  have R4 := Lib.hid r4
  have R5 := Lib.hid r5
  have R6 := Lib.hid r6
  have R7 := Lib.hid r7
  have R8 := Lib.hid r8
  have C1 := Lib.hid hc1
  have C2 := Lib.hid hc2
  have HR := Lib.hid hr
  have m1 := Lib.hid (pow_pos1 1 q1 p (Nat.le_refl _) r1.1)
  have m2 := Lib.hid (pow_pos1 _ q2 f m1.out r2.1)
  have m3 := Lib.hid (pow_pos1 1 q3 p (Nat.le_refl _) r3.1)
  have m4 := Lib.hid (pow_pos1 _ q4 f m3.out r4.1)
  have l1 := Lib.hid digs_1
  have k1 := digs_len_pow B9 1 q1 p (by decide) (by show q1 ≤ 1000000000; omega)
  have k3 := digs_len_pow B9 1 q3 p (by decide) (by show q3 ≤ 1000000000; omega)
  have k2 := digs_len_pow B9 (1 * q1 ^ p) q2 f (by decide) (by show q2 ≤ 1000000000; omega)
  have k4 := digs_len_pow B9 (1 * q3 ^ p) q4 f (by decide) (by show q4 ≤ 1000000000; omega)
  have k5 := digs_len_mul B9 (1 * q1 ^ p * q2 ^ f) q5 (by decide) (by show q5 ≤ 1000000000; omega)
  have k7 := digs_len_mul B9 (1 * q1 ^ p * q2 ^ f) q7 (by decide) (by show q7 ≤ 1000000000; omega)
  rw [digs_1, List.length_singleton] at k1 k3
  have K1 : Hid ((digs B9 (1 * q1 ^ p)).length ≤ 500) := Lib.hid (by omega)
  have K3 : Hid ((digs B9 (1 * q3 ^ p)).length ≤ 500) := Lib.hid (by omega)
  have K2 : Hid ((digs B9 (1 * q1 ^ p * q2 ^ f)).length ≤ 1000) := Lib.hid (by omega)
  have K4 : Hid ((digs B9 (1 * q3 ^ p * q4 ^ f)).length ≤ 1000) := Lib.hid (by omega)
  have K5 : Hid ((digs B9 (1 * q1 ^ p * q2 ^ f * q5)).length ≤ 1000) := Lib.hid (by omega)
  have K7 : Hid ((digs B9 (1 * q1 ^ p * q2 ^ f * q7)).length ≤ 1000) := Lib.hid (by omega)
  clear r1 r2 r3 r4 r5 r6 r7 r8 hc1 hc2 hr k1 k2 k3 k4 k5 k7
  go_enter Try.func27, Try.ntmps27
  go_wp2
  have start := (((D8.fresh w gn gd bn bd an ad en ed).below ((Below.refl (w.heap.size + 1) _).alloc (by simp) (.cells #[.int .i64 1] 3)) (by omega)).below ((Below.refl (w.heap.size + 1) _).alloc (by simp) (.cells #[.int .i64 1] 3)) (by omega)).drew
  have n1 := ((isLong_one (w.alloc (.cells #[.int .i64 gn, .int .i64 gd, .int .i64 bn, .int .i64 bd, .int .i64 an, .int .i64 ad, .int .i64 en, .int .i64 ed] 25))).below ((Below.refl _ _).alloc (Nat.le_refl _) (.cells #[.int .i64 1] 3)) (Nat.le_refl _)).drew
  have n2 := (isLong_one ((w.alloc (.cells #[.int .i64 gn, .int .i64 gd, .int .i64 bn, .int .i64 bd, .int .i64 an, .int .i64 ad, .int .i64 en, .int .i64 ed] 25)).alloc (.cells #[.int .i64 1] 3))).drew
  have hB := ((((Below.refl w.heap.size w).alloc (Nat.le_refl _) (.cells #[.int .i64 gn, .int .i64 gd, .int .i64 bn, .int .i64 bd, .int .i64 an, .int .i64 ad, .int .i64 en, .int .i64 ed] 25)).alloc (by simp) (.cells #[.int .i64 1] 3)).alloc (by simp; omega) (.cells #[.int .i64 1] 3)).drew
  rw [World.size_alloc] at n1
  rw [World.size_alloc, World.size_alloc] at n2
  have N1 := Lib.hid n1
  have N2 := Lib.hid n2
  clear n1 n2
  go_region_held3 (fun W => W.cell? ⟨w.heap.size, 0, none⟩ = some (.int .i64 gn) ∧ W.cell? ⟨w.heap.size, 1, none⟩ = some (.int .i64 gd) ∧ W.cell? ⟨w.heap.size, 2, none⟩ = some (.int .i64 bn) ∧ W.cell? ⟨w.heap.size, 3, none⟩ = some (.int .i64 bd) ∧ W.cell? ⟨w.heap.size, 4, none⟩ = some (.int .i64 an) ∧ W.cell? ⟨w.heap.size, 5, none⟩ = some (.int .i64 ad) ∧ W.cell? ⟨w.heap.size, 6, none⟩ = some (.int .i64 en) ∧ W.cell? ⟨w.heap.size, 7, none⟩ = some (.int .i64 ed)) (first | exact hh.cells | exact start.cells)
    (first | (go_at_call 29; (with_reducible refine (power_any 1 q1 p _ _ (Nat.le_refl _) R1.out.1 R1.out.2 (by omega) (by rw [l1.out]; decide) (by rw [l1.out]; exact N1.out)).mono ?_); rintro e w1 ⟨v1, rfl, L1, hb1⟩; have hh := start.below hb1 start.lt; have N3 := Lib.hid (N2.out.below hb1 (Nat.le_refl _)); have hB1 := hB.trans (hb1.mono (by have := hB.size; omega))) | (go_at_call 29; (with_reducible refine (power_any (1 * q1 ^ p) q2 f _ _ m1.out R2.out.1 R2.out.2 (by omega) K1.out L1).mono ?_); rintro e w2 ⟨v2, rfl, L2, hb2⟩; have hh := hh.below hb2 hh.lt; have N4 := Lib.hid (N3.out.below hb2 (Nat.le_refl _)); have hB2 := hB1.trans (hb2.mono (by have := hB1.size; omega))))
  have start3 := hh.drew
  have A2 := Lib.hid L2.drew
  have D2 := Lib.hid N4.out.drew
  have hB3 := hB2.drew
  clear start hh hb1 hb2 L1 L2 hB hB1 hB2 N1 N2 N3 N4
  go_wp2
  go_region_held3 (fun W => W.cell? ⟨w.heap.size, 0, none⟩ = some (.int .i64 gn) ∧ W.cell? ⟨w.heap.size, 1, none⟩ = some (.int .i64 gd) ∧ W.cell? ⟨w.heap.size, 2, none⟩ = some (.int .i64 bn) ∧ W.cell? ⟨w.heap.size, 3, none⟩ = some (.int .i64 bd) ∧ W.cell? ⟨w.heap.size, 4, none⟩ = some (.int .i64 an) ∧ W.cell? ⟨w.heap.size, 5, none⟩ = some (.int .i64 ad) ∧ W.cell? ⟨w.heap.size, 6, none⟩ = some (.int .i64 en) ∧ W.cell? ⟨w.heap.size, 7, none⟩ = some (.int .i64 ed)) (first | exact hh.cells | exact start3.cells)
    (first | (go_at_call 29; (with_reducible refine (power_any 1 q3 p _ _ (Nat.le_refl _) R3.out.1 R3.out.2 (by omega) (by rw [l1.out]; decide) (by rw [l1.out]; exact D2.out)).mono ?_); rintro e w3 ⟨v3, rfl, L3, hb3⟩; have hh := start3.below hb3 start3.lt; have A3 := Lib.hid (A2.out.below hb3 (Nat.le_refl _)); have hB4 := hB3.trans (hb3.mono (by have := hB3.size; omega))) | (go_at_call 29; (with_reducible refine (power_any (1 * q3 ^ p) q4 f _ _ m3.out R4.out.1 R4.out.2 (by omega) K3.out L3).mono ?_); rintro e w4 ⟨v4, rfl, L4, hb4⟩; have hh := hh.below hb4 hh.lt; have A4 := Lib.hid (A3.out.below hb4 (Nat.le_refl _)); have hB5 := hB4.trans (hb4.mono (by have := hB4.size; omega))))
  have start5 := hh.drew
  have A5 := Lib.hid A4.out.drew
  have D5 := Lib.hid L4.drew
  have hB6 := hB5.drew
  clear start3 hh hb3 hb4 L3 L4 hB3 hB4 hB5 A2 D2 A3 A4
  go_wp2
  go_region_held3 (fun W => W.cell? ⟨w.heap.size, 0, none⟩ = some (.int .i64 gn) ∧ W.cell? ⟨w.heap.size, 1, none⟩ = some (.int .i64 gd) ∧ W.cell? ⟨w.heap.size, 2, none⟩ = some (.int .i64 bn) ∧ W.cell? ⟨w.heap.size, 3, none⟩ = some (.int .i64 bd) ∧ W.cell? ⟨w.heap.size, 4, none⟩ = some (.int .i64 an) ∧ W.cell? ⟨w.heap.size, 5, none⟩ = some (.int .i64 ad) ∧ W.cell? ⟨w.heap.size, 6, none⟩ = some (.int .i64 en) ∧ W.cell? ⟨w.heap.size, 7, none⟩ = some (.int .i64 ed)) (first | exact hh.cells | exact start5.cells)
    (first | (go_at_call 31; (with_reducible refine (times_any (1 * q1 ^ p * q2 ^ f) q5 _ _ m2.out R5.out.1 R5.out.2 K2.out A5.out).mono ?_); rintro e w7 ⟨v7, rfl, L7, hb7⟩; have hh := start5.below hb7 start5.lt; have D7 := Lib.hid (D5.out.below hb7 (Nat.le_refl _)); have A7 := Lib.hid (A5.out.below hb7 (Nat.le_refl _)); have hB7 := hB6.trans (hb7.mono (by have := hB6.size; omega))) | (go_at_call 31; (with_reducible refine (times_any (1 * q3 ^ p * q4 ^ f) q6 _ _ m4.out R6.out.1 R6.out.2 K4.out D7.out).mono ?_); rintro e w8 ⟨v8, rfl, L8, hb8⟩; have hh := hh.below hb8 hh.lt; have M7 := Lib.hid (L7.below hb8 (Nat.le_refl _)); have A8 := Lib.hid (A7.out.below hb8 (Nat.le_refl _)); have D8 := Lib.hid (D7.out.below hb8 (Nat.le_refl _)); have hB8 := hB7.trans (hb8.mono (by have := hB7.size; omega))) | (go_at_call 30; (with_reducible refine (compare_long _ _ _ _ _ K5.out M7.out L8).mono ?_); rintro e w9 ⟨he, hb9⟩; rw [← C1.out] at he; subst he; have hh := hh.below hb9 hh.lt; have A9 := Lib.hid (A8.out.below hb9 (Nat.le_refl _)); have D9 := Lib.hid (D8.out.below hb9 (Nat.le_refl _)); have hB9 := hB8.trans (hb9.mono (by have := hB8.size; omega))))
  have start10 := hh.drew
  have A10 := Lib.hid A9.out.drew
  have D10 := Lib.hid D9.out.drew
  have hB10 := hB9.drew
  rcases HR.out with ⟨x1, rfl⟩ | ⟨x1, x2, rfl⟩ | ⟨x1, x2, rfl⟩
  · have x1' : decide (0 ≤ c1) = true := by simpa using x1
    go_wp2
    go_ret
    exact ⟨rfl, hB9⟩
  · have x1' : decide (0 ≤ c1) = false := by simpa using x1
    clear hh hb7 hb8 hb9 L7 L8 hB6 hB7 hB8 A5 D5 A7 D7 M7 A8 D8
    go_wp2
    go_region_held3 (fun W => W.cell? ⟨w.heap.size, 0, none⟩ = some (.int .i64 gn) ∧ W.cell? ⟨w.heap.size, 1, none⟩ = some (.int .i64 gd) ∧ W.cell? ⟨w.heap.size, 2, none⟩ = some (.int .i64 bn) ∧ W.cell? ⟨w.heap.size, 3, none⟩ = some (.int .i64 bd) ∧ W.cell? ⟨w.heap.size, 4, none⟩ = some (.int .i64 an) ∧ W.cell? ⟨w.heap.size, 5, none⟩ = some (.int .i64 ad) ∧ W.cell? ⟨w.heap.size, 6, none⟩ = some (.int .i64 en) ∧ W.cell? ⟨w.heap.size, 7, none⟩ = some (.int .i64 ed)) (first | exact hh.cells | exact start10.cells)
      (first | (go_at_call 31; (with_reducible refine (times_any (1 * q1 ^ p * q2 ^ f) q7 _ _ m2.out R7.out.1 R7.out.2 K2.out A10.out).mono ?_); rintro e w11 ⟨v11, rfl, L11, hb11⟩; have hh := start10.below hb11 start10.lt; have D11 := Lib.hid (D10.out.below hb11 (Nat.le_refl _)); have A11 := Lib.hid (A10.out.below hb11 (Nat.le_refl _)); have hB11 := hB10.trans (hb11.mono (by have := hB10.size; omega))) | (go_at_call 31; (with_reducible refine (times_any (1 * q3 ^ p * q4 ^ f) q8 _ _ m4.out R8.out.1 R8.out.2 K4.out D11.out).mono ?_); rintro e w12 ⟨v12, rfl, L12, hb12⟩; have hh := hh.below hb12 hh.lt; have M11 := Lib.hid (L11.below hb12 (Nat.le_refl _)); have A12 := Lib.hid (A11.out.below hb12 (Nat.le_refl _)); have D12 := Lib.hid (D11.out.below hb12 (Nat.le_refl _)); have hB12 := hB11.trans (hb12.mono (by have := hB11.size; omega))) | (go_at_call 30; (with_reducible refine (compare_long _ _ _ _ _ K7.out M11.out L12).mono ?_); rintro e w13 ⟨he, hb13⟩; rw [← C2.out] at he; subst he; have hh := hh.below hb13 hh.lt; have A13 := Lib.hid (A12.out.below hb13 (Nat.le_refl _)); have D13 := Lib.hid (D12.out.below hb13 (Nat.le_refl _)); have hB13 := hB12.trans (hb13.mono (by have := hB12.size; omega))))
    have x2' : decide (c2 ≤ 0) = true := by simpa using x2
    go_wp2
    go_ret
    exact ⟨rfl, hB13⟩
  · have x1' : decide (0 ≤ c1) = false := by simpa using x1
    clear hh hb7 hb8 hb9 L7 L8 hB6 hB7 hB8 A5 D5 A7 D7 M7 A8 D8
    go_wp2
    go_region_held3 (fun W => W.cell? ⟨w.heap.size, 0, none⟩ = some (.int .i64 gn) ∧ W.cell? ⟨w.heap.size, 1, none⟩ = some (.int .i64 gd) ∧ W.cell? ⟨w.heap.size, 2, none⟩ = some (.int .i64 bn) ∧ W.cell? ⟨w.heap.size, 3, none⟩ = some (.int .i64 bd) ∧ W.cell? ⟨w.heap.size, 4, none⟩ = some (.int .i64 an) ∧ W.cell? ⟨w.heap.size, 5, none⟩ = some (.int .i64 ad) ∧ W.cell? ⟨w.heap.size, 6, none⟩ = some (.int .i64 en) ∧ W.cell? ⟨w.heap.size, 7, none⟩ = some (.int .i64 ed)) (first | exact hh.cells | exact start10.cells)
      (first | (go_at_call 31; (with_reducible refine (times_any (1 * q1 ^ p * q2 ^ f) q7 _ _ m2.out R7.out.1 R7.out.2 K2.out A10.out).mono ?_); rintro e w11 ⟨v11, rfl, L11, hb11⟩; have hh := start10.below hb11 start10.lt; have D11 := Lib.hid (D10.out.below hb11 (Nat.le_refl _)); have A11 := Lib.hid (A10.out.below hb11 (Nat.le_refl _)); have hB11 := hB10.trans (hb11.mono (by have := hB10.size; omega))) | (go_at_call 31; (with_reducible refine (times_any (1 * q3 ^ p * q4 ^ f) q8 _ _ m4.out R8.out.1 R8.out.2 K4.out D11.out).mono ?_); rintro e w12 ⟨v12, rfl, L12, hb12⟩; have hh := hh.below hb12 hh.lt; have M11 := Lib.hid (L11.below hb12 (Nat.le_refl _)); have A12 := Lib.hid (A11.out.below hb12 (Nat.le_refl _)); have D12 := Lib.hid (D11.out.below hb12 (Nat.le_refl _)); have hB12 := hB11.trans (hb12.mono (by have := hB11.size; omega))) | (go_at_call 30; (with_reducible refine (compare_long _ _ _ _ _ K7.out M11.out L12).mono ?_); rintro e w13 ⟨he, hb13⟩; rw [← C2.out] at he; subst he; have hh := hh.below hb13 hh.lt; have A13 := Lib.hid (A12.out.below hb13 (Nat.le_refl _)); have D13 := Lib.hid (D12.out.below hb13 (Nat.le_refl _)); have hB13 := hB12.trans (hb13.mono (by have := hB12.size; omega))))
    have x2' : decide (c2 ≤ 0) = false := by simpa using x2
    go_wp2
    go_ret
    exact ⟨rfl, hB13⟩

theorem wrap_nat (a b : Nat) (h : a * b ≤ 400) : IntKind.i64.wrap ((a : Int) * b) = ((a * b : Nat) : Int) := by
  rw [← Int.natCast_mul]; exact IntWalk.i64_in _ (by omega)
theorem wrap_sub (a b : Nat) (h : b ≤ a) (h2 : a ≤ 400) : IntKind.i64.wrap ((a : Int) - b) = ((a - b : Nat) : Int) := by
  rw [Int.natCast_sub h]; exact IntWalk.i64_in _ (by omega)
theorem mul400N (a b : Nat) (h1 : 1 ≤ a) (h2 : a ≤ 20) (h3 : 1 ≤ b) (h4 : b ≤ 20) : 1 ≤ a * b ∧ a * b ≤ 400 :=
  ⟨Nat.mul_pos h1 h3, Nat.le_trans (Nat.mul_le_mul h2 h4) (by decide)⟩
theorem cmpZ_ge (a b : Nat) : 0 ≤ cmpZ a b ↔ b ≤ a := by unfold cmpZ; split <;> (try split) <;> omega
theorem cmpZ_le (a b : Nat) : cmpZ a b ≤ 0 ↔ a ≤ b := by unfold cmpZ; split <;> (try split) <;> omega

theorem decide_any (t : Tr) (h : t.Ok) (p f : Nat) (hp : p ≤ 40) (hf : f ≤ 40) (w : World) :
    Calls Try.prog 27 #[trialV t.gn t.gd t.bn t.bd t.an t.ad t.en t.ed, .int .i64 p, .int .i64 f] w fun e w' => e = .returned (.int .i64 (t.dec p f)) ∧ Below w.heap.size w w' := by
  have g := h.g
  have b := h.b
  have a := h.a
  have e := h.e
  have g1 := g.n1; have g2 := g.nd; have g3 := g.d20
  have b1 := b.n1; have b2 := b.nd; have b3 := b.d20
  have a1 := a.n1; have a2 := a.nd; have a3 := a.d20
  have x1 := e.n1; have x2 := e.nd; have x3 := e.d20
  have m1 := mul400N t.bn t.gd b1 (by omega) (by omega) g3
  have m2 := mul400N (t.bd - t.bn) t.gd (by omega) (by omega) (by omega) g3
  have m3 := mul400N t.bd t.gn (by omega) b3 g1 (by omega)
  have m4 := mul400N t.bd (t.gd - t.gn) (by omega) b3 (by omega) (by omega)
  have m5 := mul400N t.ed t.an (by omega) x3 a1 (by omega)
  have m6 := mul400N (t.ed - t.en) t.ad (by omega) (by omega) (by omega) a3
  have m7 := mul400N t.ed (t.ad - t.an) (by omega) x3 (by omega) (by omega)
  have m8 := mul400N t.en t.ad x1 (by omega) (by omega) a3
  refine decide_walk t.gn t.gd t.bn t.bd t.an t.ad t.en t.ed p f (t.bn * t.gd) ((t.bd - t.bn) * t.gd) (t.bd * t.gn) (t.bd * (t.gd - t.gn)) (t.ed * t.an) ((t.ed - t.en) * t.ad) (t.ed * (t.ad - t.an)) (t.en * t.ad) (t.bd - t.bn) (t.gd - t.gn) (t.ed - t.en) (t.ad - t.an)
    _ _ _ w (wrap_nat _ _ m1.2) (wrap_sub _ _ (by omega) (by omega)) (wrap_nat _ _ m2.2) (wrap_nat _ _ m3.2) (wrap_sub _ _ (by omega) (by omega)) (wrap_nat _ _ m4.2) (wrap_nat _ _ m5.2) (wrap_sub _ _ (by omega) (by omega)) (wrap_nat _ _ m6.2)
    (wrap_sub _ _ (by omega) (by omega)) (wrap_nat _ _ m7.2) (wrap_nat _ _ m8.2) hp hf m1 m2 m3 m4 m5 m6 m7 m8 rfl rfl ?_
  have eX : 1 * (t.bn * t.gd) ^ p * ((t.bd - t.bn) * t.gd) ^ f = t.X p f := by rw [Nat.one_mul]; rfl
  have eY : 1 * (t.bd * t.gn) ^ p * (t.bd * (t.gd - t.gn)) ^ f = t.Y p f := by rw [Nat.one_mul]; rfl
  rw [eX, eY, cmpZ_ge, cmpZ_le]
  rw [← Int.not_le, cmpZ_ge, ← Int.not_le, cmpZ_le]
  show (t.refuses p f ∧ _) ∨ (¬ t.refuses p f ∧ t.accepts p f ∧ _) ∨ (¬ t.refuses p f ∧ ¬ t.accepts p f ∧ _)
  unfold Tr.dec
  by_cases h1 : t.refuses p f
  · exact .inl ⟨h1, if_pos h1⟩
  · by_cases h2 : t.accepts p f
    · exact .inr (.inl ⟨h1, h2, by rw [if_neg h1, if_pos h2]⟩)
    · exact .inr (.inr ⟨h1, h2, by rw [if_neg h1, if_neg h2]⟩)
end Go.Proofs.Ytldpdoakfacdbaa
