/- The reference's decision of a valid trial, at this translation. -/
import Derived.Test.YtldpdoakfacdbaaMost
import Derived.Test.YtldpdoakfacdbaaDecide
import Derived.RegionTactic
import Derived.Deep.DeepCutAuto
namespace Go.Proofs.Ytldpdoakfacdbaa
open Go.RowKit

/-- A ratio's two numbers lie in block M. -/
structure R2 (M n d : Nat) (W : World) : Prop where
  c0 : W.cell? ⟨M, 0, none⟩ = some (.int .i64 n)
  c1 : W.cell? ⟨M, 1, none⟩ = some (.int .i64 d)
  lt : M < W.heap.size
theorem R2.below {M n d : Nat} {W W' : World} (h : R2 M n d W) {B : Nat} (hB : Below B W W') (hN : M < B) : R2 M n d W' :=
  ⟨(hB.cell (p := ⟨M, 0, none⟩) hN).trans h.c0, (hB.cell (p := ⟨M, 1, none⟩) hN).trans h.c1, Nat.lt_of_lt_of_le h.lt hB.size⟩
/-- What decide holds: the trial's box, both ratios' boxes. -/
structure Rd (w : World) (gn gd bn bd an ad en ed G B : Nat) (W : World) : Prop where
  box : D8 w.heap.size gn gd bn bd an ad en ed W
  g : R2 G gn gd W
  b : R2 B bn bd W
  bel : Below w.heap.size w W
theorem Rd.below {w : World} {gn gd bn bd an ad en ed G B : Nat} {W W' : World} (h : Rd w gn gd bn bd an ad en ed G B W) (hB : Below W.heap.size W W') : Rd w gn gd bn bd an ad en ed G B W' :=
  ⟨h.box.below hB h.box.lt, h.g.below hB h.g.lt, h.b.below hB h.b.lt, h.bel.trans (hB.mono h.bel.size)⟩
theorem Rd.drew {w : World} {gn gd bn bd an ad en ed G B : Nat} {W : World} (h : Rd w gn gd bn bd an ad en ed G B W) : Rd w gn gd bn bd an ad en ed G B W.drew :=
  ⟨h.box.drew, ⟨h.g.c0, h.g.c1, h.g.lt⟩, ⟨h.b.c0, h.b.c1, h.b.lt⟩, h.bel.drew⟩
theorem Rd.alloc {w : World} {gn gd bn bd an ad en ed G B : Nat} {W : World} (h : Rd w gn gd bn bd an ad en ed G B W) (o : Obj) : Rd w gn gd bn bd an ad en ed G B (W.alloc o) := h.below ((Below.refl _ _).alloc (Nat.le_refl _) o)
theorem Rd.gb {w : World} {gn gd bn bd an ad en ed G B : Nat} {W : World} (h : Rd w gn gd bn bd an ad en ed G B W) : W.cell? ⟨G, 0, none⟩ = some (.int .i64 gn) ∧ W.cell? ⟨G, 1, none⟩ = some (.int .i64 gd) ∧ W.cell? ⟨B, 0, none⟩ = some (.int .i64 bn) ∧ W.cell? ⟨B, 1, none⟩ = some (.int .i64 bd) := ⟨h.g.c0, h.g.c1, h.b.c0, h.b.c1⟩
theorem Rd.ae {w : World} {gn gd bn bd an ad en ed G B : Nat} {W : World} (h : Rd w gn gd bn bd an ad en ed G B W) : W.cell? ⟨w.heap.size, 4, none⟩ = some (.int .i64 an) ∧ W.cell? ⟨w.heap.size, 5, none⟩ = some (.int .i64 ad) ∧ W.cell? ⟨w.heap.size, 6, none⟩ = some (.int .i64 en) ∧ W.cell? ⟨w.heap.size, 7, none⟩ = some (.int .i64 ed) := h.box.cells.2.2.2.2
theorem r2_fresh (n d : Nat) (W : World) : R2 W.heap.size n d (W.alloc (.cells #[.int .i64 n, .int .i64 d] 23)) := by
  constructor <;> simp [World.cell?_alloc_new]
theorem rd_fresh1 (w : World) (gn gd bn bd an ad en ed : Nat) : Rd w gn gd bn bd an ad en ed (w.heap.size + 1) (w.heap.size + 1 + 1) (((w.alloc (.cells #[.int .i64 gn, .int .i64 gd, .int .i64 bn, .int .i64 bd, .int .i64 an, .int .i64 ad, .int .i64 en, .int .i64 ed] 25)).alloc (.cells #[.int .i64 gn, .int .i64 gd] 23)).alloc (.cells #[.int .i64 bn, .int .i64 bd] 23)).drew := by
  have a := (D8.fresh w gn gd bn bd an ad en ed)
  have b := r2_fresh gn gd (w.alloc (.cells #[.int .i64 gn, .int .i64 gd, .int .i64 bn, .int .i64 bd, .int .i64 an, .int .i64 ad, .int .i64 en, .int .i64 ed] 25))
  have c := r2_fresh bn bd ((w.alloc (.cells #[.int .i64 gn, .int .i64 gd, .int .i64 bn, .int .i64 bd, .int .i64 an, .int .i64 ad, .int .i64 en, .int .i64 ed] 25)).alloc (.cells #[.int .i64 gn, .int .i64 gd] 23))
  rw [World.size_alloc] at b
  rw [World.size_alloc, World.size_alloc] at c
  exact Rd.drew ⟨(a.below ((Below.refl _ _).alloc (Nat.le_refl _) _) a.lt).below ((Below.refl _ _).alloc (Nat.le_refl _) _) (by simp; omega), b.below ((Below.refl _ _).alloc (Nat.le_refl _) _) b.lt, c, (((Below.refl _ _).alloc (Nat.le_refl _) _).alloc (by simp) _).alloc (by simp; omega) _⟩
theorem rd_fresh2 (w : World) (gn gd bn bd an ad en ed : Nat) : Rd w gn gd bn bd an ad en ed (w.heap.size + 1 + 1) (w.heap.size + 1) (((w.alloc (.cells #[.int .i64 gn, .int .i64 gd, .int .i64 bn, .int .i64 bd, .int .i64 an, .int .i64 ad, .int .i64 en, .int .i64 ed] 25)).alloc (.cells #[.int .i64 bn, .int .i64 bd] 23)).alloc (.cells #[.int .i64 gn, .int .i64 gd] 23)).drew := by
  have a := (D8.fresh w gn gd bn bd an ad en ed)
  have b := r2_fresh bn bd (w.alloc (.cells #[.int .i64 gn, .int .i64 gd, .int .i64 bn, .int .i64 bd, .int .i64 an, .int .i64 ad, .int .i64 en, .int .i64 ed] 25))
  have c := r2_fresh gn gd ((w.alloc (.cells #[.int .i64 gn, .int .i64 gd, .int .i64 bn, .int .i64 bd, .int .i64 an, .int .i64 ad, .int .i64 en, .int .i64 ed] 25)).alloc (.cells #[.int .i64 bn, .int .i64 bd] 23))
  rw [World.size_alloc] at b
  rw [World.size_alloc, World.size_alloc] at c
  exact Rd.drew ⟨(a.below ((Below.refl _ _).alloc (Nat.le_refl _) _) a.lt).below ((Below.refl _ _).alloc (Nat.le_refl _) _) (by simp; omega), c, b.below ((Below.refl _ _).alloc (Nat.le_refl _) _) b.lt, (((Below.refl _ _).alloc (Nat.le_refl _) _).alloc (by simp) _).alloc (by simp; omega) _⟩
theorem digs_1' : digs B4 1 = [1] := by rw [digs_one B4 1 (by decide) (by decide)]; rfl

set_option maxHeartbeats 4000000 in
set_option maxRecDepth 100000 in
theorem refDecide_walk (gn gd bn bd an ad en ed p f q1 q2 q3 q4 d1 d2 d3 d4 : Nat) (r : Int) (r1 r2 : Bool) (w : World)
    (e1 : IntKind.i64.wrap ((bn : Int) * gd) = q1) (e2 : IntKind.i64.wrap ((bd : Int) - bn) = d1) (e3 : IntKind.i64.wrap ((d1 : Int) * gd) = q2)
    (e4 : IntKind.i64.wrap ((bd : Int) * gn) = q3) (e5 : IntKind.i64.wrap ((gd : Int) - gn) = d2) (e6 : IntKind.i64.wrap ((bd : Int) * d2) = q4)
    (e8 : IntKind.i64.wrap ((ed : Int) - en) = d3) (e10 : IntKind.i64.wrap ((ad : Int) - an) = d4)
    (hp : p ≤ 40) (hf : f ≤ 40) (r1' : 1 ≤ q1 ∧ q1 ≤ 400) (r2' : 1 ≤ q2 ∧ q2 ≤ 400) (r3 : 1 ≤ q3 ∧ q3 ≤ 400) (r4 : 1 ≤ q4 ∧ q4 ≤ 400)
    (s1 : 1 ≤ d3 ∧ d3 ≤ 400) (s2 : 1 ≤ ad ∧ ad ≤ 400) (s3 : 1 ≤ ed ∧ ed ≤ 400) (s4 : 1 ≤ an ∧ an ≤ 400) (s5 : 1 ≤ d4 ∧ d4 ≤ 400) (s6 : 1 ≤ en ∧ en ≤ 400)
    (hc1 : decide ((1 * q3 ^ p * q4 ^ f) * d3 * ad ≤ (1 * q1 ^ p * q2 ^ f) * ed * an) = r1) (hc2 : decide ((1 * q1 ^ p * q2 ^ f) * ed * d4 ≤ (1 * q3 ^ p * q4 ^ f) * en * ad) = r2)
    (hr : (r1 = true ∧ r = 2) ∨ (r1 = false ∧ r2 = true ∧ r = 1) ∨ (r1 = false ∧ r2 = false ∧ r = 0)) :
    Calls Try.prog 28 #[trialV gn gd bn bd an ad en ed, .int .i64 p, .int .i64 f] w fun e w' => e = .returned (.int .i64 r) ∧ Below w.heap.size w w' := by
  have R1 := Lib.hid r1'
  have R2 := Lib.hid r2'
  have R3 := Lib.hid r3
  have R4 := Lib.hid r4
  have S1 := Lib.hid s1
  have S2 := Lib.hid s2
  have S3 := Lib.hid s3
  have S4 := Lib.hid s4
  have S5 := Lib.hid s5
  have S6 := Lib.hid s6
  have C1 := Lib.hid hc1
  have C2 := Lib.hid hc2
  have HR := Lib.hid hr
  have m1 := Lib.hid (pow_pos1 1 q1 p (Nat.le_refl _) r1'.1)
  have m2 := Lib.hid (pow_pos1 _ q2 f m1.out r2'.1)
  have m3 := Lib.hid (pow_pos1 1 q3 p (Nat.le_refl _) r3.1)
  have m4 := Lib.hid (pow_pos1 _ q4 f m3.out r4.1)
  have l1 := Lib.hid digs_1'
  have k1 := digs_len_pow B4 1 q1 p (by decide) (by show q1 ≤ 10000; omega)
  have k3 := digs_len_pow B4 1 q3 p (by decide) (by show q3 ≤ 10000; omega)
  have k2 := digs_len_pow B4 (1 * q1 ^ p) q2 f (by decide) (by show q2 ≤ 10000; omega)
  have k4 := digs_len_pow B4 (1 * q3 ^ p) q4 f (by decide) (by show q4 ≤ 10000; omega)
  have k5 := digs_len_mul B4 (1 * q3 ^ p * q4 ^ f) d3 (by decide) (by show d3 ≤ 10000; omega)
  have k6 := digs_len_mul B4 ((1 * q3 ^ p * q4 ^ f) * d3) ad (by decide) (by show ad ≤ 10000; omega)
  have k7 := digs_len_mul B4 (1 * q1 ^ p * q2 ^ f) ed (by decide) (by show ed ≤ 10000; omega)
  have k8 := digs_len_mul B4 ((1 * q1 ^ p * q2 ^ f) * ed) d4 (by decide) (by show d4 ≤ 10000; omega)
  have k9 := digs_len_mul B4 (1 * q3 ^ p * q4 ^ f) en (by decide) (by show en ≤ 10000; omega)
  rw [digs_1', List.length_singleton] at k1 k3
  have K1 : Hid ((digs B4 (1 * q1 ^ p)).length ≤ 500) := Lib.hid (by omega)
  have K3 : Hid ((digs B4 (1 * q3 ^ p)).length ≤ 500) := Lib.hid (by omega)
  have K2 : Hid ((digs B4 (1 * q1 ^ p * q2 ^ f)).length ≤ 1000) := Lib.hid (by omega)
  have K4 : Hid ((digs B4 (1 * q3 ^ p * q4 ^ f)).length ≤ 1000) := Lib.hid (by omega)
  have K5 : Hid ((digs B4 ((1 * q3 ^ p * q4 ^ f) * d3)).length ≤ 1000) := Lib.hid (by omega)
  have K6 : Hid ((digs B4 ((1 * q3 ^ p * q4 ^ f) * d3 * ad)).length ≤ 1000) := Lib.hid (by omega)
  have K7 : Hid ((digs B4 ((1 * q1 ^ p * q2 ^ f) * ed)).length ≤ 1000) := Lib.hid (by omega)
  have K8 : Hid ((digs B4 ((1 * q1 ^ p * q2 ^ f) * ed * d4)).length ≤ 1000) := Lib.hid (by omega)
  have K9 : Hid ((digs B4 ((1 * q3 ^ p * q4 ^ f) * en)).length ≤ 1000) := Lib.hid (by omega)
  have M5 : Hid (1 ≤ (1 * q3 ^ p * q4 ^ f) * d3) := Lib.hid (Nat.mul_pos m4.out s1.1)
  have M7 : Hid (1 ≤ (1 * q1 ^ p * q2 ^ f) * ed) := Lib.hid (Nat.mul_pos m2.out s3.1)
  have M9 : Hid (1 ≤ (1 * q3 ^ p * q4 ^ f) * en) := Lib.hid (Nat.mul_pos m4.out s6.1)
  clear r1' r2' r3 r4 s1 s2 s3 s4 s5 s6 hc1 hc2 hr k1 k2 k3 k4 k5 k6 k7 k8 k9
  go_enter Try.func28, Try.ntmps28
  go_upto_region 1 with fail
  go_cut [7, 8] (fun s7 s8 W => ∃ G B : Nat, s7 = .pointer (some ⟨G, 0, none⟩) ∧ s8 = .pointer (some ⟨B, 0, none⟩) ∧ Rd w gn gd bn bd an ad en ed G B W)
  case first =>
    go_region
    all_goals (go_wp2; go_meet)
    · exact ⟨_, _, rfl, rfl, rd_fresh1 w gn gd bn bd an ad en ed⟩
    · exact ⟨_, _, rfl, rfl, rd_fresh2 w gn gd bn bd an ad en ed⟩
  case rest =>
    obtain ⟨G, B, rfl, rfl, st⟩ := hcut
    have st1 := st.drew
    have st2 := (st.alloc (.cells #[.int .i64 1] 3)).drew
    have N1 := Lib.hid (isLong_one wc).drew
    clear st
    go_wp2
    go_region_held3 (fun V => V.cell? ⟨G, 0, none⟩ = some (.int .i64 gn) ∧ V.cell? ⟨G, 1, none⟩ = some (.int .i64 gd) ∧ V.cell? ⟨B, 0, none⟩ = some (.int .i64 bn) ∧ V.cell? ⟨B, 1, none⟩ = some (.int .i64 bd)) (first | exact hh.gb | exact st2.gb | exact st1.gb | exact (st1.alloc _).gb)
      (first | (go_at_call 32; (with_reducible refine (refPower_any 1 q1 p _ _ (Nat.le_refl _) R1.out.1 R1.out.2 (by omega) (by rw [l1.out]; decide) (by rw [l1.out]; exact N1.out)).mono ?_); rintro e w1 ⟨v1, rfl, L1, hb1⟩; have hh := st2.below hb1) | (go_at_call 32; (with_reducible refine (refPower_any (1 * q1 ^ p) q2 f _ _ m1.out R2.out.1 R2.out.2 (by omega) K1.out L1).mono ?_); rintro e w2 ⟨v2, rfl, L2, hb2⟩; have hh := hh.below hb2))
    have st1' := hh.drew
    have st3 := (hh.alloc (.cells #[.int .i64 1] 3)).drew
    have A3 := Lib.hid ((L2.below ((Below.refl _ _).alloc (Nat.le_refl _) (.cells #[.int .i64 1] 3)) (Nat.le_refl _)).drew)
    have N2 := Lib.hid (isLong_one w2).drew
    clear st1 st2 hh hb1 hb2 L1 L2 N1
    go_wp2
    go_region_held3 (fun V => V.cell? ⟨G, 0, none⟩ = some (.int .i64 gn) ∧ V.cell? ⟨G, 1, none⟩ = some (.int .i64 gd) ∧ V.cell? ⟨B, 0, none⟩ = some (.int .i64 bn) ∧ V.cell? ⟨B, 1, none⟩ = some (.int .i64 bd)) (first | exact hh.gb | exact st3.gb | exact st1'.gb | exact (st1'.alloc _).gb)
      (first | (go_at_call 32; (with_reducible refine (refPower_any 1 q3 p _ _ (Nat.le_refl _) R3.out.1 R3.out.2 (by omega) (by rw [l1.out]; decide) (by rw [l1.out]; exact N2.out)).mono ?_); rintro e w3 ⟨v3, rfl, L3, hb3⟩; have hh := st3.below hb3; have A4 := Lib.hid (A3.out.below hb3 (Nat.le_refl _))) | (go_at_call 32; (with_reducible refine (refPower_any (1 * q3 ^ p) q4 f _ _ m3.out R4.out.1 R4.out.2 (by omega) K3.out L3).mono ?_); rintro e w4 ⟨v4, rfl, L4, hb4⟩; have hh := hh.below hb4; have A5 := Lib.hid (A4.out.below hb4 (Nat.le_refl _))))
    have st4 := hh.drew
    have A := Lib.hid A5.out.drew
    have D := Lib.hid L4.drew
    clear st1' st3 hh hb3 hb4 L3 L4 N2 A3 A4 A5
    go_wp2
    go_region_held3 (fun V => V.cell? ⟨w.heap.size, 4, none⟩ = some (.int .i64 an) ∧ V.cell? ⟨w.heap.size, 5, none⟩ = some (.int .i64 ad) ∧ V.cell? ⟨w.heap.size, 6, none⟩ = some (.int .i64 en) ∧ V.cell? ⟨w.heap.size, 7, none⟩ = some (.int .i64 ed)) (first | exact hh.ae | exact st4.ae)
      (first | (go_at_call 34; (with_reducible refine (refTimes_any ((1 * q3 ^ p * q4 ^ f)) d3 _ _ m4.out S1.out.1 S1.out.2 K4.out D.out).mono ?_); rintro e wa1 ⟨vwa1, rfl, Lwa1, hwa1⟩; have hh := st4.below hwa1; have A1 := Lib.hid (A.out.below hwa1 (Nat.le_refl _)); have D1 := Lib.hid (D.out.below hwa1 (Nat.le_refl _)); have Pwa1 := Lib.hid Lwa1) | (go_at_call 34; (with_reducible refine (refTimes_any ((1 * q3 ^ p * q4 ^ f) * d3) ad _ _ M5.out S2.out.1 S2.out.2 K5.out Pwa1.out).mono ?_); rintro e wa2 ⟨vwa2, rfl, Lwa2, hwa2⟩; have hh := hh.below hwa2; have A12 := Lib.hid (A1.out.below hwa2 (Nat.le_refl _)); have D12 := Lib.hid (D1.out.below hwa2 (Nat.le_refl _)); have Pwa12 := Lib.hid (Pwa1.out.below hwa2 (Nat.le_refl _)); have Pwa2 := Lib.hid Lwa2) | (go_at_call 34; (with_reducible refine (refTimes_any ((1 * q1 ^ p * q2 ^ f)) ed _ _ m2.out S3.out.1 S3.out.2 K2.out A12.out).mono ?_); rintro e wa3 ⟨vwa3, rfl, Lwa3, hwa3⟩; have hh := hh.below hwa3; have A123 := Lib.hid (A12.out.below hwa3 (Nat.le_refl _)); have D123 := Lib.hid (D12.out.below hwa3 (Nat.le_refl _)); have Pwa123 := Lib.hid (Pwa12.out.below hwa3 (Nat.le_refl _)); have Pwa23 := Lib.hid (Pwa2.out.below hwa3 (Nat.le_refl _)); have Pwa3 := Lib.hid Lwa3) | (go_at_call 34; (with_reducible refine (refTimes_any ((1 * q1 ^ p * q2 ^ f) * ed) an _ _ M7.out S4.out.1 S4.out.2 K7.out Pwa3.out).mono ?_); rintro e wa4 ⟨vwa4, rfl, Lwa4, hwa4⟩; have hh := hh.below hwa4; have A1234 := Lib.hid (A123.out.below hwa4 (Nat.le_refl _)); have D1234 := Lib.hid (D123.out.below hwa4 (Nat.le_refl _)); have Pwa1234 := Lib.hid (Pwa123.out.below hwa4 (Nat.le_refl _)); have Pwa234 := Lib.hid (Pwa23.out.below hwa4 (Nat.le_refl _)); have Pwa34 := Lib.hid (Pwa3.out.below hwa4 (Nat.le_refl _)); have Pwa4 := Lib.hid Lwa4) | (go_at_call 33; (with_reducible refine (most_any _ _ _ _ _ K6.out Pwa234.out Pwa4.out _ C1.out).mono ?_); rintro e wa5 ⟨rfl, hwa5⟩; have hh := hh.below hwa5; have AX := Lib.hid (A1234.out.below hwa5 (Nat.le_refl _)); have DX := Lib.hid (D1234.out.below hwa5 (Nat.le_refl _))))
    have st5 := hh.drew
    have A' := Lib.hid AX.out.drew
    have D' := Lib.hid DX.out.drew
    have B5 := hh.bel
    clear hh
    rcases HR.out with ⟨rfl, rfl⟩ | ⟨rfl, rfl, rfl⟩ | ⟨rfl, rfl, rfl⟩
    · go_wp2
      go_ret
      exact ⟨rfl, B5⟩
    · go_wp2
      go_region_held3 (fun V => V.cell? ⟨w.heap.size, 4, none⟩ = some (.int .i64 an) ∧ V.cell? ⟨w.heap.size, 5, none⟩ = some (.int .i64 ad) ∧ V.cell? ⟨w.heap.size, 6, none⟩ = some (.int .i64 en) ∧ V.cell? ⟨w.heap.size, 7, none⟩ = some (.int .i64 ed)) (first | exact hh.ae | exact st5.ae)
        (first | (go_at_call 34; (with_reducible refine (refTimes_any ((1 * q1 ^ p * q2 ^ f)) ed _ _ m2.out S3.out.1 S3.out.2 K2.out A'.out).mono ?_); rintro e wb1 ⟨vwb1, rfl, Lwb1, hwb1⟩; have hh := st5.below hwb1; have A'1 := Lib.hid (A'.out.below hwb1 (Nat.le_refl _)); have D'1 := Lib.hid (D'.out.below hwb1 (Nat.le_refl _)); have Pwb1 := Lib.hid Lwb1) | (go_at_call 34; (with_reducible refine (refTimes_any ((1 * q1 ^ p * q2 ^ f) * ed) d4 _ _ M7.out S5.out.1 S5.out.2 K7.out Pwb1.out).mono ?_); rintro e wb2 ⟨vwb2, rfl, Lwb2, hwb2⟩; have hh := hh.below hwb2; have A'12 := Lib.hid (A'1.out.below hwb2 (Nat.le_refl _)); have D'12 := Lib.hid (D'1.out.below hwb2 (Nat.le_refl _)); have Pwb12 := Lib.hid (Pwb1.out.below hwb2 (Nat.le_refl _)); have Pwb2 := Lib.hid Lwb2) | (go_at_call 34; (with_reducible refine (refTimes_any ((1 * q3 ^ p * q4 ^ f)) en _ _ m4.out S6.out.1 S6.out.2 K4.out D'12.out).mono ?_); rintro e wb3 ⟨vwb3, rfl, Lwb3, hwb3⟩; have hh := hh.below hwb3; have A'123 := Lib.hid (A'12.out.below hwb3 (Nat.le_refl _)); have D'123 := Lib.hid (D'12.out.below hwb3 (Nat.le_refl _)); have Pwb123 := Lib.hid (Pwb12.out.below hwb3 (Nat.le_refl _)); have Pwb23 := Lib.hid (Pwb2.out.below hwb3 (Nat.le_refl _)); have Pwb3 := Lib.hid Lwb3) | (go_at_call 34; (with_reducible refine (refTimes_any ((1 * q3 ^ p * q4 ^ f) * en) ad _ _ M9.out S2.out.1 S2.out.2 K9.out Pwb3.out).mono ?_); rintro e wb4 ⟨vwb4, rfl, Lwb4, hwb4⟩; have hh := hh.below hwb4; have A'1234 := Lib.hid (A'123.out.below hwb4 (Nat.le_refl _)); have D'1234 := Lib.hid (D'123.out.below hwb4 (Nat.le_refl _)); have Pwb1234 := Lib.hid (Pwb123.out.below hwb4 (Nat.le_refl _)); have Pwb234 := Lib.hid (Pwb23.out.below hwb4 (Nat.le_refl _)); have Pwb34 := Lib.hid (Pwb3.out.below hwb4 (Nat.le_refl _)); have Pwb4 := Lib.hid Lwb4) | (go_at_call 33; (with_reducible refine (most_any _ _ _ _ _ K8.out Pwb234.out Pwb4.out _ C2.out).mono ?_); rintro e wb5 ⟨rfl, hwb5⟩; have hh := hh.below hwb5))
      go_wp2
      go_ret
      exact ⟨rfl, hh.bel⟩
    · go_wp2
      go_region_held3 (fun V => V.cell? ⟨w.heap.size, 4, none⟩ = some (.int .i64 an) ∧ V.cell? ⟨w.heap.size, 5, none⟩ = some (.int .i64 ad) ∧ V.cell? ⟨w.heap.size, 6, none⟩ = some (.int .i64 en) ∧ V.cell? ⟨w.heap.size, 7, none⟩ = some (.int .i64 ed)) (first | exact hh.ae | exact st5.ae)
        (first | (go_at_call 34; (with_reducible refine (refTimes_any ((1 * q1 ^ p * q2 ^ f)) ed _ _ m2.out S3.out.1 S3.out.2 K2.out A'.out).mono ?_); rintro e wb1 ⟨vwb1, rfl, Lwb1, hwb1⟩; have hh := st5.below hwb1; have A'1 := Lib.hid (A'.out.below hwb1 (Nat.le_refl _)); have D'1 := Lib.hid (D'.out.below hwb1 (Nat.le_refl _)); have Pwb1 := Lib.hid Lwb1) | (go_at_call 34; (with_reducible refine (refTimes_any ((1 * q1 ^ p * q2 ^ f) * ed) d4 _ _ M7.out S5.out.1 S5.out.2 K7.out Pwb1.out).mono ?_); rintro e wb2 ⟨vwb2, rfl, Lwb2, hwb2⟩; have hh := hh.below hwb2; have A'12 := Lib.hid (A'1.out.below hwb2 (Nat.le_refl _)); have D'12 := Lib.hid (D'1.out.below hwb2 (Nat.le_refl _)); have Pwb12 := Lib.hid (Pwb1.out.below hwb2 (Nat.le_refl _)); have Pwb2 := Lib.hid Lwb2) | (go_at_call 34; (with_reducible refine (refTimes_any ((1 * q3 ^ p * q4 ^ f)) en _ _ m4.out S6.out.1 S6.out.2 K4.out D'12.out).mono ?_); rintro e wb3 ⟨vwb3, rfl, Lwb3, hwb3⟩; have hh := hh.below hwb3; have A'123 := Lib.hid (A'12.out.below hwb3 (Nat.le_refl _)); have D'123 := Lib.hid (D'12.out.below hwb3 (Nat.le_refl _)); have Pwb123 := Lib.hid (Pwb12.out.below hwb3 (Nat.le_refl _)); have Pwb23 := Lib.hid (Pwb2.out.below hwb3 (Nat.le_refl _)); have Pwb3 := Lib.hid Lwb3) | (go_at_call 34; (with_reducible refine (refTimes_any ((1 * q3 ^ p * q4 ^ f) * en) ad _ _ M9.out S2.out.1 S2.out.2 K9.out Pwb3.out).mono ?_); rintro e wb4 ⟨vwb4, rfl, Lwb4, hwb4⟩; have hh := hh.below hwb4; have A'1234 := Lib.hid (A'123.out.below hwb4 (Nat.le_refl _)); have D'1234 := Lib.hid (D'123.out.below hwb4 (Nat.le_refl _)); have Pwb1234 := Lib.hid (Pwb123.out.below hwb4 (Nat.le_refl _)); have Pwb234 := Lib.hid (Pwb23.out.below hwb4 (Nat.le_refl _)); have Pwb34 := Lib.hid (Pwb3.out.below hwb4 (Nat.le_refl _)); have Pwb4 := Lib.hid Lwb4) | (go_at_call 33; (with_reducible refine (most_any _ _ _ _ _ K8.out Pwb234.out Pwb4.out _ C2.out).mono ?_); rintro e wb5 ⟨rfl, hwb5⟩; have hh := hh.below hwb5))
      go_wp2
      go_ret
      exact ⟨rfl, hh.bel⟩
end Go.Proofs.Ytldpdoakfacdbaa
