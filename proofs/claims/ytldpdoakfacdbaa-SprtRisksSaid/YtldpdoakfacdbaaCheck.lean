/- Check of program and reference, at this translation. -/
import Derived.Test.YtldpdoakfacdbaaChecked
import Derived.Test.YtldpdoakfacdbaaDec
import Derived.WalkKit
import Derived.LoopTactic
import Derived.Lib.Hide
import Derived.KernelRfl
import Derived.BigQuiet
import Derived.Deep.RegionHeld3
namespace Go.Proofs.Ytldpdoakfacdbaa
open Go.RowKit

/-- Is the ratio between 0 and 1, with a denominator of at most 20? -/
def ratioB (n d : Int) : Bool := decide (1 ≤ d ∧ d ≤ 20 ∧ 1 ≤ n ∧ n < d)
theorem ratioB_true {n d : Int} (h : ratioB n d = true) : 1 ≤ d ∧ d ≤ 20 ∧ 1 ≤ n ∧ n < d := of_decide_eq_true h
theorem ratioB_false {n d : Int} (h : ¬ (1 ≤ d ∧ d ≤ 20 ∧ 1 ≤ n ∧ n < d)) : ratioB n d = false := decide_eq_false h

set_option maxHeartbeats 1000000 in
theorem ratio24 (n d : Int) (w : World) : Calls Try.prog 24 #[.agg #[.int .i64 n, .int .i64 d]] w fun e w' => e = .returned (.bool (ratioB n d)) ∧ Below w.heap.size w w' := by
  by_cases h : 1 ≤ d ∧ d ≤ 20 ∧ 1 ≤ n ∧ n < d
  · rw [show ratioB n d = true from decide_eq_true h]
    obtain ⟨h1, h2, h3, h4⟩ := h
    have h4' : n ≤ d - 1 := by omega
    go_enter Try.func24, Try.ntmps24
    go_wp2
    go_ret
    exact ⟨rfl, (Below.refl _ _).alloc (Nat.le_refl _) _⟩
  · rw [ratioB_false h]
    by_cases h1 : 1 ≤ d
    · by_cases h2 : d ≤ 20
      · by_cases h3 : 1 ≤ n
        · have h4 : ¬ n ≤ d - 1 := by omega
          clear h
          go_enter Try.func24, Try.ntmps24
          go_wp2
          go_ret
          exact ⟨rfl, (Below.refl _ _).alloc (Nat.le_refl _) _⟩
        · clear h
          go_enter Try.func24, Try.ntmps24
          go_wp2
          go_ret
          exact ⟨rfl, (Below.refl _ _).alloc (Nat.le_refl _) _⟩
      · clear h
        go_enter Try.func24, Try.ntmps24
        go_wp2
        go_ret
        exact ⟨rfl, (Below.refl _ _).alloc (Nat.le_refl _) _⟩
    · clear h
      go_enter Try.func24, Try.ntmps24
      go_wp2
      go_ret
      exact ⟨rfl, (Below.refl _ _).alloc (Nat.le_refl _) _⟩

set_option maxHeartbeats 1000000 in
theorem ratio25 (n d : Int) (w : World) : Calls Try.prog 25 #[.agg #[.int .i64 n, .int .i64 d]] w fun e w' => e = .returned (.bool (ratioB n d)) ∧ Below w.heap.size w w' := by
  by_cases h : 1 ≤ d ∧ d ≤ 20 ∧ 1 ≤ n ∧ n < d
  · rw [show ratioB n d = true from decide_eq_true h]
    obtain ⟨h1, h2, h3, h4⟩ := h
    go_enter Try.func25, Try.ntmps25
    go_wp2
    go_ret
    exact ⟨rfl, (Below.refl _ _).alloc (Nat.le_refl _) _⟩
  · rw [ratioB_false h]
    by_cases h1 : 1 ≤ d
    · by_cases h2 : d ≤ 20
      · by_cases h3 : 1 ≤ n
        · have h4 : ¬ n < d := by omega
          clear h
          go_enter Try.func25, Try.ntmps25
          go_wp2
          go_ret
          exact ⟨rfl, (Below.refl _ _).alloc (Nat.le_refl _) _⟩
        · clear h
          go_enter Try.func25, Try.ntmps25
          go_wp2
          go_ret
          exact ⟨rfl, (Below.refl _ _).alloc (Nat.le_refl _) _⟩
      · clear h
        go_enter Try.func25, Try.ntmps25
        go_wp2
        go_ret
        exact ⟨rfl, (Below.refl _ _).alloc (Nat.le_refl _) _⟩
    · clear h
      go_enter Try.func25, Try.ntmps25
      go_wp2
      go_ret
      exact ⟨rfl, (Below.refl _ _).alloc (Nat.le_refl _) _⟩

abbrev trialV (gn gd bn bd an ad en ed : Int) : Value := .agg #[.int .i64 gn, .int .i64 gd, .int .i64 bn, .int .i64 bd, .int .i64 an, .int .i64 ad, .int .i64 en, .int .i64 ed]

/-- Are the two comparisons of Check met? -/
def crossB (gn gd bn bd an ad en ed : Int) : Bool := decide (bn * gd < gn * bd) && decide (an * ed + en * ad < ad * ed)
/-- Is the trial valid? -/
def chkB (gn gd bn bd an ad en ed : Int) : Bool := ratioB gn gd && ratioB bn bd && ratioB an ad && ratioB en ed && crossB gn gd bn bd an ad en ed
/-- What Check returns. -/
def chk (gn gd bn bd an ad en ed : Int) : Int := if chkB gn gd bn bd an ad en ed then 0 else 1

/-- The eight numbers lie in a block. -/
structure L8 (gn gd bn bd an ad en ed : Int) (M : Nat) (W : World) : Prop where
  c0 : W.cell? ⟨M, 0, none⟩ = some (.int .i64 gn)
  c1 : W.cell? ⟨M, 1, none⟩ = some (.int .i64 gd)
  c2 : W.cell? ⟨M, 2, none⟩ = some (.int .i64 bn)
  c3 : W.cell? ⟨M, 3, none⟩ = some (.int .i64 bd)
  c4 : W.cell? ⟨M, 4, none⟩ = some (.int .i64 an)
  c5 : W.cell? ⟨M, 5, none⟩ = some (.int .i64 ad)
  c6 : W.cell? ⟨M, 6, none⟩ = some (.int .i64 en)
  c7 : W.cell? ⟨M, 7, none⟩ = some (.int .i64 ed)
  lt : M < W.heap.size
theorem L8.below {gn gd bn bd an ad en ed : Int} {M : Nat} {W W' : World} (h : L8 gn gd bn bd an ad en ed M W) {B : Nat} (hB : Below B W W') (hN : M < B) : L8 gn gd bn bd an ad en ed M W' := by
  have k := fun o => hB.cell (p := ⟨M, o, none⟩) hN
  exact ⟨(k 0).trans h.c0, (k 1).trans h.c1, (k 2).trans h.c2, (k 3).trans h.c3, (k 4).trans h.c4, (k 5).trans h.c5, (k 6).trans h.c6, (k 7).trans h.c7, Nat.lt_of_lt_of_le h.lt hB.size⟩
theorem L8.fresh (gn gd bn bd an ad en ed : Int) (w : World) (t : TypeId) : L8 gn gd bn bd an ad en ed w.heap.size (w.alloc (.cells #[.int .i64 gn, .int .i64 gd, .int .i64 bn, .int .i64 bd, .int .i64 an, .int .i64 ad, .int .i64 en, .int .i64 ed] t)) := by
  constructor <;> simp [World.cell?_alloc_new]

theorem ratio24' (n d : Int) (b : Bool) (h : ratioB n d = b) (w : World) : Calls Try.prog 24 #[.agg #[.int .i64 n, .int .i64 d]] w fun e w' => e = .returned (.bool b) ∧ Below w.heap.size w w' := h ▸ ratio24 n d w
theorem ratio25' (n d : Int) (b : Bool) (h : ratioB n d = b) (w : World) : Calls Try.prog 25 #[.agg #[.int .i64 n, .int .i64 d]] w fun e w' => e = .returned (.bool b) ∧ Below w.heap.size w w' := h ▸ ratio25 n d w

theorem mul400 (a b : Int) (h1 : 1 ≤ a) (h2 : a ≤ 20) (h3 : 1 ≤ b) (h4 : b ≤ 20) : 1 ≤ a * b ∧ a * b ≤ 400 := by
  obtain ⟨x, rfl⟩ := Int.eq_ofNat_of_zero_le (show 0 ≤ a by omega)
  obtain ⟨y, rfl⟩ := Int.eq_ofNat_of_zero_le (show 0 ≤ b by omega)
  have k1 : x * y ≤ 20 * 20 := Nat.mul_le_mul (by omega) (by omega)
  have k2 : 0 < x * y := Nat.mul_pos (by omega) (by omega)
  rw [← Int.natCast_mul]
  omega

theorem bool_or (b : Bool) : b = false ∨ b = true := by cases b <;> simp

set_option maxHeartbeats 4000000 in
theorem check_any (gn gd bn bd an ad en ed : Int) (w : World) : Calls Try.prog 12 #[trialV gn gd bn bd an ad en ed] w fun e w' => e = .returned (.int .i64 (chk gn gd bn bd an ad en ed)) ∧ Below w.heap.size w w' := by
  go_enter Try.func12, Try.ntmps12
  go_wp2
  go_loopw [15] (fun i wr => ((i = .int .i64 0) ∨ (i = .int .i64 1 ∧ Hid (ratioB gn gd = true)) ∨ (i = .int .i64 2 ∧ Hid (ratioB gn gd = true ∧ ratioB bn bd = true)) ∨ (i = .int .i64 3 ∧ Hid (ratioB gn gd = true ∧ ratioB bn bd = true ∧ ratioB an ad = true)) ∨ (i = .int .i64 4 ∧ Hid (ratioB gn gd = true ∧ ratioB bn bd = true ∧ ratioB an ad = true ∧ ratioB en ed = true))) ∧
      L8 gn gd bn bd an ad en ed w.heap.size wr ∧ L8 gn gd bn bd an ad en ed (w.heap.size + 1) wr ∧ Below w.heap.size w wr) (fun i _ => (4 - intOf i).toNat)
  case atStart =>
    refine ⟨.inl rfl, (L8.fresh gn gd bn bd an ad en ed w 25).below ((Below.refl _ _).alloc (Nat.le_refl _) _) (by simp), ?_, ((Below.refl _ _).alloc (Nat.le_refl _) _).alloc (by simp) _⟩
    have := L8.fresh gn gd bn bd an ad en ed (w.alloc (.cells #[.int .i64 gn, .int .i64 gd, .int .i64 bn, .int .i64 bd, .int .i64 an, .int .i64 ad, .int .i64 en, .int .i64 ed] 25)) 23
    rwa [World.size_alloc] at this
  case round =>
    obtain ⟨⟨rfl⟩ | ⟨rfl, hq⟩ | ⟨rfl, hq⟩ | ⟨rfl, hq⟩ | ⟨rfl, hq⟩, k1, k2, hB⟩ := hrel
    · have HK := Lib.hid k2
      obtain ⟨c0, c1, c2, c3, c4, c5, c6, c7, lt⟩ := k2
      clear c2 c3 c4 c5 c6 c7
      obtain hb | hb := bool_or (ratioB gn gd)
      · have HB := Lib.hid hb
        clear hb
        go_wp2_with fail
        ((with_reducible refine (ratio24' gn gd false HB.out _).mono ?_); rintro e w1 ⟨rfl, hb1⟩)
        go_wp2
        go_ret
        exact ⟨by simp [chk, chkB, HB.out], hB.trans (((Below.refl _ _).alloc hB.size _).trans (hb1.mono (by have := hB.size; simp; omega)))⟩
      · have HB := Lib.hid hb
        clear hb
        go_wp2_with fail
        ((with_reducible refine (ratio24' gn gd true HB.out _).mono ?_); rintro e w1 ⟨rfl, hb1⟩)
        have hb2 : Below wr.heap.size wr w1 := ((Below.refl _ _).alloc (Nat.le_refl _) _).trans (hb1.mono (by simp))
        go_wp2
        go_roundw
        case rel => exact ⟨.inr (.inl ⟨rfl, HB.out⟩), k1.below hb2 k1.lt, HK.out.below hb2 HK.out.lt, hB.trans (hb2.mono hB.size)⟩
        case measure => simp [intOf]
    · have HK := Lib.hid k2
      obtain ⟨c0, c1, c2, c3, c4, c5, c6, c7, lt⟩ := k2
      clear c0 c1 c4 c5 c6 c7
      have HQ := Lib.hid hq
      clear hq
      obtain hb | hb := bool_or (ratioB bn bd)
      · have HB := Lib.hid hb
        clear hb
        go_wp2_with fail
        ((with_reducible refine (ratio24' bn bd false HB.out _).mono ?_); rintro e w1 ⟨rfl, hb1⟩)
        go_wp2
        go_ret
        exact ⟨by simp [chk, chkB, HQ.out.out, HB.out], hB.trans (((Below.refl _ _).alloc hB.size _).trans (hb1.mono (by have := hB.size; simp; omega)))⟩
      · have HB := Lib.hid hb
        clear hb
        go_wp2_with fail
        ((with_reducible refine (ratio24' bn bd true HB.out _).mono ?_); rintro e w1 ⟨rfl, hb1⟩)
        have hb2 : Below wr.heap.size wr w1 := ((Below.refl _ _).alloc (Nat.le_refl _) _).trans (hb1.mono (by simp))
        go_wp2
        go_roundw
        case rel => exact ⟨.inr (.inr (.inl ⟨rfl, HQ.out.out, HB.out⟩)), k1.below hb2 k1.lt, HK.out.below hb2 HK.out.lt, hB.trans (hb2.mono hB.size)⟩
        case measure => simp [intOf]
    · have HK := Lib.hid k2
      obtain ⟨c0, c1, c2, c3, c4, c5, c6, c7, lt⟩ := k2
      clear c0 c1 c2 c3 c6 c7
      have HQ := Lib.hid hq
      clear hq
      obtain hb | hb := bool_or (ratioB an ad)
      · have HB := Lib.hid hb
        clear hb
        go_wp2_with fail
        ((with_reducible refine (ratio24' an ad false HB.out _).mono ?_); rintro e w1 ⟨rfl, hb1⟩)
        go_wp2
        go_ret
        exact ⟨by simp [chk, chkB, HQ.out.out.1, HQ.out.out.2, HB.out], hB.trans (((Below.refl _ _).alloc hB.size _).trans (hb1.mono (by have := hB.size; simp; omega)))⟩
      · have HB := Lib.hid hb
        clear hb
        go_wp2_with fail
        ((with_reducible refine (ratio24' an ad true HB.out _).mono ?_); rintro e w1 ⟨rfl, hb1⟩)
        have hb2 : Below wr.heap.size wr w1 := ((Below.refl _ _).alloc (Nat.le_refl _) _).trans (hb1.mono (by simp))
        go_wp2
        go_roundw
        case rel => exact ⟨.inr (.inr (.inr (.inl ⟨rfl, HQ.out.out.1, HQ.out.out.2, HB.out⟩))), k1.below hb2 k1.lt, HK.out.below hb2 HK.out.lt, hB.trans (hb2.mono hB.size)⟩
        case measure => simp [intOf]
    · have HK := Lib.hid k2
      obtain ⟨c0, c1, c2, c3, c4, c5, c6, c7, lt⟩ := k2
      clear c0 c1 c2 c3 c4 c5
      have HQ := Lib.hid hq
      clear hq
      obtain hb | hb := bool_or (ratioB en ed)
      · have HB := Lib.hid hb
        clear hb
        go_wp2_with fail
        ((with_reducible refine (ratio24' en ed false HB.out _).mono ?_); rintro e w1 ⟨rfl, hb1⟩)
        go_wp2
        go_ret
        exact ⟨by simp [chk, chkB, HQ.out.out.1, HQ.out.out.2.1, HQ.out.out.2.2, HB.out], hB.trans (((Below.refl _ _).alloc hB.size _).trans (hb1.mono (by have := hB.size; simp; omega)))⟩
      · have HB := Lib.hid hb
        clear hb
        go_wp2_with fail
        ((with_reducible refine (ratio24' en ed true HB.out _).mono ?_); rintro e w1 ⟨rfl, hb1⟩)
        have hb2 : Below wr.heap.size wr w1 := ((Below.refl _ _).alloc (Nat.le_refl _) _).trans (hb1.mono (by simp))
        go_wp2
        go_roundw
        case rel => exact ⟨.inr (.inr (.inr (.inr ⟨rfl, HQ.out.out.1, HQ.out.out.2.1, HQ.out.out.2.2, HB.out⟩))), k1.below hb2 k1.lt, HK.out.below hb2 HK.out.lt, hB.trans (hb2.mono hB.size)⟩
        case measure => simp [intOf]
    · have HQ := Lib.hid hq
      obtain ⟨c0, c1, c2, c3, c4, c5, c6, c7, lt⟩ := k1
      clear k2
      obtain ⟨g1, g2, g3, g4⟩ := ratioB_true hq.out.1
      obtain ⟨b1, b2, b3, b4⟩ := ratioB_true hq.out.2.1
      obtain ⟨a1, a2, a3, a4⟩ := ratioB_true hq.out.2.2.1
      obtain ⟨f1, f2, f3, f4⟩ := ratioB_true hq.out.2.2.2
      have p1 := mul400 bn gd b3 (by omega) g1 g2
      have p2 := mul400 gn bd g3 (by omega) b1 b2
      have p3 := mul400 an ed a3 (by omega) f1 f2
      have p4 := mul400 en ad f3 (by omega) a1 a2
      have p5 := mul400 ad ed a1 a2 f1 f2
      clear hq
      by_cases h1 : bn * gd < gn * bd
      · by_cases h2 : an * ed + en * ad < ad * ed
        · have HC : chk gn gd bn bd an ad en ed = 0 := by simp [chk, chkB, HQ.out.out.1, HQ.out.out.2.1, HQ.out.out.2.2, crossB, h1, h2]
          have HC' := Lib.hid HC
          clear HC
          go_wp2
          go_ret
          exact ⟨by rw [HC'.out]; rfl, hB⟩
        · have HC : chk gn gd bn bd an ad en ed = 1 := by simp [chk, chkB, HQ.out.out.1, HQ.out.out.2.1, HQ.out.out.2.2, crossB, h1, h2]
          have HC' := Lib.hid HC
          clear HC
          go_wp2
          go_ret
          exact ⟨by rw [HC'.out]; rfl, hB⟩
      · have HC : chk gn gd bn bd an ad en ed = 1 := by simp [chk, chkB, HQ.out.out.1, HQ.out.out.2.1, HQ.out.out.2.2, crossB, h1]
        have HC' := Lib.hid HC
        clear HC
        go_wp2
        go_ret
        exact ⟨by rw [HC'.out]; rfl, hB⟩
end Go.Proofs.Ytldpdoakfacdbaa
