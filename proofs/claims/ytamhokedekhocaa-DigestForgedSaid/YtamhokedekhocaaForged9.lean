/- The law's own walk, at this translation. -/
import Derived.Test.YtamhokedekhocaaForged8
import Derived.BigQuiet
namespace Go.Proofs.Ytamhokedekhocaa
open Go.RowKit
attribute [local go_sem] eq_arr
/-- The law's copy of the claim's digest, in a later world. -/
structure Dbox (w : World) (d0 d1 : Int) (W : World) : Prop where
  d : Two W (w.heap.size + 1) d0 d1
  size : w.heap.size + 1 < W.heap.size
  below : Below w.heap.size w W
theorem Dbox.on {w W W' : World} {d0 d1 : Int} (h : Dbox w d0 d1 W) (hB : Below W.heap.size W W') : Dbox w d0 d1 W' :=
  ⟨h.d.below hB h.size, Nat.lt_of_lt_of_le h.size hB.size, bl h.below hB⟩
theorem Dbox.drew {w W : World} {d0 d1 : Int} (h : Dbox w d0 d1 W) : Dbox w d0 d1 W.drew := ⟨h.d, h.size, h.below.drew⟩
theorem Dbox.first (w : World) (x0 x1 n i d0 d1 : Int) (v : Value) : Dbox w d0 d1 ((w.alloc (.cells #[.int .u64 x0, .int .u64 x1, .int .i64 n, .int .i64 i, .int .u64 d0, .int .u64 d1, v] 42)).alloc (.cells #[.int .u64 d0, .int .u64 d1] 24)) := by
  have g := Two.fresh (w.alloc (.cells #[.int .u64 x0, .int .u64 x1, .int .i64 n, .int .i64 i, .int .u64 d0, .int .u64 d1, v] 42)) d0 d1 24
  rw [World.size_alloc] at g
  exact ⟨g, by simp, bla (bla (Below.refl _ _) _) _⟩
theorem Dbox.cells {w W : World} {d0 d1 : Int} (h : Dbox w d0 d1 W) : W.cell? ⟨w.heap.size + 1, 0, none⟩ = some (.int .u64 d0) ∧ W.cell? ⟨w.heap.size + 1, 1, none⟩ = some (.int .u64 d1) := ⟨h.d.1, h.d.2.1⟩
theorem Dbox.with {w W : World} {d0 d1 : Int} (h : Dbox w d0 d1 W) {b o : Nat} {x0 x1 : Int} (hb : b < w.heap.size) (e0 : w.cell? ⟨b, o, none⟩ = some (.int .u64 x0)) (e1 : w.cell? ⟨b, o + 1, none⟩ = some (.int .u64 x1)) :
    W.cell? ⟨w.heap.size + 1, 0, none⟩ = some (.int .u64 d0) ∧ W.cell? ⟨w.heap.size + 1, 1, none⟩ = some (.int .u64 d1) ∧ W.cell? ⟨b, o, none⟩ = some (.int .u64 x0) ∧ W.cell? ⟨b, o + 1, none⟩ = some (.int .u64 x1) :=
  ⟨h.d.1, h.d.2.1, (h.below.cell (p := ⟨b, o, none⟩) hb).trans e0, (h.below.cell (p := ⟨b, o + 1, none⟩) hb).trans e1⟩
set_option maxRecDepth 100000 in
set_option maxHeartbeats 8000000 in
theorem forged_long (x0 x1 n i d0 d1 : Int) (a a2 : Option Addr) (len cap m cap2 : Nat) (hl : len ≤ maxLen) (_hm : m ≤ maxLen) (h20 : 20 < len) (w : World) :
    Calls Try.prog 9 #[.slice a len cap, .agg #[.int .u64 x0, .int .u64 x1, .int .i64 n, .int .i64 i, .int .u64 d0, .int .u64 d1, .slice a2 m cap2]] w fun e w' => e = .returned (.bool true) ∧ Below w.heap.size w w' := by
  unfold maxLen at hl
  have hp : decide ((20 : Int) < (len : Int)) = true := decide_eq_true (by omega)
  go_enter Try.func9, Try.ntmps9
  go_wp2
  have start : Claimed w x0 x1 n i d0 d1 (.slice a2 m cap2) (w.alloc (.cells #[.int .u64 x0, .int .u64 x1, .int .i64 n, .int .i64 i, .int .u64 d0, .int .u64 d1, .slice a2 m cap2] 42)).drew :=
    ⟨by go_simp, by go_simp, by go_simp, by go_simp, by go_simp, by go_simp, by go_simp, by simp, (bla (Below.refl _ _) _).drew⟩
  have hd := (Dbox.first w x0 x1 n i d0 d1 (.slice a2 m cap2)).drew
  go_region_held3 (fun W => W.cell? ⟨w.heap.size, 3, none⟩ = some (.int .i64 i) ∧ W.cell? ⟨w.heap.size, 4, none⟩ = some (.int .u64 d0) ∧ W.cell? ⟨w.heap.size, 5, none⟩ = some (.int .u64 d1) ∧ W.cell? ⟨w.heap.size, 6, none⟩ = some (.slice a2 m cap2)) (first | exact ⟨start.c3, start.c4, start.c5, start.c6⟩ | (go_keep))
    (fail)
  clear start
  go_wp2
  have hd0 := Dbox.first w x0 x1 n i d0 d1 (.slice a2 m cap2)
  obtain ⟨_, _⟩ := hd0.cells
  go_quiet (fail)
  go_wp2_with fail
  refine (awake_any _).mono ?_
  rintro e w5 ⟨rfl, hq5⟩
  go_wp2
  go_ret
  exact ⟨rfl, bl (blN hd0.below _) hq5⟩
set_option maxRecDepth 100000 in
set_option maxHeartbeats 8000000 in
theorem forged_proof (x0 x1 n i d0 d1 : Int) (a a2 : Option Addr) (len cap m cap2 : Nat) (hl : len ≤ maxLen) (hm : m ≤ maxLen) (h20 : len ≤ 20) (h50 : 50 < m) (w : World) :
    Calls Try.prog 9 #[.slice a len cap, .agg #[.int .u64 x0, .int .u64 x1, .int .i64 n, .int .i64 i, .int .u64 d0, .int .u64 d1, .slice a2 m cap2]] w fun e w' => e = .returned (.bool true) ∧ Below w.heap.size w w' := by
  unfold maxLen at hl hm
  have hp : decide ((20 : Int) < (len : Int)) = false := decide_eq_false (by omega)
  have hp2 : decide ((50 : Int) < (m : Int)) = true := decide_eq_true (by omega)
  go_enter Try.func9, Try.ntmps9
  go_wp2
  have start : Claimed w x0 x1 n i d0 d1 (.slice a2 m cap2) (w.alloc (.cells #[.int .u64 x0, .int .u64 x1, .int .i64 n, .int .i64 i, .int .u64 d0, .int .u64 d1, .slice a2 m cap2] 42)).drew :=
    ⟨by go_simp, by go_simp, by go_simp, by go_simp, by go_simp, by go_simp, by go_simp, by simp, (bla (Below.refl _ _) _).drew⟩
  have hd := (Dbox.first w x0 x1 n i d0 d1 (.slice a2 m cap2)).drew
  go_region_held3 (fun W => W.cell? ⟨w.heap.size, 3, none⟩ = some (.int .i64 i) ∧ W.cell? ⟨w.heap.size, 4, none⟩ = some (.int .u64 d0) ∧ W.cell? ⟨w.heap.size, 5, none⟩ = some (.int .u64 d1) ∧ W.cell? ⟨w.heap.size, 6, none⟩ = some (.slice a2 m cap2)) (first | exact ⟨start.c3, start.c4, start.c5, start.c6⟩ | (go_keep))
    (fail)
  clear start
  go_wp2
  have hd0 := Dbox.first w x0 x1 n i d0 d1 (.slice a2 m cap2)
  obtain ⟨_, _⟩ := hd0.cells
  go_quiet (fail)
  go_wp2_with fail
  refine (awake_any _).mono ?_
  rintro e w5 ⟨rfl, hq5⟩
  go_wp2
  go_ret
  exact ⟨rfl, bl (blN hd0.below _) hq5⟩
set_option maxRecDepth 100000 in
set_option maxHeartbeats 8000000 in
theorem forged_neg (x0 x1 n i d0 d1 : Int) (a a2 : Option Addr) (len cap m cap2 : Nat) (hl : len ≤ maxLen) (hm : m ≤ maxLen) (h20 : len ≤ 20) (h50 : m ≤ 50) (hi : i < 0) (w : World) :
    Calls Try.prog 9 #[.slice a len cap, .agg #[.int .u64 x0, .int .u64 x1, .int .i64 n, .int .i64 i, .int .u64 d0, .int .u64 d1, .slice a2 m cap2]] w fun e w' => e = .returned (.bool true) ∧ Below w.heap.size w w' := by
  unfold maxLen at hl hm
  have hp3 : decide (i < 0) = true := decide_eq_true hi
  have hp : decide ((20 : Int) < (len : Int)) = false := decide_eq_false (by omega)
  have hp2 : decide ((50 : Int) < (m : Int)) = false := decide_eq_false (by omega)
  go_enter Try.func9, Try.ntmps9
  go_wp2
  have start : Claimed w x0 x1 n i d0 d1 (.slice a2 m cap2) (w.alloc (.cells #[.int .u64 x0, .int .u64 x1, .int .i64 n, .int .i64 i, .int .u64 d0, .int .u64 d1, .slice a2 m cap2] 42)).drew :=
    ⟨by go_simp, by go_simp, by go_simp, by go_simp, by go_simp, by go_simp, by go_simp, by simp, (bla (Below.refl _ _) _).drew⟩
  have hd := (Dbox.first w x0 x1 n i d0 d1 (.slice a2 m cap2)).drew
  go_region_held3 (fun W => W.cell? ⟨w.heap.size, 3, none⟩ = some (.int .i64 i) ∧ W.cell? ⟨w.heap.size, 4, none⟩ = some (.int .u64 d0) ∧ W.cell? ⟨w.heap.size, 5, none⟩ = some (.int .u64 d1) ∧ W.cell? ⟨w.heap.size, 6, none⟩ = some (.slice a2 m cap2)) (first | exact ⟨start.c3, start.c4, start.c5, start.c6⟩ | (go_keep))
    (fail)
  clear start
  go_wp2
  have hd0 := Dbox.first w x0 x1 n i d0 d1 (.slice a2 m cap2)
  obtain ⟨_, _⟩ := hd0.cells
  go_quiet (fail)
  go_wp2_with fail
  refine (awake_any _).mono ?_
  rintro e w5 ⟨rfl, hq5⟩
  go_wp2
  go_ret
  exact ⟨rfl, bl (blN hd0.below _) hq5⟩
set_option maxRecDepth 100000 in
set_option maxHeartbeats 8000000 in
theorem forged_past (x0 x1 n i d0 d1 : Int) (a a2 : Option Addr) (len cap m cap2 : Nat) (hl : len ≤ maxLen) (hm : m ≤ maxLen) (h20 : len ≤ 20) (h50 : m ≤ 50) (hi : 0 ≤ i) (hi2 : (len : Int) ≤ i) (w : World) :
    Calls Try.prog 9 #[.slice a len cap, .agg #[.int .u64 x0, .int .u64 x1, .int .i64 n, .int .i64 i, .int .u64 d0, .int .u64 d1, .slice a2 m cap2]] w fun e w' => e = .returned (.bool true) ∧ Below w.heap.size w w' := by
  unfold maxLen at hl hm
  have hp : decide ((20 : Int) < (len : Int)) = false := decide_eq_false (by omega)
  have hp2 : decide ((50 : Int) < (m : Int)) = false := decide_eq_false (by omega)
  have hp3 : decide (i < 0) = false := decide_eq_false (by omega)
  have hp4 : decide ((len : Int) ≤ i) = true := decide_eq_true hi2
  go_enter Try.func9, Try.ntmps9
  go_wp2
  have start : Claimed w x0 x1 n i d0 d1 (.slice a2 m cap2) (w.alloc (.cells #[.int .u64 x0, .int .u64 x1, .int .i64 n, .int .i64 i, .int .u64 d0, .int .u64 d1, .slice a2 m cap2] 42)).drew :=
    ⟨by go_simp, by go_simp, by go_simp, by go_simp, by go_simp, by go_simp, by go_simp, by simp, (bla (Below.refl _ _) _).drew⟩
  have hd := (Dbox.first w x0 x1 n i d0 d1 (.slice a2 m cap2)).drew
  go_region_held3 (fun W => W.cell? ⟨w.heap.size, 3, none⟩ = some (.int .i64 i) ∧ W.cell? ⟨w.heap.size, 4, none⟩ = some (.int .u64 d0) ∧ W.cell? ⟨w.heap.size, 5, none⟩ = some (.int .u64 d1) ∧ W.cell? ⟨w.heap.size, 6, none⟩ = some (.slice a2 m cap2)) (first | exact ⟨start.c3, start.c4, start.c5, start.c6⟩ | (go_keep))
    (fail)
  clear start
  go_wp2
  have hd0 := Dbox.first w x0 x1 n i d0 d1 (.slice a2 m cap2)
  obtain ⟨_, _⟩ := hd0.cells
  go_quiet (fail)
  go_wp2_with fail
  refine (awake_any _).mono ?_
  rintro e w5 ⟨rfl, hq5⟩
  go_wp2
  go_ret
  exact ⟨rfl, bl (blN hd0.below _) hq5⟩
set_option maxRecDepth 100000 in
set_option maxHeartbeats 8000000 in
theorem forged_same (x0 x1 n d0 d1 q0 q1 : Int) (a2 : Option Addr) (b off j len cap m cap2 : Nat) (hl : len ≤ maxLen) (hm : m ≤ maxLen) (h20 : len ≤ 20) (h50 : m ≤ 50) (hj : j < len) (w : World) (hb : b < w.heap.size) (e0 : w.cell? ⟨b, off + j * 2, none⟩ = some (.int .u64 q0)) (e1 : w.cell? ⟨b, off + j * 2 + 1, none⟩ = some (.int .u64 q1))
    (hq0 : d0 = q0) (hq1 : d1 = q1) :
    Calls Try.prog 9 #[.slice (some ⟨b, off, none⟩) len cap, .agg #[.int .u64 x0, .int .u64 x1, .int .i64 n, .int .i64 j, .int .u64 d0, .int .u64 d1, .slice a2 m cap2]] w fun e w' => e = .returned (.bool true) ∧ Below w.heap.size w w' := by
  unfold maxLen at hl hm
  have hp : decide ((20 : Int) < (len : Int)) = false := decide_eq_false (by omega)
  have hp2 : decide ((50 : Int) < (m : Int)) = false := decide_eq_false (by omega)
  have hp3 : decide ((j : Int) < 0) = false := decide_eq_false (by omega)
  have hp4 : decide (len ≤ j) = false := decide_eq_false (by omega)
  have hp5 : (0 : Int) ≤ (j : Int) := by omega
  have hp6 : (j : Int) < (len : Int) := by omega
  subst hq0 hq1
  go_enter Try.func9, Try.ntmps9
  go_wp2
  have start : Claimed w x0 x1 n j d0 d1 (.slice a2 m cap2) (w.alloc (.cells #[.int .u64 x0, .int .u64 x1, .int .i64 n, .int .i64 j, .int .u64 d0, .int .u64 d1, .slice a2 m cap2] 42)).drew :=
    ⟨by go_simp, by go_simp, by go_simp, by go_simp, by go_simp, by go_simp, by go_simp, by simp, (bla (Below.refl _ _) _).drew⟩
  have hd := (Dbox.first w x0 x1 n j d0 d1 (.slice a2 m cap2)).drew
  go_region_held3 (fun W => W.cell? ⟨w.heap.size, 3, none⟩ = some (.int .i64 j) ∧ W.cell? ⟨w.heap.size, 4, none⟩ = some (.int .u64 d0) ∧ W.cell? ⟨w.heap.size, 5, none⟩ = some (.int .u64 d1) ∧ W.cell? ⟨w.heap.size, 6, none⟩ = some (.slice a2 m cap2)) (first | exact ⟨start.c3, start.c4, start.c5, start.c6⟩ | (go_keep))
    (fail)
  clear start
  go_wp2
  have hd0 := Dbox.first w x0 x1 n j d0 d1 (.slice a2 m cap2)
  obtain ⟨_, _, _, _⟩ := hd0.with hb e0 e1
  go_quiet (fail)
  go_wp2_with fail
  refine (awake_any _).mono ?_
  rintro e w5 ⟨rfl, hq5⟩
  go_wp2
  go_ret
  exact ⟨rfl, bl (blN hd0.below _) hq5⟩
set_option maxRecDepth 100000 in
set_option maxHeartbeats 8000000 in
theorem forged_bad (x0 x1 n d0 d1 q0 q1 : Int) (a2 : Option Addr) (b off j len cap m cap2 : Nat) (hl : len ≤ maxLen) (hm : m ≤ maxLen) (h20 : len ≤ 20) (h50 : m ≤ 50) (hj : j < len) (w : World) (hb : b < w.heap.size) (e0 : w.cell? ⟨b, off + j * 2, none⟩ = some (.int .u64 q0)) (e1 : w.cell? ⟨b, off + j * 2 + 1, none⟩ = some (.int .u64 q1))
    (hne : (d0 == q0 && d1 == q1) = false) (r0 r1 : Int)
    (h23 : ∀ W, Below w.heap.size w W → Calls Try.prog 23 #[.slice (some ⟨b, off, none⟩) len cap] W fun e w' => e = .returned (.agg #[.int .u64 r0, .int .u64 r1]) ∧ Below W.heap.size W w')
    (h26 : ∀ W, Below w.heap.size w W → Calls Try.prog 26 #[.agg #[.int .u64 r0, .int .u64 r1], .int .i64 len, .int .i64 j, .agg #[.int .u64 d0, .int .u64 d1], .slice a2 m cap2] W fun e w' => e = .returned (.bool false) ∧ Below W.heap.size W w') :
    Calls Try.prog 9 #[.slice (some ⟨b, off, none⟩) len cap, .agg #[.int .u64 x0, .int .u64 x1, .int .i64 n, .int .i64 j, .int .u64 d0, .int .u64 d1, .slice a2 m cap2]] w fun e w' => e = .returned (.bool true) ∧ Below w.heap.size w w' := by
  unfold maxLen at hl hm
  have hp : decide ((20 : Int) < (len : Int)) = false := decide_eq_false (by omega)
  have hp2 : decide ((50 : Int) < (m : Int)) = false := decide_eq_false (by omega)
  have hp3 : decide ((j : Int) < 0) = false := decide_eq_false (by omega)
  have hp4 : decide (len ≤ j) = false := decide_eq_false (by omega)
  have hp5 : (0 : Int) ≤ (j : Int) := by omega
  have hp6 : (j : Int) < (len : Int) := by omega
  have H23 := Lib.hid h23
  have H26 := Lib.hid h26
  clear h23 h26
  go_enter Try.func9, Try.ntmps9
  go_wp2
  have start : Claimed w x0 x1 n j d0 d1 (.slice a2 m cap2) (w.alloc (.cells #[.int .u64 x0, .int .u64 x1, .int .i64 n, .int .i64 j, .int .u64 d0, .int .u64 d1, .slice a2 m cap2] 42)).drew :=
    ⟨by go_simp, by go_simp, by go_simp, by go_simp, by go_simp, by go_simp, by go_simp, by simp, (bla (Below.refl _ _) _).drew⟩
  have hd := (Dbox.first w x0 x1 n j d0 d1 (.slice a2 m cap2)).drew.drew
  go_region_held3 (fun W => W.cell? ⟨w.heap.size, 3, none⟩ = some (.int .i64 j) ∧ W.cell? ⟨w.heap.size, 4, none⟩ = some (.int .u64 d0) ∧ W.cell? ⟨w.heap.size, 5, none⟩ = some (.int .u64 d1) ∧ W.cell? ⟨w.heap.size, 6, none⟩ = some (.slice a2 m cap2)) (first | exact ⟨start.c3, start.c4, start.c5, start.c6⟩ | (go_keep))
    (fail)
  clear start
  go_wp2
  go_region_held3 (fun W => W.cell? ⟨w.heap.size + 1, 0, none⟩ = some (.int .u64 d0) ∧ W.cell? ⟨w.heap.size + 1, 1, none⟩ = some (.int .u64 d1) ∧ W.cell? ⟨b, off + j * 2, none⟩ = some (.int .u64 q0) ∧ W.cell? ⟨b, off + j * 2 + 1, none⟩ = some (.int .u64 q1)) (first | exact hh.with hb e0 e1 | exact hd.with hb e0 e1)
    (first | (go_at_call 23; refine (H23.out _ (by first | exact hh.below | exact hd.below)).mono ?_; rintro e w' ⟨rfl, hq⟩; have hh := Dbox.on (by first | exact hh | exact hd) hq; clear hq) | (go_at_call 26; refine (H26.out _ (by first | exact hh.below | exact hd.below)).mono ?_; rintro e w' ⟨rfl, hq⟩; have hh := Dbox.on (by first | exact hh | exact hd) hq; clear hq))
  go_wp2_with fail
  refine (awake_any _).mono ?_
  rintro e w5 ⟨rfl, hq5⟩
  go_wp2
  go_ret
  exact ⟨rfl, bl hh.below hq5⟩
set_option maxRecDepth 100000 in
set_option maxHeartbeats 8000000 in
theorem forged_good (x0 x1 n d0 d1 q0 q1 : Int) (a2 : Option Addr) (b off j len cap m cap2 : Nat) (hl : len ≤ maxLen) (hm : m ≤ maxLen) (h20 : len ≤ 20) (h50 : m ≤ 50) (hj : j < len) (w : World) (hb : b < w.heap.size) (e0 : w.cell? ⟨b, off + j * 2, none⟩ = some (.int .u64 q0)) (e1 : w.cell? ⟨b, off + j * 2 + 1, none⟩ = some (.int .u64 q1))
    (hne : (d0 == q0 && d1 == q1) = false) (r0 r1 : Int)
    (h23 : ∀ W, Below w.heap.size w W → Calls Try.prog 23 #[.slice (some ⟨b, off, none⟩) len cap] W fun e w' => e = .returned (.agg #[.int .u64 r0, .int .u64 r1]) ∧ Below W.heap.size W w')
    (h26 : ∀ W, Below w.heap.size w W → Calls Try.prog 26 #[.agg #[.int .u64 r0, .int .u64 r1], .int .i64 len, .int .i64 j, .agg #[.int .u64 d0, .int .u64 d1], .slice a2 m cap2] W fun e w' => e = .returned (.bool true) ∧ Below W.heap.size W w')
    (h29 : ∀ W, Below w.heap.size w W → Calls Try.prog 29 #[.slice (some ⟨b, off, none⟩) len cap, .int .i64 j, .agg #[.int .u64 d0, .int .u64 d1], .slice a2 m cap2] W fun e w' => e = .returned (.bool true) ∧ Below W.heap.size W w') :
    Calls Try.prog 9 #[.slice (some ⟨b, off, none⟩) len cap, .agg #[.int .u64 x0, .int .u64 x1, .int .i64 n, .int .i64 j, .int .u64 d0, .int .u64 d1, .slice a2 m cap2]] w fun e w' => e = .returned (.bool true) ∧ Below w.heap.size w w' := by
  unfold maxLen at hl hm
  have hp : decide ((20 : Int) < (len : Int)) = false := decide_eq_false (by omega)
  have hp2 : decide ((50 : Int) < (m : Int)) = false := decide_eq_false (by omega)
  have hp3 : decide ((j : Int) < 0) = false := decide_eq_false (by omega)
  have hp4 : decide (len ≤ j) = false := decide_eq_false (by omega)
  have hp5 : (0 : Int) ≤ (j : Int) := by omega
  have hp6 : (j : Int) < (len : Int) := by omega
  have H23 := Lib.hid h23
  have H26 := Lib.hid h26
  clear h23 h26
  have H29 := Lib.hid h29
  clear h29
  go_enter Try.func9, Try.ntmps9
  go_wp2
  have start : Claimed w x0 x1 n j d0 d1 (.slice a2 m cap2) (w.alloc (.cells #[.int .u64 x0, .int .u64 x1, .int .i64 n, .int .i64 j, .int .u64 d0, .int .u64 d1, .slice a2 m cap2] 42)).drew :=
    ⟨by go_simp, by go_simp, by go_simp, by go_simp, by go_simp, by go_simp, by go_simp, by simp, (bla (Below.refl _ _) _).drew⟩
  have hd := (Dbox.first w x0 x1 n j d0 d1 (.slice a2 m cap2)).drew.drew
  go_region_held3 (fun W => W.cell? ⟨w.heap.size, 3, none⟩ = some (.int .i64 j) ∧ W.cell? ⟨w.heap.size, 4, none⟩ = some (.int .u64 d0) ∧ W.cell? ⟨w.heap.size, 5, none⟩ = some (.int .u64 d1) ∧ W.cell? ⟨w.heap.size, 6, none⟩ = some (.slice a2 m cap2)) (first | exact ⟨start.c3, start.c4, start.c5, start.c6⟩ | (go_keep))
    (fail)
  clear start
  go_wp2
  go_region_held3 (fun W => W.cell? ⟨w.heap.size + 1, 0, none⟩ = some (.int .u64 d0) ∧ W.cell? ⟨w.heap.size + 1, 1, none⟩ = some (.int .u64 d1) ∧ W.cell? ⟨b, off + j * 2, none⟩ = some (.int .u64 q0) ∧ W.cell? ⟨b, off + j * 2 + 1, none⟩ = some (.int .u64 q1)) (first | exact hh.with hb e0 e1 | exact hd.with hb e0 e1)
    (first | (go_at_call 23; refine (H23.out _ (by first | exact hh.below | exact hd.below)).mono ?_; rintro e w' ⟨rfl, hq⟩; have hh := Dbox.on (by first | exact hh | exact hd) hq; clear hq) | (go_at_call 26; refine (H26.out _ (by first | exact hh.below | exact hd.below)).mono ?_; rintro e w' ⟨rfl, hq⟩; have hh := Dbox.on (by first | exact hh | exact hd) hq; clear hq))
  obtain ⟨_, _⟩ := hh.cells
  go_wp2_with fail
  refine (H29.out _ hh.below).mono ?_
  rintro e w4 ⟨rfl, hq4⟩
  have h4 := hh.on hq4
  go_wp2_with fail
  refine (awake_any _).mono ?_
  rintro e w5 ⟨rfl, hq5⟩
  go_wp2
  go_ret
  exact ⟨rfl, bl h4.below hq5⟩
end Go.Proofs.Ytamhokedekhocaa
