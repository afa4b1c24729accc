/- The reference's result, at this translation: the root that results from an element and its proof. -/
import Derived.Test.YtamhokedekhocaaVerify2
namespace Go.Proofs.Ytamhokedekhocaa
open Go.RowKit
attribute [local go_sem] eq_arr

/-- The digest's box and the result's cells, in a later world. -/
structure Box5 (w : World) (d0 d1 : Int) (W : World) : Prop where
  d : Two W w.heap.size d0 d1
  res : Two W (w.heap.size + 1) 0 0
  size : w.heap.size + 1 < W.heap.size
  below : Below w.heap.size w W
theorem Box5.on {w W W' : World} {d0 d1 : Int} (h : Box5 w d0 d1 W) (hB : Below W.heap.size W W') : Box5 w d0 d1 W' :=
  ⟨h.d.below hB (Nat.lt_of_succ_lt h.size), h.res.below hB h.size, Nat.lt_of_lt_of_le h.size hB.size, bl h.below hB⟩
theorem Box5.alloc {w W : World} {d0 d1 : Int} (h : Box5 w d0 d1 W) (o : Obj) : Box5 w d0 d1 (W.alloc o) := h.on ((Below.refl _ _).alloc (Nat.le_refl _) o)
theorem Box5.put {w W : World} {d0 d1 : Int} (h : Box5 w d0 d1 W) (c i : Nat) (hc : w.heap.size + 2 ≤ c) (v : Value) : Box5 w d0 d1 (W.setCell ⟨c, i, none⟩ v) :=
  ⟨h.d.far _ (by show c ≠ _; omega) _, h.res.far _ (by show c ≠ _; omega) _, by simpa [World.setCell] using h.size, h.below.setCell (p := ⟨c, i, none⟩) (by show _ ≤ c; omega) _⟩
theorem Box5.first (w : World) (d0 d1 : Int) : Box5 w d0 d1 ((w.alloc (.cells #[.int .u64 d0, .int .u64 d1] 24)).alloc (.cells #[.int .u64 0, .int .u64 0] 24)) := by
  have h0 := (Two.fresh w d0 d1 24).alloc (by simp) (.cells #[.int .u64 0, .int .u64 0] 24)
  have h1 := Two.fresh (w.alloc (.cells #[.int .u64 d0, .int .u64 d1] 24)) 0 0 24
  rw [World.size_alloc] at h1
  exact ⟨h0, h1, by simp, bla (bla (Below.refl _ _) _) _⟩
theorem Box5.drew {w W : World} {d0 d1 : Int} (h : Box5 w d0 d1 W) : Box5 w d0 d1 W.drew := ⟨h.d, h.res, h.size, h.below.drew⟩
theorem Box5.cells {w W : World} {d0 d1 : Int} (h : Box5 w d0 d1 W) : W.cell? ⟨w.heap.size, 0, none⟩ = some (.int .u64 d0) ∧ W.cell? ⟨w.heap.size, 1, none⟩ = some (.int .u64 d1) := ⟨h.d.1, h.d.2.1⟩

/-- The recursive result's box at block c, the result's cells, and the proof's last element, in a later world. -/
structure Box6 (w : World) (c : Nat) (x y : Int) (b o : Nat) (p0 p1 : Int) (W : World) : Prop where
  t : Two W c x y
  res : Two W (w.heap.size + 1) 0 0
  l0 : W.cell? ⟨b, o, none⟩ = some (.int .u64 p0)
  l1 : W.cell? ⟨b, o + 1, none⟩ = some (.int .u64 p1)
  old : b < w.heap.size
  far : w.heap.size + 1 < c
  size : c < W.heap.size
  below : Below w.heap.size w W
theorem Box6.on {w W W' : World} {c b o : Nat} {x y p0 p1 : Int} (h : Box6 w c x y b o p0 p1 W) (hB : Below W.heap.size W W') : Box6 w c x y b o p0 p1 W' :=
  ⟨h.t.below hB h.size, h.res.below hB (Nat.lt_trans h.far h.size), (hB.cell (p := ⟨b, o, none⟩) (Nat.lt_of_lt_of_le h.old h.below.size)).trans h.l0, (hB.cell (p := ⟨b, o + 1, none⟩) (Nat.lt_of_lt_of_le h.old h.below.size)).trans h.l1, h.old, h.far, Nat.lt_of_lt_of_le h.size hB.size, bl h.below hB⟩
theorem Box6.drew {w W : World} {c b o : Nat} {x y p0 p1 : Int} (h : Box6 w c x y b o p0 p1 W) : Box6 w c x y b o p0 p1 W.drew := ⟨h.t, h.res, h.l0, h.l1, h.old, h.far, h.size, h.below.drew⟩
theorem Box6.cells {w W : World} {c b o : Nat} {x y p0 p1 : Int} (h : Box6 w c x y b o p0 p1 W) :
    W.cell? ⟨c, 0, none⟩ = some (.int .u64 x) ∧ W.cell? ⟨c, 1, none⟩ = some (.int .u64 y) ∧ W.cell? ⟨b, o, none⟩ = some (.int .u64 p0) ∧ W.cell? ⟨b, o + 1, none⟩ = some (.int .u64 p1) := ⟨h.t.1, h.t.2.1, h.l0, h.l1⟩
theorem Box6.putCells {w W : World} {c b o : Nat} {x y p0 p1 : Int} (h : Box6 w c x y b o p0 p1 W) (u v : Value) :
    ((W.setCell ⟨w.heap.size + 1, 0, none⟩ u).setCell ⟨w.heap.size + 1, 1, none⟩ v).cell? ⟨c, 0, none⟩ = some (.int .u64 x) ∧ ((W.setCell ⟨w.heap.size + 1, 0, none⟩ u).setCell ⟨w.heap.size + 1, 1, none⟩ v).cell? ⟨c, 1, none⟩ = some (.int .u64 y) ∧
    ((W.setCell ⟨w.heap.size + 1, 0, none⟩ u).setCell ⟨w.heap.size + 1, 1, none⟩ v).cell? ⟨b, o, none⟩ = some (.int .u64 p0) ∧ ((W.setCell ⟨w.heap.size + 1, 0, none⟩ u).setCell ⟨w.heap.size + 1, 1, none⟩ v).cell? ⟨b, o + 1, none⟩ = some (.int .u64 p1) := by
  have ho := h.old
  have hf := h.far
  have key : ∀ (q : Addr) (z : Value), q.block ≠ w.heap.size + 1 → W.cell? q = some z → ((W.setCell ⟨w.heap.size + 1, 0, none⟩ u).setCell ⟨w.heap.size + 1, 1, none⟩ v).cell? q = some z := fun q z hq hz => by
    rw [World.cell?_setCell_other _ _ _ _ (by rintro rfl; exact hq rfl), World.cell?_setCell_other _ _ _ _ (by rintro rfl; exact hq rfl)]; exact hz
  exact ⟨key _ _ (by show c ≠ _; omega) h.t.1, key _ _ (by show c ≠ _; omega) h.t.2.1, key _ _ (by show b ≠ _; omega) h.l0, key _ _ (by show b ≠ _; omega) h.l1⟩
theorem Box6.ofA {w W : World} {d0 d1 x y p0 p1 : Int} {b o : Nat} (h : Box5 w d0 d1 W) (hb : b < w.heap.size) (e0 : w.cell? ⟨b, o, none⟩ = some (.int .u64 p0)) (e1 : w.cell? ⟨b, o + 1, none⟩ = some (.int .u64 p1)) :
    Box6 w W.heap.size x y b o p0 p1 (W.alloc (.cells #[.int .u64 x, .int .u64 y] 24)).drew :=
  Box6.drew ⟨Two.fresh W x y 24, (h.alloc _).res, ((bla h.below _).cell (p := ⟨b, o, none⟩) hb).trans e0, ((bla h.below _).cell (p := ⟨b, o + 1, none⟩) hb).trans e1, hb, h.size, by simp, bla h.below _⟩
theorem Box6.ofB {w W : World} {d0 d1 x y p0 p1 : Int} {b o : Nat} (h : Box5 w d0 d1 W) (k : Two W (w.heap.size + 1 + 1) 0 0) (hz : w.heap.size + 1 + 1 < W.heap.size) (hb : b < w.heap.size) (e0 : w.cell? ⟨b, o, none⟩ = some (.int .u64 p0)) (e1 : w.cell? ⟨b, o + 1, none⟩ = some (.int .u64 p1)) :
    Box6 w (w.heap.size + 1 + 1) x y b o p0 p1 ((W.setCell ⟨w.heap.size + 1 + 1, 0, none⟩ (.int .u64 x)).setCell ⟨w.heap.size + 1 + 1, 1, none⟩ (.int .u64 y)).drew := by
  have h2 := (h.put (w.heap.size + 1 + 1) 0 (Nat.le_refl _) (.int .u64 x)).put (w.heap.size + 1 + 1) 1 (Nat.le_refl _) (.int .u64 y)
  exact Box6.drew ⟨(k.set0 x).set1 y, h2.res, (h2.below.cell (p := ⟨b, o, none⟩) hb).trans e0, (h2.below.cell (p := ⟨b, o + 1, none⟩) hb).trans e1, hb, by omega, by simpa [World.setCell] using hz, h2.below⟩

set_option maxHeartbeats 1000000 in
theorem result_less (n i m : Nat) (d0 d1 p0 p1 r0 r1 s0 s1 : Int) (ok : Bool) (hn : 2 ≤ n) (hn2 : n ≤ 1099511627776) (hi : i < leftN n) (b off cap : Nat) (w : World)
    (hc1 : m + 1 ≤ cap) (hc2 : cap ≤ maxLen) (hb : b < w.heap.size) (e0 : w.cell? ⟨b, off + m * 2, none⟩ = some (.int .u64 p0)) (e1 : w.cell? ⟨b, off + m * 2 + 1, none⟩ = some (.int .u64 p1))
    (hrec : ∀ W, Below w.heap.size w W → Calls Try.prog 48 #[.int .i64 (leftN n), .int .i64 i, .agg #[.int .u64 d0, .int .u64 d1], .slice (some ⟨b, off, none⟩) m cap] W fun e w' => e = .returned (.tuple #[.agg #[.int .u64 r0, .int .u64 r1], .bool ok]) ∧ Below W.heap.size W w')
    (hpair : ∀ W, Calls Try.prog 16 #[.agg #[.int .u64 r0, .int .u64 r1], .agg #[.int .u64 p0, .int .u64 p1]] W fun e w' => e = .returned (.agg #[.int .u64 s0, .int .u64 s1]) ∧ Below W.heap.size W w') :
    Calls Try.prog 48 #[.int .i64 n, .int .i64 i, .agg #[.int .u64 d0, .int .u64 d1], .slice (some ⟨b, off, none⟩) (m + 1) cap] w fun e w' => e = .returned (.tuple #[.agg #[.int .u64 s0, .int .u64 s1], .bool ok]) ∧ Below w.heap.size w w' := by
  unfold maxLen at hc2
  have HR := Lib.hid hrec
  have HP := Lib.hid hpair
  clear hrec hpair
  have t1 : ((n : Int) == 1) = false := by simp; omega
  have t3 : (0 : Int) ≤ (m : Int) := by omega
  have t4 : (m : Int) < (m : Int) + 1 := by omega
  have t5 : (m : Int) ≤ (cap : Int) := by omega
  have t6 : (i : Int) < (leftN n : Int) := by omega
  have t7 : ¬ (m : Int) < 0 := by omega
  go_enter Try.func48, Try.ntmps48
  go_wp2_with (go_at_call 43; refine (left_any n hn hn2 _).mono ?_; rintro e w' ⟨rfl, rfl⟩)
  have f0 := Box5.first w d0 d1
  have start := f0.drew
  have startB : ∀ ob, Box5 w d0 d1 (((w.alloc (.cells #[.int .u64 d0, .int .u64 d1] 24)).alloc (.cells #[.int .u64 0, .int .u64 0] 24)).alloc ob).drew := fun ob => (f0.alloc ob).drew
  have freshB : Two (((w.alloc (.cells #[.int .u64 d0, .int .u64 d1] 24)).alloc (.cells #[.int .u64 0, .int .u64 0] 24)).alloc (.cells #[.int .u64 0, .int .u64 0] 24)).drew (w.heap.size + 1 + 1) 0 0 := by
    have := Two.fresh ((w.alloc (.cells #[.int .u64 d0, .int .u64 d1] 24)).alloc (.cells #[.int .u64 0, .int .u64 0] 24)) 0 0 24
    rw [World.size_alloc, World.size_alloc] at this
    exact this
  go_region_held3 (fun w' => w'.cell? ⟨w.heap.size, 0, none⟩ = some (.int .u64 d0) ∧ w'.cell? ⟨w.heap.size, 1, none⟩ = some (.int .u64 d1)) (first | exact hh.cells | exact (hh.alloc _).cells | exact ((hh.put _ _ (Nat.le_refl _) _).put _ _ (Nat.le_refl _) _).cells | exact start.cells | exact (startB _).cells)
    (first | (go_at_call 48; refine (HR.out _ (by first | exact (startB _).below | exact start.below)).mono ?_; rintro e w' ⟨rfl, hb1⟩; have hh := Box5.on (by first | exact startB _ | exact start) hb1; first | (have kb := Two.below freshB hb1 (by simp); obtain ⟨kb0, kb1, kb2, kb3⟩ := kb) | skip))
  · have start2 := Box6.ofA (x := r0) (y := r1) hh hb e0 e1
    go_wp2
    go_region_held3 (fun W => W.cell? ⟨w'.heap.size, 0, none⟩ = some (.int .u64 r0) ∧ W.cell? ⟨w'.heap.size, 1, none⟩ = some (.int .u64 r1) ∧ W.cell? ⟨b, off + m * 2, none⟩ = some (.int .u64 p0) ∧ W.cell? ⟨b, off + m * 2 + 1, none⟩ = some (.int .u64 p1)) (first | exact hh2.cells | exact hh2.putCells _ _ | exact start2.cells)
      (first | (go_at_call 16; refine (HP.out _).mono ?_; rintro e w2 ⟨rfl, hb2⟩; have hh2 := Box6.on start2 hb2; obtain ⟨c1, c2, c3, c4⟩ := hh2.res))
    go_wp2
    refine bodyPost_ret (v := .tuple #[.agg #[.int .u64 s0, .int .u64 s1], .bool ok]) ?_ rfl ⟨rfl, ?_⟩
    · obtain ⟨x1, x2, _, _⟩ := (hh2.res.set0 s0).set1 s1
      simp [results, Try.results48, go_sem, x1, x2]
    · exact (hh2.below.setCell (p := ⟨w.heap.size + 1, 0, none⟩) (by simp) _).setCell (p := ⟨w.heap.size + 1, 1, none⟩) (by simp) _
  · have start2 := Box6.ofB (x := r0) (y := r1) hh ⟨kb0, kb1, kb2, kb3⟩ (by have := hb1.size; simp at this; omega) hb e0 e1
    go_wp2
    go_region_held3 (fun W => W.cell? ⟨w.heap.size + 1 + 1, 0, none⟩ = some (.int .u64 r0) ∧ W.cell? ⟨w.heap.size + 1 + 1, 1, none⟩ = some (.int .u64 r1) ∧ W.cell? ⟨b, off + m * 2, none⟩ = some (.int .u64 p0) ∧ W.cell? ⟨b, off + m * 2 + 1, none⟩ = some (.int .u64 p1)) (first | exact hh2.cells | exact hh2.putCells _ _ | exact start2.cells)
      (first | (go_at_call 16; refine (HP.out _).mono ?_; rintro e w2 ⟨rfl, hb2⟩; have hh2 := Box6.on start2 hb2; obtain ⟨c1, c2, c3, c4⟩ := hh2.res))
    go_wp2
    refine bodyPost_ret (v := .tuple #[.agg #[.int .u64 s0, .int .u64 s1], .bool ok]) ?_ rfl ⟨rfl, ?_⟩
    · obtain ⟨x1, x2, _, _⟩ := (hh2.res.set0 s0).set1 s1
      simp [results, Try.results48, go_sem, x1, x2]
    · exact (hh2.below.setCell (p := ⟨w.heap.size + 1, 0, none⟩) (by simp) _).setCell (p := ⟨w.heap.size + 1, 1, none⟩) (by simp) _
set_option maxHeartbeats 1000000 in
theorem result_more (n i m : Nat) (d0 d1 p0 p1 r0 r1 s0 s1 : Int) (ok : Bool) (hn : 2 ≤ n) (hn2 : n ≤ 1099511627776) (hi : leftN n ≤ i) (hi2 : i < n) (hk : leftN n < n) (b off cap : Nat) (w : World)
    (hc1 : m + 1 ≤ cap) (hc2 : cap ≤ maxLen) (hb : b < w.heap.size) (e0 : w.cell? ⟨b, off + m * 2, none⟩ = some (.int .u64 p0)) (e1 : w.cell? ⟨b, off + m * 2 + 1, none⟩ = some (.int .u64 p1))
    (hrec : ∀ W, Below w.heap.size w W → Calls Try.prog 48 #[.int .i64 ((n : Int) - (leftN n : Int)), .int .i64 ((i : Int) - (leftN n : Int)), .agg #[.int .u64 d0, .int .u64 d1], .slice (some ⟨b, off, none⟩) m cap] W fun e w' => e = .returned (.tuple #[.agg #[.int .u64 r0, .int .u64 r1], .bool ok]) ∧ Below W.heap.size W w')
    (hpair : ∀ W, Calls Try.prog 16 #[.agg #[.int .u64 p0, .int .u64 p1], .agg #[.int .u64 r0, .int .u64 r1]] W fun e w' => e = .returned (.agg #[.int .u64 s0, .int .u64 s1]) ∧ Below W.heap.size W w') :
    Calls Try.prog 48 #[.int .i64 n, .int .i64 i, .agg #[.int .u64 d0, .int .u64 d1], .slice (some ⟨b, off, none⟩) (m + 1) cap] w fun e w' => e = .returned (.tuple #[.agg #[.int .u64 s0, .int .u64 s1], .bool ok]) ∧ Below w.heap.size w w' := by
  unfold maxLen at hc2
  have HR := Lib.hid hrec
  have HP := Lib.hid hpair
  clear hrec hpair
  have t1 : ((n : Int) == 1) = false := by simp; omega
  have t3 : (0 : Int) ≤ (m : Int) := by omega
  have t4 : (m : Int) < (m : Int) + 1 := by omega
  have t5 : (m : Int) ≤ (cap : Int) := by omega
  have t6 : ¬ (i : Int) < (leftN n : Int) := by omega
  have u7 : (leftN n : Int) ≤ (i : Int) := by omega
  have u8 : (i : Int) < (n : Int) := by omega
  have u9 : (n : Int) ≤ 1099511627776 := by omega
  have w1 : IntKind.i64.wrap ((n : Int) - (leftN n : Int)) = (n : Int) - (leftN n : Int) := by rw [IntKind.wrap_i64]; omega
  have w2 : IntKind.i64.wrap ((i : Int) - (leftN n : Int)) = (i : Int) - (leftN n : Int) := by rw [IntKind.wrap_i64]; omega
  have t7 : ¬ (m : Int) < 0 := by omega
  go_enter Try.func48, Try.ntmps48
  go_wp2_with (go_at_call 43; refine (left_any n hn hn2 _).mono ?_; rintro e w' ⟨rfl, rfl⟩)
  have f0 := Box5.first w d0 d1
  have start := f0.drew
  have startB : ∀ ob, Box5 w d0 d1 (((w.alloc (.cells #[.int .u64 d0, .int .u64 d1] 24)).alloc (.cells #[.int .u64 0, .int .u64 0] 24)).alloc ob).drew := fun ob => (f0.alloc ob).drew
  have freshB : Two (((w.alloc (.cells #[.int .u64 d0, .int .u64 d1] 24)).alloc (.cells #[.int .u64 0, .int .u64 0] 24)).alloc (.cells #[.int .u64 0, .int .u64 0] 24)).drew (w.heap.size + 1 + 1) 0 0 := by
    have := Two.fresh ((w.alloc (.cells #[.int .u64 d0, .int .u64 d1] 24)).alloc (.cells #[.int .u64 0, .int .u64 0] 24)) 0 0 24
    rw [World.size_alloc, World.size_alloc] at this
    exact this
  go_region_held3 (fun w' => w'.cell? ⟨w.heap.size, 0, none⟩ = some (.int .u64 d0) ∧ w'.cell? ⟨w.heap.size, 1, none⟩ = some (.int .u64 d1)) (first | exact hh.cells | exact (hh.alloc _).cells | exact ((hh.put _ _ (Nat.le_refl _) _).put _ _ (Nat.le_refl _) _).cells | exact start.cells | exact (startB _).cells)
    (first | (go_at_call 48; refine (HR.out _ (by first | exact (startB _).below | exact start.below)).mono ?_; rintro e w' ⟨rfl, hb1⟩; have hh := Box5.on (by first | exact startB _ | exact start) hb1; first | (have kb := Two.below freshB hb1 (by simp); obtain ⟨kb0, kb1, kb2, kb3⟩ := kb) | skip))
  · have start2 := Box6.ofA (x := r0) (y := r1) hh hb e0 e1
    go_wp2
    go_region_held3 (fun W => W.cell? ⟨w'.heap.size, 0, none⟩ = some (.int .u64 r0) ∧ W.cell? ⟨w'.heap.size, 1, none⟩ = some (.int .u64 r1) ∧ W.cell? ⟨b, off + m * 2, none⟩ = some (.int .u64 p0) ∧ W.cell? ⟨b, off + m * 2 + 1, none⟩ = some (.int .u64 p1)) (first | exact hh2.cells | exact hh2.putCells _ _ | exact start2.cells)
      (first | (go_at_call 16; refine (HP.out _).mono ?_; rintro e w2 ⟨rfl, hb2⟩; have hh2 := Box6.on start2 hb2; obtain ⟨c1, c2, c3, c4⟩ := hh2.res))
    go_wp2
    refine bodyPost_ret (v := .tuple #[.agg #[.int .u64 s0, .int .u64 s1], .bool ok]) ?_ rfl ⟨rfl, ?_⟩
    · obtain ⟨x1, x2, _, _⟩ := (hh2.res.set0 s0).set1 s1
      simp [results, Try.results48, go_sem, x1, x2]
    · exact (hh2.below.setCell (p := ⟨w.heap.size + 1, 0, none⟩) (by simp) _).setCell (p := ⟨w.heap.size + 1, 1, none⟩) (by simp) _
  · have start2 := Box6.ofB (x := r0) (y := r1) hh ⟨kb0, kb1, kb2, kb3⟩ (by have := hb1.size; simp at this; omega) hb e0 e1
    go_wp2
    go_region_held3 (fun W => W.cell? ⟨w.heap.size + 1 + 1, 0, none⟩ = some (.int .u64 r0) ∧ W.cell? ⟨w.heap.size + 1 + 1, 1, none⟩ = some (.int .u64 r1) ∧ W.cell? ⟨b, off + m * 2, none⟩ = some (.int .u64 p0) ∧ W.cell? ⟨b, off + m * 2 + 1, none⟩ = some (.int .u64 p1)) (first | exact hh2.cells | exact hh2.putCells _ _ | exact start2.cells)
      (first | (go_at_call 16; refine (HP.out _).mono ?_; rintro e w2 ⟨rfl, hb2⟩; have hh2 := Box6.on start2 hb2; obtain ⟨c1, c2, c3, c4⟩ := hh2.res))
    go_wp2
    refine bodyPost_ret (v := .tuple #[.agg #[.int .u64 s0, .int .u64 s1], .bool ok]) ?_ rfl ⟨rfl, ?_⟩
    · obtain ⟨x1, x2, _, _⟩ := (hh2.res.set0 s0).set1 s1
      simp [results, Try.results48, go_sem, x1, x2]
    · exact (hh2.below.setCell (p := ⟨w.heap.size + 1, 0, none⟩) (by simp) _).setCell (p := ⟨w.heap.size + 1, 1, none⟩) (by simp) _
set_option maxHeartbeats 1000000 in
theorem result_one (i len cap : Nat) (a : Option Addr) (d0 d1 l0 l1 : Int) (S : ByteArray) (hlm : (len : Int) ≤ 9223372036854775807)
    (hstr : ∀ W, Calls Try.prog 46 #[.agg #[.int .u64 d0, .int .u64 d1]] W fun e w' => e = .returned (.string S) ∧ Below W.heap.size W w')
    (hof : ∀ W, Calls Try.prog 12 #[.string S] W fun e w' => e = .returned (.agg #[.int .u64 l0, .int .u64 l1]) ∧ Below W.heap.size W w') (w : World) :
    Calls Try.prog 48 #[.int .i64 1, .int .i64 i, .agg #[.int .u64 d0, .int .u64 d1], .slice a len cap] w fun e w' => e = .returned (.tuple #[.agg #[.int .u64 l0, .int .u64 l1], .bool (decide ((len : Int) - 1 < 0))]) ∧ Below w.heap.size w w' := by
  have HS := Lib.hid hstr
  have HO := Lib.hid hof
  clear hstr hof
  go_enter Try.func48, Try.ntmps48
  go_wp2_with fail
  refine (HS.out _).mono ?_
  rintro e w1 ⟨rfl, hb1⟩
  go_wp2_with fail
  refine (HO.out _).mono ?_
  rintro e w2 ⟨rfl, hb2⟩
  have k := ((Box5.first w d0 d1).on hb1).on hb2
  obtain ⟨q0, q1, q2, q3⟩ := k.res
  go_wp2
  refine bodyPost_ret (v := .tuple #[.agg #[.int .u64 l0, .int .u64 l1], .bool (decide ((len : Int) - 1 < 0))]) ?_ rfl ⟨rfl, ?_⟩
  · obtain ⟨x1, x2, _, _⟩ := (k.res.set0 l0).set1 l1
    simp [results, Try.results48, go_sem, x1, x2]
  · exact (k.below.setCell (p := ⟨w.heap.size + 1, 0, none⟩) (by simp) _).setCell (p := ⟨w.heap.size + 1, 1, none⟩) (by simp) _
set_option maxHeartbeats 1000000 in
theorem result_none (n i cap : Nat) (a : Option Addr) (d0 d1 : Int) (hn : 2 ≤ n) (w : World) :
    Calls Try.prog 48 #[.int .i64 n, .int .i64 i, .agg #[.int .u64 d0, .int .u64 d1], .slice a 0 cap] w fun e w' => e = .returned (.tuple #[.agg #[.int .u64 0, .int .u64 0], .bool false]) ∧ Below w.heap.size w w' := by
  have t1 : ((n : Int) == 1) = false := by simp; omega
  go_enter Try.func48, Try.ntmps48
  go_wp2
  refine bodyPost_ret (v := .tuple #[.agg #[.int .u64 0, .int .u64 0], .bool false]) ?_ rfl ⟨rfl, ?_⟩
  · simp [results, Try.results48, go_sem]
  · exact bla (bla (Below.refl _ _) _) _
theorem refOf_leaf (d : Dig) (W : World) : Calls Try.prog 12 #[.string (ByteArray.mk #[0] ++ byS d.1 d.2)] W fun e w' => e = .returned (.agg #[.int .u64 (leafD d).1, .int .u64 (leafD d).2]) ∧ Below W.heap.size W w' := by
  refine (refOf_any _ W (leafS_size d.1 d.2)).mono ?_
  rintro e w' ⟨rfl, hB⟩
  exact ⟨by rw [ofD_v]; rfl, hB⟩

/-- The reference's result returns the root that results. -/
theorem result_any (d : Dig) : ∀ (rp : List Dig) (n i : Nat) (w : World) (v : Value), 1 ≤ n → n ≤ 1099511627776 → i < n → IsDigs w v rp.reverse →
    Calls Try.prog 48 #[.int .i64 n, .int .i64 i, d.v, v] w fun e w' => e = .returned (.tuple #[(rootM n i d rp).1.v, .bool (rootM n i d rp).2]) ∧ Below w.heap.size w w'
  | [], n, i, w, v, h1, h2, h3, hv => by
    obtain ⟨a, cap, rfl, _⟩ := hv
    by_cases hn : n = 1
    · subst hn
      exact result_one i 0 cap a d.1 d.2 (leafD d).1 (leafD d).2 _ (by decide) (fun W => refLeaf_any d.1 d.2 W) (fun W => refOf_leaf d W) w
    · have e : rootM n i d [] = ((0, 0), false) := by unfold rootM; rw [if_neg hn]
      rw [e]
      exact result_none n i cap a d.1 d.2 (by omega) w
  | p :: rp, n, i, w, v, h1, h2, h3, hv => by
    rw [List.reverse_cons] at hv
    obtain ⟨b, off, cap, rfl, hc1, hc2, hb, e0, e1, hrest⟩ := hv.last
    by_cases hn : n = 1
    · subst hn
      have e : rootM 1 i d (p :: rp) = (leafD d, false) := by unfold rootM; rw [if_pos rfl]
      rw [e]
      refine (result_one i (rp.reverse.length + 1) cap _ d.1 d.2 (leafD d).1 (leafD d).2 _ (by unfold maxLen at hc2; omega) (fun W => refLeaf_any d.1 d.2 W) (fun W => refOf_leaf d W) w).mono ?_
      rintro e w' ⟨rfl, hB⟩
      refine ⟨?_, hB⟩
      have : decide ((((rp.reverse.length + 1 : Nat) : Int)) - 1 < 0) = false := by simp
      rw [this]; rfl
    · obtain ⟨_, _, _, _, hk, _⟩ := leftN_spec n (by omega) (by omega)
      have hpos : 1 ≤ leftN n := Nat.pow_pos (by decide)
      by_cases hi : i < leftN n
      · have e : rootM n i d (p :: rp) = (pairD (rootM (leftN n) i d rp).1 p, (rootM (leftN n) i d rp).2) := by rw [rootM, if_neg hn, if_pos hi]
        rw [e]
        exact result_less n i _ d.1 d.2 p.1 p.2 (rootM (leftN n) i d rp).1.1 (rootM (leftN n) i d rp).1.2 (pairD (rootM (leftN n) i d rp).1 p).1 (pairD (rootM (leftN n) i d rp).1 p).2 _ (by omega) h2 hi b off cap w hc1 hc2 hb e0 e1
          (fun W hW => result_any d rp (leftN n) i W _ hpos (by omega) hi (hrest.below hW)) (fun W => refPairD_any _ p W)
      · have e : rootM n i d (p :: rp) = (pairD p (rootM (n - leftN n) (i - leftN n) d rp).1, (rootM (n - leftN n) (i - leftN n) d rp).2) := by rw [rootM, if_neg hn, if_neg hi]
        rw [e]
        refine result_more n i _ d.1 d.2 p.1 p.2 (rootM (n - leftN n) (i - leftN n) d rp).1.1 (rootM (n - leftN n) (i - leftN n) d rp).1.2 (pairD p (rootM (n - leftN n) (i - leftN n) d rp).1).1 (pairD p (rootM (n - leftN n) (i - leftN n) d rp).1).2 _ (by omega) h2 (by omega) h3 hk b off cap w hc1 hc2 hb e0 e1
          (fun W hW => ?_) (fun W => refPairD_any p _ W)
        have := result_any d rp (n - leftN n) (i - leftN n) W _ (by omega) (by omega) (by omega) (hrest.below hW)
        rw [Int.natCast_sub (by omega), Int.natCast_sub (by omega)] at this
        exact this
end Go.Proofs.Ytamhokedekhocaa
