/- The root that results from a digest and a proof, in the law's own words, at this translation. -/
import Derived.Test.YtamhokedekhocaaForged1
import Derived.Test.YtamhokedekhocaaTree3
import Derived.Test.YtamhokedekhocaaVerify3
namespace Go.Proofs.Ytamhokedekhocaa
open Go.RowKit
attribute [local go_sem] eq_arr

/-- The digest's box, the result's cells and the proof's last element, in a later world. -/
structure Box7 (w : World) (d0 d1 : Int) (b o : Nat) (p0 p1 : Int) (W : World) : Prop where
  box : Box5 w d0 d1 W
  l0 : W.cell? ⟨b, o, none⟩ = some (.int .u64 p0)
  l1 : W.cell? ⟨b, o + 1, none⟩ = some (.int .u64 p1)
  old : b < w.heap.size
theorem Box7.on {w W W' : World} {d0 d1 p0 p1 : Int} {b o : Nat} (h : Box7 w d0 d1 b o p0 p1 W) (hB : Below W.heap.size W W') : Box7 w d0 d1 b o p0 p1 W' :=
  ⟨h.box.on hB, (hB.cell (p := ⟨b, o, none⟩) (Nat.lt_of_lt_of_le h.old h.box.below.size)).trans h.l0, (hB.cell (p := ⟨b, o + 1, none⟩) (Nat.lt_of_lt_of_le h.old h.box.below.size)).trans h.l1, h.old⟩
theorem Box7.drew {w W : World} {d0 d1 p0 p1 : Int} {b o : Nat} (h : Box7 w d0 d1 b o p0 p1 W) : Box7 w d0 d1 b o p0 p1 W.drew := ⟨h.box.drew, h.l0, h.l1, h.old⟩
theorem Box7.first {w : World} {d0 d1 p0 p1 : Int} {b o : Nat} (hb : b < w.heap.size) (e0 : w.cell? ⟨b, o, none⟩ = some (.int .u64 p0)) (e1 : w.cell? ⟨b, o + 1, none⟩ = some (.int .u64 p1)) :
    Box7 w d0 d1 b o p0 p1 ((w.alloc (.cells #[.int .u64 d0, .int .u64 d1] 24)).alloc (.cells #[.int .u64 0, .int .u64 0] 24)) :=
  have hf := Box5.first w d0 d1
  ⟨hf, (hf.below.cell (p := ⟨b, o, none⟩) hb).trans e0, (hf.below.cell (p := ⟨b, o + 1, none⟩) hb).trans e1, hb⟩
theorem Box7.cells {w W : World} {d0 d1 p0 p1 : Int} {b o : Nat} (h : Box7 w d0 d1 b o p0 p1 W) :
    W.cell? ⟨w.heap.size, 0, none⟩ = some (.int .u64 d0) ∧ W.cell? ⟨w.heap.size, 1, none⟩ = some (.int .u64 d1) ∧ W.cell? ⟨b, o, none⟩ = some (.int .u64 p0) ∧ W.cell? ⟨b, o + 1, none⟩ = some (.int .u64 p1) := ⟨h.box.d.1, h.box.d.2.1, h.l0, h.l1⟩
theorem Box7.putCells {w W : World} {d0 d1 p0 p1 : Int} {b o : Nat} (h : Box7 w d0 d1 b o p0 p1 W) (u v : Value) :
    ((W.setCell ⟨w.heap.size + 1, 0, none⟩ u).setCell ⟨w.heap.size + 1, 1, none⟩ v).cell? ⟨w.heap.size, 0, none⟩ = some (.int .u64 d0) ∧ ((W.setCell ⟨w.heap.size + 1, 0, none⟩ u).setCell ⟨w.heap.size + 1, 1, none⟩ v).cell? ⟨w.heap.size, 1, none⟩ = some (.int .u64 d1) ∧
    ((W.setCell ⟨w.heap.size + 1, 0, none⟩ u).setCell ⟨w.heap.size + 1, 1, none⟩ v).cell? ⟨b, o, none⟩ = some (.int .u64 p0) ∧ ((W.setCell ⟨w.heap.size + 1, 0, none⟩ u).setCell ⟨w.heap.size + 1, 1, none⟩ v).cell? ⟨b, o + 1, none⟩ = some (.int .u64 p1) := by
  have ho := h.old
  obtain ⟨c0, c1, c2, c3⟩ := h.cells
  have key : ∀ (q : Addr) (z : Value), q.block ≠ w.heap.size + 1 → W.cell? q = some z → ((W.setCell ⟨w.heap.size + 1, 0, none⟩ u).setCell ⟨w.heap.size + 1, 1, none⟩ v).cell? q = some z := fun q z hq hz => by
    rw [World.cell?_setCell_other _ _ _ _ (by rintro rfl; exact hq rfl), World.cell?_setCell_other _ _ _ _ (by rintro rfl; exact hq rfl)]; exact hz
  exact ⟨key _ _ (by show w.heap.size ≠ _; omega) c0, key _ _ (by show w.heap.size ≠ _; omega) c1, key _ _ (by show b ≠ _; omega) c2, key _ _ (by show b ≠ _; omega) c3⟩

set_option maxHeartbeats 1000000 in
theorem claimed_less (n k i m : Nat) (d0 d1 p0 p1 r0 r1 s0 s1 : Int) (hk : leftN n = k) (hn : 2 ≤ n) (hn2 : n ≤ 1099511627776) (hi : i < k) (b off cap : Nat) (w : World)
    (hc1 : m + 1 ≤ cap) (hc2 : cap ≤ maxLen) (hb : b < w.heap.size) (e0 : w.cell? ⟨b, off + m * 2, none⟩ = some (.int .u64 p0)) (e1 : w.cell? ⟨b, off + m * 2 + 1, none⟩ = some (.int .u64 p1))
    (hrec : ∀ W, Below w.heap.size w W → Calls Try.prog 51 #[.int .i64 k, .int .i64 i, .agg #[.int .u64 d0, .int .u64 d1], .slice (some ⟨b, off, none⟩) m cap] W fun e w' => e = .returned (.agg #[.int .u64 r0, .int .u64 r1]) ∧ Below W.heap.size W w')
    (hpair : ∀ W, Calls Try.prog 15 #[.agg #[.int .u64 r0, .int .u64 r1], .agg #[.int .u64 p0, .int .u64 p1]] W fun e w' => e = .returned (.agg #[.int .u64 s0, .int .u64 s1]) ∧ Below W.heap.size W w') :
    Calls Try.prog 51 #[.int .i64 n, .int .i64 i, .agg #[.int .u64 d0, .int .u64 d1], .slice (some ⟨b, off, none⟩) (m + 1) cap] w fun e w' => e = .returned (.agg #[.int .u64 s0, .int .u64 s1]) ∧ Below w.heap.size w w' := by
  unfold maxLen at hc2
  have HR := Lib.hid hrec
  have HP := Lib.hid hpair
  have HK := Lib.hid hk
  clear hrec hpair hk
  have t1 : ((n : Int) == 1) = false := by simp; omega
  have t2 : ((m : Int) + 1 == 0) = false := by simp; omega
  have t3 : (0 : Int) ≤ (m : Int) := by omega
  have t4 : (m : Int) < (m : Int) + 1 := by omega
  have t5 : (m : Int) ≤ (cap : Int) := by omega
  have t6 : (i : Int) < (k : Int) := by omega
  have w1 : IntKind.i64.wrap (m : Int) = (m : Int) := by rw [IntKind.wrap_i64]; omega
  have w2 : IntKind.i64.wrap ((m : Int) + 1 - 1) = (m : Int) := by rw [IntKind.wrap_i64]; omega
  go_enter Try.func51, Try.ntmps51
  go_wp2_with (go_at_call 43; refine (left_any n hn hn2 _).mono ?_; rintro e w' ⟨rfl, rfl⟩; rw [HK.out])
  have start := (Box7.first (d0 := d0) (d1 := d1) hb e0 e1).drew
  go_region_held3 (fun W => W.cell? ⟨w.heap.size, 0, none⟩ = some (.int .u64 d0) ∧ W.cell? ⟨w.heap.size, 1, none⟩ = some (.int .u64 d1) ∧ W.cell? ⟨b, off + m * 2, none⟩ = some (.int .u64 p0) ∧ W.cell? ⟨b, off + m * 2 + 1, none⟩ = some (.int .u64 p1)) (first | exact hh.cells | exact hh.putCells _ _ | exact start.cells)
    (first | (go_at_call 51; refine (HR.out _ start.box.below).mono ?_; rintro e w' ⟨rfl, hb1⟩; have hh := Box7.on start hb1; clear hb1) | (go_at_call 15; refine (HP.out _).mono ?_; rintro e w2 ⟨rfl, hb2⟩; have hh := Box7.on hh hb2; obtain ⟨c1, c2, c3, c4⟩ := hh.box.res; clear hb2))
  go_wp2
  refine bodyPost_ret (v := .agg #[.int .u64 s0, .int .u64 s1]) ?_ rfl ⟨rfl, ?_⟩
  · obtain ⟨x1, x2, _, _⟩ := (hh.box.res.set0 s0).set1 s1
    simp [results, Try.results51, go_sem, x1, x2]
  · exact (hh.box.below.setCell (p := ⟨w.heap.size + 1, 0, none⟩) (by simp) _).setCell (p := ⟨w.heap.size + 1, 1, none⟩) (by simp) _
set_option maxHeartbeats 1000000 in
theorem claimed_more (n k i m : Nat) (d0 d1 p0 p1 r0 r1 s0 s1 : Int) (hk : leftN n = k) (hn : 2 ≤ n) (hn2 : n ≤ 1099511627776) (hi : k ≤ i) (hi2 : i < n) (hk1 : k < n) (b off cap : Nat) (w : World)
    (hc1 : m + 1 ≤ cap) (hc2 : cap ≤ maxLen) (hb : b < w.heap.size) (e0 : w.cell? ⟨b, off + m * 2, none⟩ = some (.int .u64 p0)) (e1 : w.cell? ⟨b, off + m * 2 + 1, none⟩ = some (.int .u64 p1))
    (hrec : ∀ W, Below w.heap.size w W → Calls Try.prog 51 #[.int .i64 ((n : Int) - (k : Int)), .int .i64 ((i : Int) - (k : Int)), .agg #[.int .u64 d0, .int .u64 d1], .slice (some ⟨b, off, none⟩) m cap] W fun e w' => e = .returned (.agg #[.int .u64 r0, .int .u64 r1]) ∧ Below W.heap.size W w')
    (hpair : ∀ W, Calls Try.prog 15 #[.agg #[.int .u64 p0, .int .u64 p1], .agg #[.int .u64 r0, .int .u64 r1]] W fun e w' => e = .returned (.agg #[.int .u64 s0, .int .u64 s1]) ∧ Below W.heap.size W w') :
    Calls Try.prog 51 #[.int .i64 n, .int .i64 i, .agg #[.int .u64 d0, .int .u64 d1], .slice (some ⟨b, off, none⟩) (m + 1) cap] w fun e w' => e = .returned (.agg #[.int .u64 s0, .int .u64 s1]) ∧ Below w.heap.size w w' := by
  unfold maxLen at hc2
  have HR := Lib.hid hrec
  have HP := Lib.hid hpair
  have HK := Lib.hid hk
  clear hrec hpair hk
  have t1 : ((n : Int) == 1) = false := by simp; omega
  have t2 : ((m : Int) + 1 == 0) = false := by simp; omega
  have t3 : (0 : Int) ≤ (m : Int) := by omega
  have t4 : (m : Int) < (m : Int) + 1 := by omega
  have t5 : (m : Int) ≤ (cap : Int) := by omega
  have t6 : ¬ (i : Int) < (k : Int) := by omega
  have t7 : (k : Int) ≤ (i : Int) := by omega
  have t8 : (i : Int) < (n : Int) := by omega
  have t9 : (n : Int) ≤ 1099511627776 := by omega
  have w3 : IntKind.i64.wrap ((n : Int) - (k : Int)) = (n : Int) - (k : Int) := by rw [IntKind.wrap_i64]; omega
  have w4 : IntKind.i64.wrap ((i : Int) - (k : Int)) = (i : Int) - (k : Int) := by rw [IntKind.wrap_i64]; omega
  have w1 : IntKind.i64.wrap (m : Int) = (m : Int) := by rw [IntKind.wrap_i64]; omega
  have w2 : IntKind.i64.wrap ((m : Int) + 1 - 1) = (m : Int) := by rw [IntKind.wrap_i64]; omega
  go_enter Try.func51, Try.ntmps51
  go_wp2_with (go_at_call 43; refine (left_any n hn hn2 _).mono ?_; rintro e w' ⟨rfl, rfl⟩; rw [HK.out])
  have start := (Box7.first (d0 := d0) (d1 := d1) hb e0 e1).drew
  go_region_held3 (fun W => W.cell? ⟨w.heap.size, 0, none⟩ = some (.int .u64 d0) ∧ W.cell? ⟨w.heap.size, 1, none⟩ = some (.int .u64 d1) ∧ W.cell? ⟨b, off + m * 2, none⟩ = some (.int .u64 p0) ∧ W.cell? ⟨b, off + m * 2 + 1, none⟩ = some (.int .u64 p1)) (first | exact hh.cells | exact hh.putCells _ _ | exact start.cells)
    (first | (go_at_call 51; refine (HR.out _ start.box.below).mono ?_; rintro e w' ⟨rfl, hb1⟩; have hh := Box7.on start hb1; clear hb1) | (go_at_call 15; refine (HP.out _).mono ?_; rintro e w2 ⟨rfl, hb2⟩; have hh := Box7.on hh hb2; obtain ⟨c1, c2, c3, c4⟩ := hh.box.res; clear hb2))
  go_wp2
  refine bodyPost_ret (v := .agg #[.int .u64 s0, .int .u64 s1]) ?_ rfl ⟨rfl, ?_⟩
  · obtain ⟨x1, x2, _, _⟩ := (hh.box.res.set0 s0).set1 s1
    simp [results, Try.results51, go_sem, x1, x2]
  · exact (hh.box.below.setCell (p := ⟨w.heap.size + 1, 0, none⟩) (by simp) _).setCell (p := ⟨w.heap.size + 1, 1, none⟩) (by simp) _
set_option maxHeartbeats 1000000 in
theorem claimed_one (i cap : Nat) (a : Option Addr) (d0 d1 l0 l1 : Int) (w : World)
    (hroot : ∀ W g, g < W.heap.size → W.cell? ⟨g, 0, none⟩ = some (.int .u64 d0) → W.cell? ⟨g, 1, none⟩ = some (.int .u64 d1) → Calls Try.prog 23 #[.slice (some ⟨g, 0, none⟩) 1 1] W fun e w' => e = .returned (.agg #[.int .u64 l0, .int .u64 l1]) ∧ Below W.heap.size W w') :
    Calls Try.prog 51 #[.int .i64 1, .int .i64 i, .agg #[.int .u64 d0, .int .u64 d1], .slice a 0 cap] w fun e w' => e = .returned (.agg #[.int .u64 l0, .int .u64 l1]) ∧ Below w.heap.size w w' := by
  have HR := Lib.hid hroot
  clear hroot
  go_enter Try.func51, Try.ntmps51
  go_wp2_with fail
  refine (HR.out _ _ (by simp) (by go_simp) (by go_simp)).mono ?_
  rintro e w' ⟨rfl, hb1⟩
  have hh := ((Box5.first w d0 d1).alloc _).on hb1
  obtain ⟨c1, c2, c3, c4⟩ := hh.res
  go_wp2
  refine bodyPost_ret (v := .agg #[.int .u64 l0, .int .u64 l1]) ?_ rfl ⟨rfl, ?_⟩
  · obtain ⟨x1, x2, _, _⟩ := (hh.res.set0 l0).set1 l1
    simp [results, Try.results51, go_sem, x1, x2]
  · exact (hh.below.setCell (p := ⟨w.heap.size + 1, 0, none⟩) (by simp) _).setCell (p := ⟨w.heap.size + 1, 1, none⟩) (by simp) _
/-- The law's claimed returns the root that results, of a proof of the right length. -/
theorem claimed_any (d : Dig) : ∀ (rp : List Dig) (n i : Nat) (w : World) (v : Value), 1 ≤ n → n ≤ 1099511627776 → i < n → IsDigs w v rp.reverse → (rootM n i d rp).2 = true →
    Calls Try.prog 51 #[.int .i64 n, .int .i64 i, d.v, v] w fun e w' => e = .returned (rootM n i d rp).1.v ∧ Below w.heap.size w w'
  | [], n, i, w, v, h1, h2, h3, hv, hok => by
    obtain ⟨a, cap, rfl, _⟩ := hv
    by_cases hn : n = 1
    · subst hn
      refine claimed_one i cap a d.1 d.2 (leafD d).1 (leafD d).2 w (fun W g hg e0 e1 => ?_)
      have hd : IsDigs W (.slice (some ⟨g, 0, none⟩) 1 1) [d] := ⟨_, 1, rfl, Nat.le_refl _, by unfold maxLen; omega, .inr ⟨g, 0, rfl, hg, fun j x hj => by
        cases j with
        | zero => simp at hj; subst hj; exact ⟨e0, e1⟩
        | succ j => simp at hj⟩⟩
      refine (root_any 2 [d] W _ (by simp) (by simp) hd).mono ?_
      rintro e w' ⟨rfl, hB⟩
      exact ⟨by simp [rootT]; rfl, hB⟩
    · simp [rootM, hn] at hok
  | p :: rp, n, i, w, v, h1, h2, h3, hv, hok => by
    rw [List.reverse_cons] at hv
    obtain ⟨b, off, cap, rfl, hc1, hc2, hb, e0, e1, hrest⟩ := hv.last
    by_cases hn : n = 1
    · simp [rootM, hn] at hok
    · obtain ⟨_, _, _, _, hk, _⟩ := leftN_spec n (by omega) (by omega)
      have hpos : 1 ≤ leftN n := Nat.pow_pos (by decide)
      by_cases hi : i < leftN n
      · have e : rootM n i d (p :: rp) = (pairD (rootM (leftN n) i d rp).1 p, (rootM (leftN n) i d rp).2) := by rw [rootM, if_neg hn, if_pos hi]
        rw [e] at hok ⊢
        exact claimed_less n _ i _ d.1 d.2 p.1 p.2 (rootM (leftN n) i d rp).1.1 (rootM (leftN n) i d rp).1.2 (pairD (rootM (leftN n) i d rp).1 p).1 (pairD (rootM (leftN n) i d rp).1 p).2 rfl (by omega) h2 hi b off cap w hc1 hc2 hb e0 e1
          (fun W hW => claimed_any d rp (leftN n) i W _ hpos (by omega) hi (hrest.below hW) hok) (fun W => pairD_any _ p W)
      · have e : rootM n i d (p :: rp) = (pairD p (rootM (n - leftN n) (i - leftN n) d rp).1, (rootM (n - leftN n) (i - leftN n) d rp).2) := by rw [rootM, if_neg hn, if_neg hi]
        rw [e] at hok ⊢
        refine claimed_more n _ i _ d.1 d.2 p.1 p.2 (rootM (n - leftN n) (i - leftN n) d rp).1.1 (rootM (n - leftN n) (i - leftN n) d rp).1.2 (pairD p (rootM (n - leftN n) (i - leftN n) d rp).1).1 (pairD p (rootM (n - leftN n) (i - leftN n) d rp).1).2 rfl (by omega) h2 (by omega) h3 hk b off cap w hc1 hc2 hb e0 e1
          (fun W hW => ?_) (fun W => pairD_any p _ W)
        have := claimed_any d rp (n - leftN n) (i - leftN n) W _ (by omega) (by omega) (by omega) (hrest.below hW) hok
        rw [Int.natCast_sub (by omega), Int.natCast_sub (by omega)] at this
        exact this
end Go.Proofs.Ytamhokedekhocaa
