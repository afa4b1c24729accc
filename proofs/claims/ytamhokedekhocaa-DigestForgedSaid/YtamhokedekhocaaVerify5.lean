/- The walk of the law DigestVerify, at this translation. -/
import Derived.Test.YtamhokedekhocaaVerify4
import Derived.Test.YtamhokedekhocaaOfLaw
namespace Go.Proofs.Ytamhokedekhocaa
open Go.RowKit
attribute [local go_sem] eq_arr

/-- Whether a proof shows that d is the element i of n. -/
def verM (x0 x1 n i : Int) (d : Dig) (L : List Dig) : Bool :=
  if n < 1 ∨ 1099511627776 < n ∨ i < 0 ∨ n ≤ i then false
  else (rootM n.toNat i.toNat d L.reverse).2 && ((((rootM n.toNat i.toNat d L.reverse).1.1 : Int) == x0) && (((rootM n.toNat i.toNat d L.reverse).1.2 : Int) == x1))
theorem verify_any (x0 x1 n i : Int) (d : Dig) (L : List Dig) (v : Value) (w : World) (hv : IsDigs w v L) :
    Calls Try.prog 26 #[.agg #[.int .u64 x0, .int .u64 x1], .int .i64 n, .int .i64 i, d.v, v] w fun e w' => e = .returned (.bool (verM x0 x1 n i d L)) ∧ Below w.heap.size w w' := by
  have hv' := hv
  obtain ⟨a, cap, rfl, _⟩ := hv'
  by_cases h : n < 1 ∨ 1099511627776 < n ∨ i < 0 ∨ n ≤ i
  · rw [show verM x0 x1 n i d L = false from by unfold verM; rw [if_pos h]]
    exact bad26 n i x0 x1 d.1 d.2 a _ cap h w
  · obtain ⟨m, rfl⟩ := Int.eq_ofNat_of_zero_le (show 0 ≤ n by omega)
    obtain ⟨j, rfl⟩ := Int.eq_ofNat_of_zero_le (show 0 ≤ i by omega)
    rw [show verM x0 x1 m j d L = ((rootM m j d L.reverse).2 && ((((rootM m j d L.reverse).1.1 : Int) == x0) && (((rootM m j d L.reverse).1.2 : Int) == x1))) from by unfold verM; rw [if_neg h]; simp only [Int.toNat_natCast]]
    exact good26 m j x0 x1 d.1 d.2 _ _ _ _ a _ cap (by omega) (by omega) (by omega) (by omega) w rfl (fun W hW => rootOf_any d L.reverse m j W _ (by omega) (by omega) (by omega) (by rw [List.reverse_reverse]; exact hv.below hW))
theorem refVerify_any (x0 x1 n i : Int) (d : Dig) (L : List Dig) (v : Value) (w : World) (hv : IsDigs w v L) :
    Calls Try.prog 27 #[.agg #[.int .u64 x0, .int .u64 x1], .int .i64 n, .int .i64 i, d.v, v] w fun e w' => e = .returned (.bool (verM x0 x1 n i d L)) ∧ Below w.heap.size w w' := by
  have hv' := hv
  obtain ⟨a, cap, rfl, _⟩ := hv'
  by_cases h : n < 1 ∨ 1099511627776 < n ∨ i < 0 ∨ n ≤ i
  · rw [show verM x0 x1 n i d L = false from by unfold verM; rw [if_pos h]]
    exact bad27 n i x0 x1 d.1 d.2 a _ cap h w
  · obtain ⟨m, rfl⟩ := Int.eq_ofNat_of_zero_le (show 0 ≤ n by omega)
    obtain ⟨j, rfl⟩ := Int.eq_ofNat_of_zero_le (show 0 ≤ i by omega)
    rw [show verM x0 x1 m j d L = ((rootM m j d L.reverse).2 && ((((rootM m j d L.reverse).1.1 : Int) == x0) && (((rootM m j d L.reverse).1.2 : Int) == x1))) from by unfold verM; rw [if_neg h]; simp only [Int.toNat_natCast]]
    exact good27 m j x0 x1 d.1 d.2 _ _ _ _ a _ cap (by omega) (by omega) (by omega) (by omega) w rfl (fun W hW => result_any d L.reverse m j W _ (by omega) (by omega) (by omega) (by rw [List.reverse_reverse]; exact hv.below hW))

/-- What the law's box holds, in a later world. -/
structure Claimed (w : World) (x0 x1 n i d0 d1 : Int) (v : Value) (W : World) : Prop where
  c0 : W.cell? ⟨w.heap.size, 0, none⟩ = some (.int .u64 x0)
  c1 : W.cell? ⟨w.heap.size, 1, none⟩ = some (.int .u64 x1)
  c2 : W.cell? ⟨w.heap.size, 2, none⟩ = some (.int .i64 n)
  c3 : W.cell? ⟨w.heap.size, 3, none⟩ = some (.int .i64 i)
  c4 : W.cell? ⟨w.heap.size, 4, none⟩ = some (.int .u64 d0)
  c5 : W.cell? ⟨w.heap.size, 5, none⟩ = some (.int .u64 d1)
  c6 : W.cell? ⟨w.heap.size, 6, none⟩ = some v
  size : w.heap.size < W.heap.size
  below : Below w.heap.size w W
theorem Claimed.on {w W W' : World} {x0 x1 n i d0 d1 : Int} {v : Value} (h : Claimed w x0 x1 n i d0 d1 v W) (hB : Below W.heap.size W W') : Claimed w x0 x1 n i d0 d1 v W' :=
  ⟨(hB.cell (p := ⟨w.heap.size, 0, none⟩) h.size).trans h.c0, (hB.cell (p := ⟨w.heap.size, 1, none⟩) h.size).trans h.c1, (hB.cell (p := ⟨w.heap.size, 2, none⟩) h.size).trans h.c2, (hB.cell (p := ⟨w.heap.size, 3, none⟩) h.size).trans h.c3,
    (hB.cell (p := ⟨w.heap.size, 4, none⟩) h.size).trans h.c4, (hB.cell (p := ⟨w.heap.size, 5, none⟩) h.size).trans h.c5, (hB.cell (p := ⟨w.heap.size, 6, none⟩) h.size).trans h.c6, Nat.lt_of_lt_of_le h.size hB.size, bl h.below hB⟩
theorem Claimed.cells {w W : World} {x0 x1 n i d0 d1 : Int} {v : Value} (h : Claimed w x0 x1 n i d0 d1 v W) : W.cell? ⟨w.heap.size, 0, none⟩ = some (.int .u64 x0) ∧ W.cell? ⟨w.heap.size, 1, none⟩ = some (.int .u64 x1) ∧ W.cell? ⟨w.heap.size, 2, none⟩ = some (.int .i64 n) ∧
    W.cell? ⟨w.heap.size, 3, none⟩ = some (.int .i64 i) ∧ W.cell? ⟨w.heap.size, 4, none⟩ = some (.int .u64 d0) ∧ W.cell? ⟨w.heap.size, 5, none⟩ = some (.int .u64 d1) ∧ W.cell? ⟨w.heap.size, 6, none⟩ = some v := ⟨h.c0, h.c1, h.c2, h.c3, h.c4, h.c5, h.c6⟩

set_option maxHeartbeats 400000 in
theorem verifyLaw_long (x0 x1 n i d0 d1 : Int) (a : Option Addr) (len cap : Nat) (h50 : 50 < len) (hl : len ≤ maxLen) (w : World) :
    Calls Try.prog 6 #[.agg #[.int .u64 x0, .int .u64 x1, .int .i64 n, .int .i64 i, .int .u64 d0, .int .u64 d1, .slice a len cap]] w fun e w' => e = .returned (.bool true) ∧ Below w.heap.size w w' := by
  unfold maxLen at hl
  have hp : (50 : Int) < (len : Int) := by omega
  go_enter Try.func6, Try.ntmps6
  go_wp2_with fail
  refine (awake_any _).mono ?_
  rintro e w1 ⟨rfl, h1⟩
  go_wp2
  go_ret
  exact ⟨rfl, bl (bla (Below.refl _ _) _) h1⟩

set_option maxHeartbeats 2000000 in
theorem verifyLaw_way (x0 x1 n i d0 d1 : Int) (t : Bool) (a : Option Addr) (len cap : Nat) (h50 : len ≤ 50) (w : World) (h10 : Gives 10 #[] (.bool true))
    (h26 : ∀ W, Below w.heap.size w W → Calls Try.prog 26 #[.agg #[.int .u64 x0, .int .u64 x1], .int .i64 n, .int .i64 i, .agg #[.int .u64 d0, .int .u64 d1], .slice a len cap] W fun e w' => e = .returned (.bool t) ∧ Below W.heap.size W w')
    (h27 : ∀ W, Below w.heap.size w W → Calls Try.prog 27 #[.agg #[.int .u64 x0, .int .u64 x1], .int .i64 n, .int .i64 i, .agg #[.int .u64 d0, .int .u64 d1], .slice a len cap] W fun e w' => e = .returned (.bool t) ∧ Below W.heap.size W w') :
    Calls Try.prog 6 #[.agg #[.int .u64 x0, .int .u64 x1, .int .i64 n, .int .i64 i, .int .u64 d0, .int .u64 d1, .slice a len cap]] w fun e w' => e = .returned (.bool true) ∧ Below w.heap.size w w' := by
  have hp : ¬ (50 : Int) < (len : Int) := by omega
  have H26 := Lib.hid h26
  have H27 := Lib.hid h27
  clear h26 h27
  go_enter Try.func6, Try.ntmps6
  go_wp2
  have start : Claimed w x0 x1 n i d0 d1 (.slice a len cap) (w.alloc (.cells #[.int .u64 x0, .int .u64 x1, .int .i64 n, .int .i64 i, .int .u64 d0, .int .u64 d1, .slice a len cap] 42)).drew :=
    ⟨by go_simp, by go_simp, by go_simp, by go_simp, by go_simp, by go_simp, by go_simp, by simp, (bla (Below.refl _ _) _).drew⟩
  go_region_held3 (fun W => W.cell? ⟨w.heap.size, 0, none⟩ = some (.int .u64 x0) ∧ W.cell? ⟨w.heap.size, 1, none⟩ = some (.int .u64 x1) ∧ W.cell? ⟨w.heap.size, 2, none⟩ = some (.int .i64 n) ∧
      W.cell? ⟨w.heap.size, 3, none⟩ = some (.int .i64 i) ∧ W.cell? ⟨w.heap.size, 4, none⟩ = some (.int .u64 d0) ∧ W.cell? ⟨w.heap.size, 5, none⟩ = some (.int .u64 d1) ∧ W.cell? ⟨w.heap.size, 6, none⟩ = some (.slice a len cap)) (first | exact hh.cells | exact start.cells)
    (first | (go_at_call 26; refine (H26.out _ (by first | exact hh.below | exact start.below)).mono ?_; rintro e w' ⟨rfl, hb⟩; have hh := Claimed.on (by first | exact hh | exact start) hb; clear hb) | (go_at_call 27; refine (H27.out _ (by first | exact hh.below | exact start.below)).mono ?_; rintro e w' ⟨rfl, hb⟩; have hh := Claimed.on (by first | exact hh | exact start) hb; clear hb) | (go_at_call 10; refine (h10 _).mono ?_; rintro e w' ⟨rfl, hb⟩; have hh := Claimed.on (by first | exact hh | exact start) hb; clear hb))
  go_wp2
  go_ret
  exact ⟨rfl, hh.below⟩
theorem verifyLaw_any (x0 x1 n i : Int) (d : Dig) (L : List Dig) (v : Value) (w : World) (hv : IsDigs w v L) :
    Calls Try.prog 6 #[.agg #[.int .u64 x0, .int .u64 x1, .int .i64 n, .int .i64 i, .int .u64 d.1, .int .u64 d.2, v]] w fun e w' => e = .returned (.bool true) ∧ Below w.heap.size w w' := by
  have hv' := hv
  obtain ⟨a, cap, rfl, h1, h2, _⟩ := hv'
  rcases Nat.lt_or_ge 50 L.length with h | h
  · exact verifyLaw_long x0 x1 n i d.1 d.2 a _ cap h (Nat.le_trans h1 h2) w
  · exact verifyLaw_way x0 x1 n i d.1 d.2 _ a _ cap h w awake_any (fun W hW => verify_any x0 x1 n i d L _ W (hv.below hW)) (fun W hW => refVerify_any x0 x1 n i d L _ W (hv.below hW))
end Go.Proofs.Ytamhokedekhocaa
