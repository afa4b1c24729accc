/- The two functions that say how many bytes of a write are kept, at this translation. -/
import Derived.Test.YtgdfdelggihceaaSmall
import Derived.Test.YtgdfdelggihceaaKeep
namespace Go.Proofs.Ytgdfdelggihceaa
open Go.RowKit

/-- A slice whose cells are these numbers. -/
def IsInts (w : World) (v : Value) (L : List Int) : Prop :=
  ∃ a cap, v = .slice a L.length cap ∧ L.length ≤ maxLen ∧ L.length ≤ cap ∧ (L = [] ∨ ∃ b off, a = some ⟨b, off, none⟩ ∧ b < w.heap.size ∧ ∀ j (h : j < L.length), w.cell? ⟨b, off + j, none⟩ = some (.int .i64 L[j]))
theorem IsInts.below {w w' : World} {v : Value} {L : List Int} {B : Nat} (h : IsInts w v L) (hB : Below B w w') (hz : w.heap.size ≤ B) : IsInts w' v L := by
  obtain ⟨a, cap, e, h1, h2, h3⟩ := h
  refine ⟨a, cap, e, h1, h2, h3.imp id ?_⟩
  rintro ⟨b, off, e2, hb, hj⟩
  exact ⟨b, off, e2, Nat.lt_of_lt_of_le hb hB.size, fun j h => (hB.cell (p := ⟨b, off + j, none⟩) (show b < B by omega)).trans (hj j h)⟩
theorem isInts_nil (w : World) : IsInts w (.slice none 0 0) [] := ⟨none, 0, rfl, Nat.zero_le _, Nat.zero_le _, .inl rfl⟩
/-- How many bytes a pick keeps. -/
def pk (P : List Int) (sz : Int) (i : Nat) : Nat := ((P[i]?.getD 0).tmod (sz + 1)).natAbs
theorem pk_le (P : List Int) (sz : Int) (h : 1 ≤ sz) (i : Nat) : (pk P sz i : Int) ≤ sz := by
  unfold pk
  rw [Int.natAbs_tmod]
  have := Nat.mod_lt (P[i]?.getD 0).natAbs (show 0 < (sz + 1).natAbs by omega)
  omega
theorem pk_out (P : List Int) (sz : Int) (i : Nat) (h : P.length ≤ i) : pk P sz i = 0 := by
  unfold pk
  rw [List.getElem?_eq_none h]; simp
theorem pk_in (P : List Int) (sz : Int) (i : Nat) (h : i < P.length) : pk P sz i = (P[i].tmod (sz + 1)).natAbs := by
  unfold pk
  rw [List.getElem?_eq_getElem h]; rfl

theorem sync1_any (j : Nat) (N : Nat) (sz : Int) (W : World) (h : W.cell? ⟨N, 0, none⟩ = some (.int .i64 sz)) :
    Calls Try.prog 38 #[.int .i64 j, .pointer (some ⟨N, 0, none⟩)] W fun e w' => e = .returned (.int .i64 sz) ∧ Below W.heap.size W w' := by
  go_enter Try.func38, Try.ntmps38
  go_wp2
  go_ret
  exact ⟨rfl, Below.refl _ _⟩

set_option maxHeartbeats 1000000 in
theorem cut1_any (j : Nat) (M N : Nat) (P : List Int) (v : Value) (sz : Int) (s1 : 1 ≤ sz) (s2 : sz ≤ 512) (_hj : j ≤ 9223372036854775807) (W : World) (hM : W.cell? ⟨M, 0, none⟩ = some v) (hP : IsInts W v P) (h : W.cell? ⟨N, 0, none⟩ = some (.int .i64 sz)) (r : Nat) (hr : pk P sz j = r) :
    Calls Try.prog 39 #[.int .i64 j, .pointer (some ⟨M, 0, none⟩), .pointer (some ⟨N, 0, none⟩)] W fun e w' => e = .returned (.int .i64 r) ∧ Below W.heap.size W w' := by
  obtain ⟨a, cap, rfl, hl, hcap, hc⟩ := hP
  unfold maxLen at hl
  have HC := Lib.hid hc
  clear hc
  by_cases hjl : j < P.length
  · obtain ⟨b1, o1, rfl, hb1, hcell⟩ := HC.out.resolve_left (by intro e; rw [e] at hjl; simp at hjl)
    have p0 := hcell j hjl
    rw [pk_in _ _ _ hjl] at hr
    have hjl' : ¬ (P.length : Int) ≤ (j : Int) := by omega
    generalize P[j] = x at p0 hr
    have hb := Int.natAbs_tmod x (sz + 1)
    have hm := Nat.mod_lt x.natAbs (show 0 < (sz + 1).natAbs by omega)
    rw [← hb] at hm
    have e1 : IntKind.i64.wrap (sz + 1) = sz + 1 := IntWalk.i64_in _ (by omega)
    have e2 : sz + 1 ≠ 0 := by omega
    have e3 : ((sz + 1) == 0) = false := by simpa using e2
    have HR := Lib.hid hr
    obtain ⟨y, hy⟩ : ∃ y, x.tmod (sz + 1) = y := ⟨_, rfl⟩
    rw [hy] at hm hb
    have HY := Lib.hid hy
    have y1 : -512 ≤ y := by omega
    have y2 : y ≤ 512 := by omega
    clear hcell hr hb hm e2
    go_enter Try.func39, Try.ntmps39
    go_wp2
    go_quiet (fail)
    go_wp2
    go_ret
    have hmax : max y (-y) = (r : Int) := by have := HR.out; rw [HY.out] at this; omega
    have B0 := Below.refl W.heap.size W
    exact ⟨by show Ending.returned (.int .i64 (max y (-y))) = _; rw [hmax], ⟨B0.os, B0.tape, B0.output, B0.size, B0.block⟩⟩
  · have hjl' : (P.length : Int) ≤ (j : Int) := by omega
    rw [pk_out _ _ _ (by omega)] at hr
    subst hr
    go_enter Try.func39, Try.ntmps39
    go_wp2
    go_ret
    exact ⟨rfl, Below.refl _ _⟩
end Go.Proofs.Ytgdfdelggihceaa
