/- The root that results from an element and its proof, of program and reference, at this translation. -/
import Derived.Test.YtamhokedekhocaaVerify1
import Derived.Deep.RegionHeld3
namespace Go.Proofs.Ytamhokedekhocaa
open Go.RowKit
attribute [local go_sem] eq_arr

/-- A slice of digests that came in. -/
def IsDigs (w : World) (v : Value) (L : List Dig) : Prop :=
  ∃ a cap, v = .slice a L.length cap ∧ L.length ≤ cap ∧ cap ≤ maxLen ∧ (L = [] ∨ ∃ b off, a = some ⟨b, off, none⟩ ∧ b < w.heap.size ∧
    ∀ (j : Nat) (d : Dig), L[j]? = some d → w.cell? ⟨b, off + j * 2, none⟩ = some (.int .u64 d.1) ∧ w.cell? ⟨b, off + j * 2 + 1, none⟩ = some (.int .u64 d.2))
theorem IsDigs.below {w w' : World} {v : Value} {L : List Dig} (h : IsDigs w v L) (hB : Below w.heap.size w w') : IsDigs w' v L := by
  obtain ⟨a, cap, e, h1, h2, h3⟩ := h
  refine ⟨a, cap, e, h1, h2, ?_⟩
  rcases h3 with h3 | ⟨b, off, e2, hb, hc⟩
  · exact .inl h3
  · refine .inr ⟨b, off, e2, Nat.lt_of_lt_of_le hb hB.size, fun j d hj => ?_⟩
    have := hc j d hj
    exact ⟨(hB.cell (p := ⟨b, off + j * 2, none⟩) hb).trans this.1, (hB.cell (p := ⟨b, off + j * 2 + 1, none⟩) hb).trans this.2⟩
theorem IsDigs.last {w : World} {v : Value} {M : List Dig} {p : Dig} (h : IsDigs w v (M ++ [p])) : ∃ b off cap, v = .slice (some ⟨b, off, none⟩) (M.length + 1) cap ∧ M.length + 1 ≤ cap ∧ cap ≤ maxLen ∧ b < w.heap.size ∧
    w.cell? ⟨b, off + M.length * 2, none⟩ = some (.int .u64 p.1) ∧ w.cell? ⟨b, off + M.length * 2 + 1, none⟩ = some (.int .u64 p.2) ∧ IsDigs w (.slice (some ⟨b, off, none⟩) M.length cap) M := by
  obtain ⟨a, cap, e, h1, h2, h3⟩ := h
  rcases h3 with h3 | ⟨b, off, e2, hb, hc⟩
  · simp at h3
  · simp only [List.length_append, List.length_singleton] at e h1
    have hl := hc M.length p (by simp)
    refine ⟨b, off, cap, by rw [e, e2], h1, h2, hb, hl.1, hl.2, ⟨some ⟨b, off, none⟩, cap, rfl, by omega, h2, .inr ⟨b, off, rfl, hb, fun j d hj => hc j d ?_⟩⟩⟩
    have : j < M.length := (List.getElem?_eq_some_iff.1 hj).1
    rw [List.getElem?_append_left this]; exact hj

/-- The root that results, and whether the proof has the right number of elements; the proof's last element stands first. -/
def rootM : Nat → Nat → Dig → List Dig → Dig × Bool
  | n, _, d, [] => if n = 1 then (leafD d, true) else ((0, 0), false)
  | n, i, d, p :: rp => if n = 1 then (leafD d, false) else if i < leftN n then (pairD (rootM (leftN n) i d rp).1 p, (rootM (leftN n) i d rp).2) else (pairD p (rootM (n - leftN n) (i - leftN n) d rp).1, (rootM (n - leftN n) (i - leftN n) d rp).2)

/-- The last element's two cells, and that nothing old has turned. -/
def LastAt (w : World) (b o : Nat) (x y : Int) (w' : World) : Prop := w'.cell? ⟨b, o, none⟩ = some (.int .u64 x) ∧ w'.cell? ⟨b, o + 1, none⟩ = some (.int .u64 y) ∧ Below w.heap.size w w'
theorem LastAt.alloc {w w' : World} {b o : Nat} {x y : Int} (h : LastAt w b o x y w') (hb : b < w.heap.size) (ob : Obj) : LastAt w b o x y (w'.alloc ob) := by
  have hz := h.2.2.size
  have hB := (Below.refl w'.heap.size w').alloc (Nat.le_refl _) ob
  exact ⟨(hB.cell (p := ⟨b, o, none⟩) (by show b < _; omega)).trans h.1, (hB.cell (p := ⟨b, o + 1, none⟩) (by show b < _; omega)).trans h.2.1, bla h.2.2 _⟩
theorem LastAt.put {w w' : World} {b o : Nat} {x y : Int} (h : LastAt w b o x y w') (hb : b < w.heap.size) (c i : Nat) (hc : w.heap.size ≤ c) (v : Value) : LastAt w b o x y (w'.setCell ⟨c, i, none⟩ v) := by
  refine ⟨(World.cell?_setCell_other w' _ _ _ ?_).trans h.1, (World.cell?_setCell_other w' _ _ _ ?_).trans h.2.1, h.2.2.setCell (p := ⟨c, i, none⟩) hc _⟩ <;> (intro e; injection e; omega)

/-- What the three blocks of a call hold, in a later world. -/
structure Box4 (w : World) (p0 p1 : Int) (w' : World) : Prop where
  res : Two w' (w.heap.size + 1) 0 0
  last : Two w' (w.heap.size + 1 + 1) p0 p1
  size : w.heap.size + 1 + 1 < w'.heap.size
  below : Below w.heap.size w w'
theorem Box4.first (w : World) (d0 d1 p0 p1 : Int) : Box4 w p0 p1 (((w.alloc (.cells #[.int .u64 d0, .int .u64 d1] 24)).alloc (.cells #[.int .u64 0, .int .u64 0] 24)).alloc (.cells #[.int .u64 p0, .int .u64 p1] 24)).drew := by
  have h1 := (Two.fresh (w.alloc (.cells #[.int .u64 d0, .int .u64 d1] 24)) 0 0 24).alloc (by simp) (.cells #[.int .u64 p0, .int .u64 p1] 24)
  have h2 := Two.fresh ((w.alloc (.cells #[.int .u64 d0, .int .u64 d1] 24)).alloc (.cells #[.int .u64 0, .int .u64 0] 24)) p0 p1 24
  rw [World.size_alloc] at h1
  rw [World.size_alloc, World.size_alloc] at h2
  exact ⟨h1, h2, by simp, (bla (bla (bla (Below.refl _ _) _) _) _).drew⟩
theorem Box4.on {w W W' : World} {p0 p1 : Int} (h : Box4 w p0 p1 W) (hB : Below W.heap.size W W') : Box4 w p0 p1 W' :=
  ⟨h.res.below hB (Nat.lt_of_succ_lt h.size), h.last.below hB h.size, Nat.lt_of_lt_of_le h.size hB.size, bl h.below hB⟩
theorem Box4.alloc {w W : World} {p0 p1 : Int} (h : Box4 w p0 p1 W) (o : Obj) : Box4 w p0 p1 (W.alloc o) := h.on ((Below.refl _ _).alloc (Nat.le_refl _) o)

set_option maxHeartbeats 1000000 in
theorem rootOf_less (n i m : Nat) (d0 d1 p0 p1 r0 r1 s0 s1 : Int) (ok : Bool) (hn : 2 ≤ n) (hn2 : n ≤ 1099511627776) (hi : i < leftN n) (b off cap : Nat) (w : World)
    (hc1 : m + 1 ≤ cap) (hc2 : cap ≤ maxLen) (hb : b < w.heap.size) (e0 : w.cell? ⟨b, off + m * 2, none⟩ = some (.int .u64 p0)) (e1 : w.cell? ⟨b, off + m * 2 + 1, none⟩ = some (.int .u64 p1))
    (hrec : ∀ W, Below w.heap.size w W → Calls Try.prog 47 #[.int .i64 (leftN n), .int .i64 i, .agg #[.int .u64 d0, .int .u64 d1], .slice (some ⟨b, off, none⟩) m cap] W fun e w' => e = .returned (.tuple #[.agg #[.int .u64 r0, .int .u64 r1], .bool ok]) ∧ Below W.heap.size W w')
    (hpair : ∀ W, Calls Try.prog 15 #[.agg #[.int .u64 r0, .int .u64 r1], .agg #[.int .u64 p0, .int .u64 p1]] W fun e w' => e = .returned (.agg #[.int .u64 s0, .int .u64 s1]) ∧ Below W.heap.size W w') :
    Calls Try.prog 47 #[.int .i64 n, .int .i64 i, .agg #[.int .u64 d0, .int .u64 d1], .slice (some ⟨b, off, none⟩) (m + 1) cap] w fun e w' => e = .returned (.tuple #[.agg #[.int .u64 s0, .int .u64 s1], .bool ok]) ∧ Below w.heap.size w w' := by
  unfold maxLen at hc2
  have HR := Lib.hid hrec
  have HP := Lib.hid hpair
  clear hrec hpair
  have t1 : ((n : Int) == 1) = false := by simp; omega
  have t2 : ((m : Int) + 1 == 0) = false := by simp; omega
  have t3 : (0 : Int) ≤ (m : Int) := by omega
  have t4 : (m : Int) < (m : Int) + 1 := by omega
  have t5 : (m : Int) ≤ (cap : Int) := by omega
  have t6 : (i : Int) < (leftN n : Int) := by omega
  have w1 : IntKind.i64.wrap (m : Int) = (m : Int) := by rw [IntKind.wrap_i64]; omega
  have w2 : IntKind.i64.wrap ((m : Int) + 1 - 1) = (m : Int) := by rw [IntKind.wrap_i64]; omega
  go_enter Try.func47, Try.ntmps47
  go_wp2
  have start : LastAt w b (off + m * 2) p0 p1 ((w.alloc (.cells #[.int .u64 d0, .int .u64 d1] 24)).alloc (.cells #[.int .u64 0, .int .u64 0] 24)).drew := by
    have h0 : LastAt w b (off + m * 2) p0 p1 w := ⟨e0, e1, Below.refl _ _⟩
    have h2 := (h0.alloc hb (.cells #[.int .u64 d0, .int .u64 d1] 24)).alloc hb (.cells #[.int .u64 0, .int .u64 0] 24)
    exact ⟨h2.1, h2.2.1, h2.2.2.drew⟩
  have start3 : ∀ ob, LastAt w b (off + m * 2) p0 p1 (((w.alloc (.cells #[.int .u64 d0, .int .u64 d1] 24)).alloc (.cells #[.int .u64 0, .int .u64 0] 24)).alloc ob).drew := fun ob => by
    have h0 : LastAt w b (off + m * 2) p0 p1 w := ⟨e0, e1, Below.refl _ _⟩
    have h2 := ((h0.alloc hb (.cells #[.int .u64 d0, .int .u64 d1] 24)).alloc hb (.cells #[.int .u64 0, .int .u64 0] 24)).alloc hb ob
    exact ⟨h2.1, h2.2.1, h2.2.2.drew⟩
  go_region_held3 (fun w' => w'.cell? ⟨b, off + m * 2, none⟩ = some (.int .u64 p0) ∧ w'.cell? ⟨b, off + m * 2 + 1, none⟩ = some (.int .u64 p1) ∧ Below w.heap.size w w') (first | exact start | exact start3 _)
    (first | (go_at_call 45; refine (half_any n hn hn2 _).mono ?_; rintro e w' ⟨rfl, rfl⟩))
  all_goals
    go_wp2_with fail
    refine (HR.out _ (start3 _).2.2).mono ?_
    rintro e w' ⟨rfl, hb1⟩
    have k1 := (Box4.first w d0 d1 p0 p1).on hb1
    obtain ⟨a1, a2, a3, a4⟩ := k1.last
    have a5 := k1.size
    go_wp2_with fail
    refine (HP.out _).mono ?_
    rintro e w2 ⟨rfl, hb2⟩
    have k2 := (k1.alloc (.cells #[.int .u64 r0, .int .u64 r1] 24)).on hb2
    obtain ⟨c1, c2, c3, c4⟩ := k2.res
    have c5 := k2.size
    clear a1 a2 a3 a4 a5
    go_wp2
    refine bodyPost_ret (v := .tuple #[.agg #[.int .u64 s0, .int .u64 s1], .bool ok]) ?_ rfl ⟨rfl, ?_⟩
    · obtain ⟨x1, x2, _, _⟩ := (k2.res.set0 s0).set1 s1
      simp [results, Try.results47, go_sem, x1, x2]
    · exact (k2.below.setCell (p := ⟨w.heap.size + 1, 0, none⟩) (by simp) _).setCell (p := ⟨w.heap.size + 1, 1, none⟩) (by simp) _
set_option maxHeartbeats 1000000 in
theorem rootOf_more (n i m : Nat) (d0 d1 p0 p1 r0 r1 s0 s1 : Int) (ok : Bool) (hn : 2 ≤ n) (hn2 : n ≤ 1099511627776) (hi : leftN n ≤ i) (hi2 : i < n) (hk : leftN n < n) (b off cap : Nat) (w : World)
    (hc1 : m + 1 ≤ cap) (hc2 : cap ≤ maxLen) (hb : b < w.heap.size) (e0 : w.cell? ⟨b, off + m * 2, none⟩ = some (.int .u64 p0)) (e1 : w.cell? ⟨b, off + m * 2 + 1, none⟩ = some (.int .u64 p1))
    (hrec : ∀ W, Below w.heap.size w W → Calls Try.prog 47 #[.int .i64 ((n : Int) - (leftN n : Int)), .int .i64 ((i : Int) - (leftN n : Int)), .agg #[.int .u64 d0, .int .u64 d1], .slice (some ⟨b, off, none⟩) m cap] W fun e w' => e = .returned (.tuple #[.agg #[.int .u64 r0, .int .u64 r1], .bool ok]) ∧ Below W.heap.size W w')
    (hpair : ∀ W, Calls Try.prog 15 #[.agg #[.int .u64 p0, .int .u64 p1], .agg #[.int .u64 r0, .int .u64 r1]] W fun e w' => e = .returned (.agg #[.int .u64 s0, .int .u64 s1]) ∧ Below W.heap.size W w') :
    Calls Try.prog 47 #[.int .i64 n, .int .i64 i, .agg #[.int .u64 d0, .int .u64 d1], .slice (some ⟨b, off, none⟩) (m + 1) cap] w fun e w' => e = .returned (.tuple #[.agg #[.int .u64 s0, .int .u64 s1], .bool ok]) ∧ Below w.heap.size w w' := by
  unfold maxLen at hc2
  have HR := Lib.hid hrec
  have HP := Lib.hid hpair
  clear hrec hpair
  have t1 : ((n : Int) == 1) = false := by simp; omega
  have t2 : ((m : Int) + 1 == 0) = false := by simp; omega
  have t3 : (0 : Int) ≤ (m : Int) := by omega
  have t4 : (m : Int) < (m : Int) + 1 := by omega
  have t5 : (m : Int) ≤ (cap : Int) := by omega
  have t6 : ¬ (i : Int) < (leftN n : Int) := by omega
  have t7 : (leftN n : Int) ≤ (i : Int) := by omega
  have t8 : (i : Int) < (n : Int) := by omega
  have t9 : (n : Int) ≤ 1099511627776 := by omega
  have w1 : IntKind.i64.wrap (m : Int) = (m : Int) := by rw [IntKind.wrap_i64]; omega
  have w2 : IntKind.i64.wrap ((m : Int) + 1 - 1) = (m : Int) := by rw [IntKind.wrap_i64]; omega
  go_enter Try.func47, Try.ntmps47
  go_wp2
  have start : LastAt w b (off + m * 2) p0 p1 ((w.alloc (.cells #[.int .u64 d0, .int .u64 d1] 24)).alloc (.cells #[.int .u64 0, .int .u64 0] 24)).drew := by
    have h0 : LastAt w b (off + m * 2) p0 p1 w := ⟨e0, e1, Below.refl _ _⟩
    have h2 := (h0.alloc hb (.cells #[.int .u64 d0, .int .u64 d1] 24)).alloc hb (.cells #[.int .u64 0, .int .u64 0] 24)
    exact ⟨h2.1, h2.2.1, h2.2.2.drew⟩
  have start3 : ∀ ob, LastAt w b (off + m * 2) p0 p1 (((w.alloc (.cells #[.int .u64 d0, .int .u64 d1] 24)).alloc (.cells #[.int .u64 0, .int .u64 0] 24)).alloc ob).drew := fun ob => by
    have h0 : LastAt w b (off + m * 2) p0 p1 w := ⟨e0, e1, Below.refl _ _⟩
    have h2 := ((h0.alloc hb (.cells #[.int .u64 d0, .int .u64 d1] 24)).alloc hb (.cells #[.int .u64 0, .int .u64 0] 24)).alloc hb ob
    exact ⟨h2.1, h2.2.1, h2.2.2.drew⟩
  go_region_held3 (fun w' => w'.cell? ⟨b, off + m * 2, none⟩ = some (.int .u64 p0) ∧ w'.cell? ⟨b, off + m * 2 + 1, none⟩ = some (.int .u64 p1) ∧ Below w.heap.size w w') (first | exact start | exact start3 _)
    (first | (go_at_call 45; refine (half_any n hn hn2 _).mono ?_; rintro e w' ⟨rfl, rfl⟩))
  all_goals
    go_wp2_with fail
    refine (HR.out _ (start3 _).2.2).mono ?_
    rintro e w' ⟨rfl, hb1⟩
    have k1 := (Box4.first w d0 d1 p0 p1).on hb1
    obtain ⟨a1, a2, a3, a4⟩ := k1.last
    have a5 := k1.size
    go_wp2_with fail
    refine (HP.out _).mono ?_
    rintro e w2 ⟨rfl, hb2⟩
    have k2 := (k1.alloc (.cells #[.int .u64 r0, .int .u64 r1] 24)).on hb2
    obtain ⟨c1, c2, c3, c4⟩ := k2.res
    have c5 := k2.size
    clear a1 a2 a3 a4 a5
    go_wp2
    refine bodyPost_ret (v := .tuple #[.agg #[.int .u64 s0, .int .u64 s1], .bool ok]) ?_ rfl ⟨rfl, ?_⟩
    · obtain ⟨x1, x2, _, _⟩ := (k2.res.set0 s0).set1 s1
      simp [results, Try.results47, go_sem, x1, x2]
    · exact (k2.below.setCell (p := ⟨w.heap.size + 1, 0, none⟩) (by simp) _).setCell (p := ⟨w.heap.size + 1, 1, none⟩) (by simp) _
set_option maxHeartbeats 1000000 in
theorem rootOf_one (i len cap : Nat) (a : Option Addr) (d0 d1 l0 l1 : Int)
    (hleaf : ∀ W, Calls Try.prog 44 #[.agg #[.int .u64 d0, .int .u64 d1]] W fun e w' => e = .returned (.agg #[.int .u64 l0, .int .u64 l1]) ∧ Below W.heap.size W w') (w : World) :
    Calls Try.prog 47 #[.int .i64 1, .int .i64 i, .agg #[.int .u64 d0, .int .u64 d1], .slice a len cap] w fun e w' => e = .returned (.tuple #[.agg #[.int .u64 l0, .int .u64 l1], .bool ((len : Int) == 0)]) ∧ Below w.heap.size w w' := by
  have HL := Lib.hid hleaf
  clear hleaf
  go_enter Try.func47, Try.ntmps47
  go_wp2_with fail
  refine (HL.out _).mono ?_
  rintro e w' ⟨rfl, hb1⟩
  have r0 := Two.fresh (w.alloc (.cells #[.int .u64 d0, .int .u64 d1] 24)) 0 0 24
  rw [World.size_alloc] at r0
  have hQ := r0.below hb1 (by simp)
  obtain ⟨q0, q1, q2, q3⟩ := hQ
  have hQ : Two w' (w.heap.size + 1) 0 0 := ⟨q0, q1, q2, q3⟩
  go_wp2
  refine bodyPost_ret (v := .tuple #[.agg #[.int .u64 l0, .int .u64 l1], .bool ((len : Int) == 0)]) ?_ rfl ⟨rfl, ?_⟩
  · obtain ⟨x1, x2, _, _⟩ := (hQ.set0 l0).set1 l1
    simp [results, Try.results47, go_sem, x1, x2]
  · exact ((bl (bla (bla (Below.refl _ _) _) _) hb1).setCell (p := ⟨w.heap.size + 1, 0, none⟩) (by simp) _).setCell (p := ⟨w.heap.size + 1, 1, none⟩) (by simp) _
set_option maxHeartbeats 1000000 in
theorem rootOf_none (n i cap : Nat) (a : Option Addr) (d0 d1 : Int) (hn : 2 ≤ n) (w : World) :
    Calls Try.prog 47 #[.int .i64 n, .int .i64 i, .agg #[.int .u64 d0, .int .u64 d1], .slice a 0 cap] w fun e w' => e = .returned (.tuple #[.agg #[.int .u64 0, .int .u64 0], .bool false]) ∧ Below w.heap.size w w' := by
  have t1 : ((n : Int) == 1) = false := by simp; omega
  go_enter Try.func47, Try.ntmps47
  go_wp2
  refine bodyPost_ret (v := .tuple #[.agg #[.int .u64 0, .int .u64 0], .bool false]) ?_ rfl ⟨rfl, ?_⟩
  · simp [results, Try.results47, go_sem]
  · exact bla (bla (Below.refl _ _) _) _

/-- digest.rootOf returns the root that results. -/
theorem rootOf_any (d : Dig) : ∀ (rp : List Dig) (n i : Nat) (w : World) (v : Value), 1 ≤ n → n ≤ 1099511627776 → i < n → IsDigs w v rp.reverse →
    Calls Try.prog 47 #[.int .i64 n, .int .i64 i, d.v, v] w fun e w' => e = .returned (.tuple #[(rootM n i d rp).1.v, .bool (rootM n i d rp).2]) ∧ Below w.heap.size w w'
  | [], n, i, w, v, h1, h2, h3, hv => by
    obtain ⟨a, cap, rfl, _⟩ := hv
    by_cases hn : n = 1
    · subst hn
      exact rootOf_one i 0 cap a d.1 d.2 (leafD d).1 (leafD d).2 (fun W => leafV_any d.1 d.2 W) w
    · have e : rootM n i d [] = ((0, 0), false) := by unfold rootM; rw [if_neg hn]
      rw [e]
      exact rootOf_none n i cap a d.1 d.2 (by omega) w
  | p :: rp, n, i, w, v, h1, h2, h3, hv => by
    rw [List.reverse_cons] at hv
    obtain ⟨b, off, cap, rfl, hc1, hc2, hb, e0, e1, hrest⟩ := hv.last
    by_cases hn : n = 1
    · subst hn
      have e : rootM 1 i d (p :: rp) = (leafD d, false) := by unfold rootM; rw [if_pos rfl]
      rw [e]
      refine (rootOf_one i (rp.reverse.length + 1) cap _ d.1 d.2 (leafD d).1 (leafD d).2 (fun W => leafV_any d.1 d.2 W) w).mono ?_
      rintro e w' ⟨rfl, hB⟩
      refine ⟨?_, hB⟩
      have : (((rp.reverse.length + 1 : Nat) : Int) == 0) = false := by simp; omega
      rw [this]; rfl
    · obtain ⟨_, _, _, _, hk, _⟩ := leftN_spec n (by omega) (by omega)
      have hpos : 1 ≤ leftN n := Nat.pow_pos (by decide)
      by_cases hi : i < leftN n
      · have e : rootM n i d (p :: rp) = (pairD (rootM (leftN n) i d rp).1 p, (rootM (leftN n) i d rp).2) := by rw [rootM, if_neg hn, if_pos hi]
        rw [e]
        exact rootOf_less n i _ d.1 d.2 p.1 p.2 (rootM (leftN n) i d rp).1.1 (rootM (leftN n) i d rp).1.2 (pairD (rootM (leftN n) i d rp).1 p).1 (pairD (rootM (leftN n) i d rp).1 p).2 _ (by omega) h2 hi b off cap w hc1 hc2 hb e0 e1
          (fun W hW => rootOf_any d rp (leftN n) i W _ hpos (by omega) hi (hrest.below hW)) (fun W => pairD_any _ p W)
      · have e : rootM n i d (p :: rp) = (pairD p (rootM (n - leftN n) (i - leftN n) d rp).1, (rootM (n - leftN n) (i - leftN n) d rp).2) := by rw [rootM, if_neg hn, if_neg hi]
        rw [e]
        refine rootOf_more n i _ d.1 d.2 p.1 p.2 (rootM (n - leftN n) (i - leftN n) d rp).1.1 (rootM (n - leftN n) (i - leftN n) d rp).1.2 (pairD p (rootM (n - leftN n) (i - leftN n) d rp).1).1 (pairD p (rootM (n - leftN n) (i - leftN n) d rp).1).2 _ (by omega) h2 (by omega) h3 hk b off cap w hc1 hc2 hb e0 e1
          (fun W hW => ?_) (fun W => pairD_any p _ W)
        have := rootOf_any d rp (n - leftN n) (i - leftN n) W _ (by omega) (by omega) (by omega) (hrest.below hW)
        rw [Int.natCast_sub (by omega), Int.natCast_sub (by omega)] at this
        exact this
end Go.Proofs.Ytamhokedekhocaa
