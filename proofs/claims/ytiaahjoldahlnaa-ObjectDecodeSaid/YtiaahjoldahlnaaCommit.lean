/- An object's box, and object.checkCommit, at this translation. -/
import Derived.Test.YtiaahjoldahlnaaIdx
import Derived.Deep.RegionHeld3
import Derived.Deep.Cut
namespace Go.Proofs.Ytiaahjoldahlnaa
open Go.RowKit Go.Great
attribute [local go_sem] eq_arr

/-- An object's nine cells lie in the first new block. -/
structure Bo (w : World) (k : Int) (d : BA) (ve : Value) (t1 t2 : Nat) (vp : Value) (au : BA) (ti : Int) (ms : BA) (W : World) : Prop where
  c0 : W.cell? ⟨w.heap.size, 0, none⟩ = some (.int .i64 k)
  c1 : W.cell? ⟨w.heap.size, 1, none⟩ = some (.string d)
  c2 : W.cell? ⟨w.heap.size, 2, none⟩ = some ve
  c3 : W.cell? ⟨w.heap.size, 3, none⟩ = some (.int .u64 t1)
  c4 : W.cell? ⟨w.heap.size, 4, none⟩ = some (.int .u64 t2)
  c5 : W.cell? ⟨w.heap.size, 5, none⟩ = some vp
  c6 : W.cell? ⟨w.heap.size, 6, none⟩ = some (.string au)
  c7 : W.cell? ⟨w.heap.size, 7, none⟩ = some (.int .i64 ti)
  c8 : W.cell? ⟨w.heap.size, 8, none⟩ = some (.string ms)
  lt : w.heap.size < W.heap.size
  b : Below w.heap.size w W
abbrev oc' (k : Int) (d : BA) (ve : Value) (t1 t2 : Nat) (vp : Value) (au : BA) (ti : Int) (ms : BA) : Obj :=
  .cells #[.int .i64 k, .string d, ve, .int .u64 t1, .int .u64 t2, vp, .string au, .int .i64 ti, .string ms] 28
theorem Bo.fresh (w : World) (k : Int) (d : BA) (ve : Value) (t1 t2 : Nat) (vp : Value) (au : BA) (ti : Int) (ms : BA) : Bo w k d ve t1 t2 vp au ti ms (w.alloc (oc' k d ve t1 t2 vp au ti ms)) := by
  refine ⟨?_, ?_, ?_, ?_, ?_, ?_, ?_, ?_, ?_, by simp, (Below.refl _ _).alloc (Nat.le_refl _) _⟩ <;> simp [World.cell?_alloc_new]
theorem Bo.on {w W W' : World} {k : Int} {d : BA} {ve : Value} {t1 t2 : Nat} {vp : Value} {au : BA} {ti : Int} {ms : BA} (h : Bo w k d ve t1 t2 vp au ti ms W) (hB : Below W.heap.size W W') : Bo w k d ve t1 t2 vp au ti ms W' :=
  ⟨(hB.cell (p := ⟨_, 0, none⟩) h.lt).trans h.c0, (hB.cell (p := ⟨_, 1, none⟩) h.lt).trans h.c1, (hB.cell (p := ⟨_, 2, none⟩) h.lt).trans h.c2, (hB.cell (p := ⟨_, 3, none⟩) h.lt).trans h.c3, (hB.cell (p := ⟨_, 4, none⟩) h.lt).trans h.c4,
    (hB.cell (p := ⟨_, 5, none⟩) h.lt).trans h.c5, (hB.cell (p := ⟨_, 6, none⟩) h.lt).trans h.c6, (hB.cell (p := ⟨_, 7, none⟩) h.lt).trans h.c7, (hB.cell (p := ⟨_, 8, none⟩) h.lt).trans h.c8, Nat.lt_of_lt_of_le h.lt hB.size, h.b.trans (hB.mono h.b.size)⟩
theorem Bo.alloc {w W : World} {k : Int} {d : BA} {ve : Value} {t1 t2 : Nat} {vp : Value} {au : BA} {ti : Int} {ms : BA} (h : Bo w k d ve t1 t2 vp au ti ms W) (o : Obj) : Bo w k d ve t1 t2 vp au ti ms (W.alloc o) :=
  h.on ((Below.refl _ _).alloc (Nat.le_refl _) o)
theorem Bo.drewN {w W : World} {k : Int} {d : BA} {ve : Value} {t1 t2 : Nat} {vp : Value} {au : BA} {ti : Int} {ms : BA} (h : Bo w k d ve t1 t2 vp au ti ms W) (n : Nat) : Bo w k d ve t1 t2 vp au ti ms (W.drewN n) :=
  ⟨h.c0, h.c1, h.c2, h.c3, h.c4, h.c5, h.c6, h.c7, h.c8, h.lt, below_drewN h.b n⟩
theorem Bo.drew {w W : World} {k : Int} {d : BA} {ve : Value} {t1 t2 : Nat} {vp : Value} {au : BA} {ti : Int} {ms : BA} (h : Bo w k d ve t1 t2 vp au ti ms W) : Bo w k d ve t1 t2 vp au ti ms W.drew :=
  ⟨h.c0, h.c1, h.c2, h.c3, h.c4, h.c5, h.c6, h.c7, h.c8, h.lt, h.b.drew⟩

theorem pars_zero {L : List Dig} {j : Nat} (h : j < L.length) (e : L[j] = (0, 0)) : parsFrom L j = 1 := by rw [parsFrom, dif_pos h, if_pos e]
theorem pars_old {L : List Dig} {j : Nat} (h : j < L.length) (e : L[j] ≠ (0, 0)) (m : L[j] ∈ L.take j) : parsFrom L j = 7 := by rw [parsFrom, dif_pos h, if_neg e, if_pos m]
theorem pars_new {L : List Dig} {j : Nat} (h : j < L.length) (e : L[j] ≠ (0, 0)) (m : L[j] ∉ L.take j) : parsFrom L j = parsFrom L (j + 1) := by rw [parsFrom, dif_pos h, if_neg e, if_neg m]
theorem pars_end {L : List Dig} {j : Nat} (h : L.length ≤ j) : parsFrom L j = 0 := by rw [parsFrom, dif_neg (by omega)]
/-- What a commit's later fields are. -/
def chkLate (au : BA) (ti : Int) (ms : BA) : Int := if isName au = false then 6 else if ti < 0 ∨ 1099511627776 < ti then 2 else if 200 < ms.size then 4 else 0

set_option maxRecDepth 100000 in
set_option maxHeartbeats 4000000 in
theorem commit_any (k : Int) (d : BA) (ve : Value) (t1 t2 : Nat) (L : List Dig) (vp : Value) (au : BA) (ti : Int) (ms : BA) (w : World) (h : IsDigs w vp L) (hau : au.size ≤ maxLen) (hms : ms.size ≤ maxLen) (r : Int)
    (hr : (if t1 = 0 ∧ t2 = 0 then 1 else if 8 < L.length then 4 else if parsFrom L 0 ≠ 0 then parsFrom L 0 else chkLate au ti ms) = r) :
    Calls Try.prog 43 #[.agg #[.int .i64 k, .string d, ve, .int .u64 t1, .int .u64 t2, vp, .string au, .int .i64 ti, .string ms]] w fun e w' => e = .returned (.int .i64 r) ∧ Below w.heap.size w w' := by
  have HD := Lib.hid h
  obtain ⟨a, cap, rfl, hn, hcp, hc⟩ := h
  have HC := Lib.hid hc
  clear hc
  unfold maxLen at hn hms
  have h0 := Bo.fresh w k d ve t1 t2 (.slice a L.length cap) au ti ms
  by_cases hz : t1 = 0 ∧ t2 = 0
  · rw [if_pos hz] at hr
    obtain ⟨rfl, rfl⟩ := hz
    subst hr
    have hb := h0.b
    clear h0
    go_enter Try.func43, Try.ntmps43
    go_wp2
    go_ret
    exact ⟨rfl, hb⟩
  rw [if_neg hz] at hr
  have ez : (((t1 : Nat) : Int) == 0 && ((t2 : Nat) : Int) == 0) = false := by simp; omega
  by_cases h8 : 8 < L.length
  · rw [if_pos h8] at hr
    subst hr
    have hb := h0.b
    clear h0 hz
    go_enter Try.func43, Try.ntmps43
    go_wp2
    go_ret
    exact ⟨rfl, hb⟩
  rw [if_neg h8] at hr
  have HR := Lib.hid (show (if parsFrom L 0 ≠ 0 then parsFrom L 0 else chkLate au ti ms) = r from hr)
  have H0 := Lib.hid h0
  clear hr hz h0
  go_enter Try.func43, Try.ntmps43
  go_wp2
  clear ez
  go_loopw [16] (fun s16 wr => ∃ j : Nat, j ≤ L.length ∧ s16 = .int .i64 j ∧ Hid ((if parsFrom L j ≠ 0 then parsFrom L j else chkLate au ti ms) = r) ∧ Bo w k d ve t1 t2 (.slice a L.length cap) au ti ms wr) (fun i _ => L.length - (intOf i).toNat)
  case atStart => exact ⟨0, Nat.zero_le _, rfl, HR, H0.out⟩
  case round =>
    obtain ⟨j, hj, rfl, HJ, hA⟩ := hrel
    by_cases hlt : j < L.length
    · obtain ⟨b1, o1, rfl, hb1, hcell⟩ := HC.out.resolve_left (by intro e; rw [e] at hlt; simp at hlt)
      have p0 := (hA.b.cell (p := ⟨b1, o1 + j * 2, none⟩) hb1).trans (hcell j hlt).1
      have p1 := (hA.b.cell (p := ⟨b1, o1 + j * 2 + 1, none⟩) hb1).trans (hcell j hlt).2
      obtain ⟨q, hq⟩ : ∃ q, L[j] = q := ⟨_, rfl⟩
      have P1 := Lib.hid (fun (e : q = (0, 0)) => pars_zero hlt (hq.trans e))
      have P2 := Lib.hid (fun (e : q ≠ (0, 0)) (m : q ∈ L.take j) => pars_old hlt (by rw [hq]; exact e) (by rw [hq]; exact m))
      have P3 := Lib.hid (fun (e : q ≠ (0, 0)) (m : q ∉ L.take j) => pars_new hlt (by rw [hq]; exact e) (by rw [hq]; exact m))
      rw [hq] at p0 p1
      clear hq hcell
      obtain ⟨q1, q2⟩ := q
      simp only at p0 p1
      have hA1 := hA.alloc (.cells #[.int .u64 q1, .int .u64 q2] 25)
      have cc5 := hA.c5
      have cc5' := hA1.c5
      by_cases hqz : q1 = 0 ∧ q2 = 0
      · obtain ⟨rfl, rfl⟩ := hqz
        have hr := HJ.out
        rw [P1.out rfl] at hr
        simp at hr
        subst hr
        clear hA P1 P2 P3
        have hb := hA1.b
        clear hA1
        go_wp2
        go_ret
        exact ⟨rfl, hb⟩
      · have eq : (((q1 : Nat) : Int) == 0 && ((q2 : Nat) : Int) == 0) = false := by simp; omega
        have hne : (q1, q2) ≠ ((0, 0) : Dig) := by simpa using hqz
        have HNE := Lib.hid hne
        clear hqz hne
        have start := hA1.drew
        have s0 : World.cell? ((wr.alloc (.cells #[.int .u64 q1, .int .u64 q2] 25)).drew) ⟨wr.heap.size, 0, none⟩ = some (.int .u64 q1) := by
          show World.cell? (wr.alloc (.cells #[.int .u64 q1, .int .u64 q2] 25)) ⟨wr.heap.size, 0, none⟩ = _
          simp [World.cell?_alloc_new]
        have s1 : World.cell? ((wr.alloc (.cells #[.int .u64 q1, .int .u64 q2] 25)).drew) ⟨wr.heap.size, 1, none⟩ = some (.int .u64 q2) := by
          show World.cell? (wr.alloc (.cells #[.int .u64 q1, .int .u64 q2] 25)) ⟨wr.heap.size, 1, none⟩ = _
          simp [World.cell?_alloc_new]
        have tk := isDigs_take (HD.out.below start.b (Nat.le_refl _)) j hj
        have sl : wr.heap.size < ((wr.alloc (.cells #[.int .u64 q1, .int .u64 q2] 25)).drew).heap.size := by show wr.heap.size < (wr.alloc (.cells #[.int .u64 q1, .int .u64 q2] 25)).heap.size; simp
        obtain ⟨c, hc⟩ : ∃ c, decide ((q1, q2) ∈ L.take j) = c := ⟨_, rfl⟩
        have HCX := Lib.hid hc
        have bj0 : (0 : Int) ≤ (j : Int) := by omega
        have bj1 : (j : Int) ≤ (cap : Int) := by omega
        have bj2 : j ≤ cap := by omega
        clear hA hA1 hc
        go_upto_region 10 with fail
        go_region_held3 (fun V => V.cell? ⟨w.heap.size, 5, none⟩ = some (.slice (some ⟨b1, o1, none⟩) L.length cap) ∧ V.cell? ⟨wr.heap.size, 0, none⟩ = some (.int .u64 q1) ∧ V.cell? ⟨wr.heap.size, 1, none⟩ = some (.int .u64 q2)) (first | with_reducible exact ⟨start.c5, s0, s1⟩ | with_reducible exact ⟨hh.c5, g0, g1⟩) (first | ((with_reducible refine (contains_any (L.take j) _ _ tk (q1, q2) c HCX.out).mono ?_); rintro e w5 ⟨rfl, hb5⟩; have hh := start.on hb5; have g0 := (hb5.cell (p := ⟨wr.heap.size, 0, none⟩) sl).trans s0; have g1 := (hb5.cell (p := ⟨wr.heap.size, 1, none⟩) sl).trans s1; clear hb5))
        cases c with
        | true =>
          have hr := HJ.out
          rw [P2.out HNE.out (of_decide_eq_true HCX.out)] at hr
          simp at hr
          subst hr
          clear start
          go_wp2
          go_ret
          exact ⟨rfl, hh.b⟩
        | false =>
          have hr := HJ.out
          rw [P3.out HNE.out (of_decide_eq_false HCX.out)] at hr
          have HR2 := Lib.hid hr
          clear hr start
          go_wp2
          go_roundw
          case rel => exact ⟨j + 1, by omega, by go_num, HR2, hh⟩
          case measure => simp [intOf]; omega
    · have hr := HJ.out
      rw [pars_end (by omega)] at hr
      simp only [ne_eq, not_true_eq_false, if_false] at hr
      have cc6 := hA.c6
      have cc7 := hA.c7
      have cc8 := hA.c8
      have hb := hA.b
      clear HJ hA
      unfold chkLate at hr
      cases hnm : isName au with
      | false =>
        rw [hnm, if_pos rfl] at hr
        subst hr
        have HN := Lib.hid hnm
        clear hnm
        go_wp2_with fail
        ((with_reducible refine (name_any au _ hau false HN.out).mono ?_); rintro e w1 ⟨rfl, rfl⟩)
        go_wp2
        go_ret
        exact ⟨rfl, hb⟩
      | true =>
        rw [hnm, if_neg (by simp)] at hr
        have HN := Lib.hid hnm
        clear hnm
        by_cases h1 : ti < 0
        · rw [if_pos (.inl h1)] at hr
          subst hr
          go_wp2_with fail
          ((with_reducible refine (name_any au _ hau true HN.out).mono ?_); rintro e w1 ⟨rfl, rfl⟩)
          go_wp2
          go_ret
          exact ⟨rfl, hb⟩
        by_cases h2 : 1099511627776 < ti
        · rw [if_pos (.inr h2)] at hr
          subst hr
          go_wp2_with fail
          ((with_reducible refine (name_any au _ hau true HN.out).mono ?_); rintro e w1 ⟨rfl, rfl⟩)
          go_wp2
          go_ret
          exact ⟨rfl, hb⟩
        rw [if_neg (by omega)] at hr
        by_cases h3 : 200 < ms.size
        · rw [if_pos h3] at hr
          subst hr
          go_wp2_with fail
          ((with_reducible refine (name_any au _ hau true HN.out).mono ?_); rintro e w1 ⟨rfl, rfl⟩)
          go_wp2
          go_ret
          exact ⟨rfl, hb⟩
        · rw [if_neg h3] at hr
          subst hr
          go_wp2_with fail
          ((with_reducible refine (name_any au _ hau true HN.out).mono ?_); rintro e w1 ⟨rfl, rfl⟩)
          go_wp2
          go_ret
          exact ⟨rfl, hb⟩
end Go.Proofs.Ytiaahjoldahlnaa
