/- power, Clip, Great and Same, at this translation. -/
import Derived.Test.YtgdfdelggihceaaCheck
import Derived.BigQuiet
import Derived.Deep.QuietTactic
import Derived.WalkSpells
import Derived.WalkLawsBesides
namespace Go.Proofs.Ytgdfdelggihceaa
open Go.RowKit

/-- What is left after one more operation. -/
def lessI (l : Int) : Int := if 0 < l then l - 1 else l
set_option maxHeartbeats 1000000 in
theorem power_zero (sz : Int) (a b : Option Addr) (n cap m cap2 : Nat) (w : World) :
    Calls Try.prog 34 #[dv sz (.slice a n cap) (.slice b m cap2) 0] w fun e w' => e = .returned (.tuple #[dv sz (.slice a n cap) (.slice b m cap2) 0, .int .i64 20]) ∧ Below w.heap.size w w' := by
  have hB := ((Below.refl w.heap.size w).alloc (Nat.le_refl _) (.cells #[.int .i64 sz, .slice a n cap, .slice b m cap2, .int .i64 0] 26)).alloc (by simp) (.cells #[.int .i64 sz, .slice a n cap, .slice b m cap2, .int .i64 0] 26)
  go_enter Try.func34, Try.ntmps34
  go_wp2
  exact bodyPost_ret (v := .tuple #[dv sz (.slice a n cap) (.slice b m cap2) 0, .int .i64 20]) (by simp [results, Try.results34, go_sem]) rfl ⟨rfl, hB⟩
set_option maxHeartbeats 1000000 in
theorem power_some (sz : Int) (a b : Option Addr) (n cap m cap2 : Nat) (lf lf' : Int) (h0 : lf ≠ 0) (hlo : -1 ≤ lf) (hhi : lf ≤ 9223372036854775807) (hl : lessI lf = lf') (w : World) :
    Calls Try.prog 34 #[dv sz (.slice a n cap) (.slice b m cap2) lf] w fun e w' => e = .returned (.tuple #[dv sz (.slice a n cap) (.slice b m cap2) lf', .int .i64 0]) ∧ Below w.heap.size w w' := by
  have hB := fun l l2 => ((Below.refl w.heap.size w).alloc (Nat.le_refl _) (.cells #[.int .i64 sz, .slice a n cap, .slice b m cap2, .int .i64 l] 26)).alloc (by simp) (.cells #[.int .i64 sz, .slice a n cap, .slice b m cap2, .int .i64 l2] 26)
  unfold lessI at hl
  have t0 : (lf == 0) = false := by simpa using h0
  by_cases hp : 0 < lf
  · rw [if_pos hp] at hl
    subst hl
    clear h0
    go_enter Try.func34, Try.ntmps34
    go_wp2
    exact bodyPost_ret (v := .tuple #[dv sz (.slice a n cap) (.slice b m cap2) (lf - 1), .int .i64 0]) (by simp [results, Try.results34, go_sem]) rfl ⟨rfl, hB _ _⟩
  · rw [if_neg hp] at hl
    subst hl
    clear h0
    go_enter Try.func34, Try.ntmps34
    go_wp2
    exact bodyPost_ret (v := .tuple #[dv sz (.slice a n cap) (.slice b m cap2) lf, .int .i64 0]) (by simp [results, Try.results34, go_sem]) rfl ⟨rfl, hB _ _⟩
theorem clip_any (a : Option Addr) (n cap : Nat) (hn : n ≤ cap) (_hm : n ≤ maxLen) (w : World) :
    Calls Try.prog 35 #[.slice a n cap] w fun e w' => e = .returned (.slice a n n) ∧ w = w' := by
  unfold maxLen at _hm
  have h1 : (n : Int) ≤ (cap : Int) := by omega
  go_enter Try.func35, Try.ntmps35
  go_wp2
  go_ret
  exact ⟨rfl, rfl⟩
set_option maxHeartbeats 1000000 in
theorem great_yes (D : Dk) (v : Value) (w : World) (hv : IsDisk w v D) (h : 12 < D.secs.length ∨ 12 < D.pend.length ∨ 40 < D.size) :
    Calls Try.prog 15 #[v] w fun e w' => e = .returned (.bool true) ∧ Below w.heap.size w w' := by
  obtain ⟨_, _, rfl, ⟨a, cap, rfl, hn, _, _⟩, ⟨b, cap2, rfl, hm, _, _⟩⟩ := hv
  unfold maxLen at hn hm
  have hB := (Below.refl w.heap.size w).alloc (Nat.le_refl _) (.cells #[.int .i64 D.size, .slice a D.secs.length cap, .slice b D.pend.length cap2, .int .i64 D.left] 26)
  by_cases h1 : 12 < (D.secs.length : Int)
  · clear h
    go_enter Try.func15, Try.ntmps15
    go_wp2
    go_ret
    exact ⟨rfl, hB⟩
  by_cases h2 : 12 < (D.pend.length : Int)
  · clear h
    go_enter Try.func15, Try.ntmps15
    go_wp2
    go_ret
    exact ⟨rfl, hB⟩
  have h3 : 40 < D.size := by omega
  clear h
  go_enter Try.func15, Try.ntmps15
  go_wp2
  go_ret
  exact ⟨rfl, hB⟩
set_option maxHeartbeats 1000000 in
theorem great_no (D : Dk) (v : Value) (w : World) (hv : IsDisk w v D) (h1 : D.secs.length ≤ 12) (h2 : D.pend.length ≤ 12) (h3 : D.size ≤ 40) :
    Calls Try.prog 15 #[v] w fun e w' => e = .returned (.bool false) ∧ Below w.heap.size w w' := by
  obtain ⟨_, _, rfl, ⟨a, cap, rfl, hn, _, _⟩, ⟨b, cap2, rfl, hm, _, _⟩⟩ := hv
  have hB := (Below.refl w.heap.size w).alloc (Nat.le_refl _) (.cells #[.int .i64 D.size, .slice a D.secs.length cap, .slice b D.pend.length cap2, .int .i64 D.left] 26)
  have h1' : ¬ 12 < (D.secs.length : Int) := by omega
  have h2' : ¬ 12 < (D.pend.length : Int) := by omega
  have h3' : ¬ 40 < D.size := by omega
  clear h1 h2 h3
  go_enter Try.func15, Try.ntmps15
  go_wp2
  go_ret
  exact ⟨rfl, hB⟩

set_option maxHeartbeats 4000000 in
theorem same_any (D : Dk) (v1 v2 : Value) (w : World) (h1 : IsDisk w v1 D) (h2 : IsDisk w v2 D) :
    Calls Try.prog 14 #[v1, v2] w fun e w' => e = .returned (.bool true) ∧ Below w.heap.size w w' := by
  obtain ⟨_, _, rfl, ⟨a, cap, rfl, hn, hcap, hc⟩, ⟨b, cap2, rfl, hm, hcap2, hc2⟩⟩ := h1
  obtain ⟨_, _, rfl, ⟨a', cap', rfl, _, hcap', hc'⟩, ⟨b', cap2', rfl, _, hcap2', hc2'⟩⟩ := h2
  unfold maxLen at hn hm
  have hB := ((Below.refl w.heap.size w).alloc (Nat.le_refl _) (.cells #[.int .i64 D.size, .slice a D.secs.length cap, .slice b D.pend.length cap2, .int .i64 D.left] 26)).alloc (by simp) (.cells #[.int .i64 D.size, .slice a' D.secs.length cap', .slice b' D.pend.length cap2', .int .i64 D.left] 26)
  have x1 := (Bx.fresh D.size (.slice a D.secs.length cap) (.slice b D.pend.length cap2) D.left w).alloc (.cells #[.int .i64 D.size, .slice a' D.secs.length cap', .slice b' D.pend.length cap2', .int .i64 D.left] 26)
  have x2 := Bx.fresh D.size (.slice a' D.secs.length cap') (.slice b' D.pend.length cap2') D.left (w.alloc (.cells #[.int .i64 D.size, .slice a D.secs.length cap, .slice b D.pend.length cap2, .int .i64 D.left] 26))
  rw [World.size_alloc] at x2
  have HC := Lib.hid hc
  have HC' := Lib.hid hc'
  have HC2 := Lib.hid hc2
  have HC2' := Lib.hid hc2'
  have X1 := Lib.hid x1
  have X2 := Lib.hid x2
  clear hc hc' hc2 hc2' x1 x2
  go_enter Try.func14, Try.ntmps14
  go_wp2
  go_loopw [5] (fun s5 wr => ∃ j : Nat, j ≤ D.secs.length ∧ s5 = .int .i64 j ∧ Hid (Bx w.heap.size D.size (.slice a D.secs.length cap) (.slice b D.pend.length cap2) D.left wr) ∧ Hid (Bx (w.heap.size + 1) D.size (.slice a' D.secs.length cap') (.slice b' D.pend.length cap2') D.left wr) ∧ Below w.heap.size w wr) (fun i _ => D.secs.length - (intOf i).toNat)
  case atStart => exact ⟨0, Nat.zero_le _, rfl, X1, X2, hB⟩
  case round =>
    obtain ⟨j, hj, rfl, y1, y2, hBr⟩ := hrel
    obtain ⟨q0, q1, q2, q3, g0, g1, g2, g3, qlt⟩ := y1.out
    obtain ⟨r0, r1, r2, r3, k0, k1, k2, k3, rlt⟩ := y2.out
    clear g0 g1 g2 g3 k0 k1 k2 k3
    by_cases hlt : j < D.secs.length
    · obtain ⟨b1, o1, rfl, hb1, hcell⟩ := HC.out.resolve_left (by intro e; rw [e] at hlt; simp at hlt)
      obtain ⟨b2, o2, rfl, hb2, hcell2⟩ := HC'.out.resolve_left (by intro e; rw [e] at hlt; simp at hlt)
      have p0 := (hBr.cell (p := ⟨b1, o1 + j, none⟩) hb1).trans (hcell j hlt)
      have p1 := (hBr.cell (p := ⟨b2, o2 + j, none⟩) hb2).trans (hcell2 j hlt)
      generalize D.secs[j] = x at p0 p1
      clear hcell hcell2
      go_wp2
      go_quiet (fail)
      go_wp2
      go_roundw
      case rel => exact ⟨j + 1, by omega, by go_num, Lib.hid ⟨y1.out.c0, y1.out.c1, y1.out.c2, y1.out.c3, y1.out.f0, y1.out.f1, y1.out.f2, y1.out.f3, y1.out.lt⟩, Lib.hid ⟨y2.out.c0, y2.out.c1, y2.out.c2, y2.out.c3, y2.out.f0, y2.out.f1, y2.out.f2, y2.out.f3, y2.out.lt⟩, ⟨hBr.os, hBr.tape, hBr.output, hBr.size, hBr.block⟩⟩
      case measure => simp [intOf]; omega
    · go_wp2
      go_loopw [6] (fun s6 wr => ∃ j : Nat, j ≤ D.pend.length ∧ s6 = .int .i64 j ∧ Hid (Bx w.heap.size D.size (.slice a D.secs.length cap) (.slice b D.pend.length cap2) D.left wr) ∧ Hid (Bx (w.heap.size + 1) D.size (.slice a' D.secs.length cap') (.slice b' D.pend.length cap2') D.left wr) ∧ Below w.heap.size w wr) (fun i _ => D.pend.length - (intOf i).toNat)
      case atStart => exact ⟨0, Nat.zero_le _, rfl, y1, y2, hBr⟩
      case round =>
        obtain ⟨j, hj, rfl, y1, y2, hBr⟩ := hrel
        obtain ⟨q0, q1, q2, q3, g0, g1, g2, g3, qlt⟩ := y1.out
        obtain ⟨r0, r1, r2, r3, k0, k1, k2, k3, rlt⟩ := y2.out
        clear g0 g1 g2 g3 k0 k1 k2 k3
        by_cases hlt : j < D.pend.length
        · obtain ⟨b1, o1, rfl, hb1, hcell⟩ := HC2.out.resolve_left (by intro e; rw [e] at hlt; simp at hlt)
          obtain ⟨b2, o2, rfl, hb2, hcell2⟩ := HC2'.out.resolve_left (by intro e; rw [e] at hlt; simp at hlt)
          have p0 := (hBr.cell (p := ⟨b1, o1 + j * 2, none⟩) hb1).trans (hcell j hlt).1
          have p1 := (hBr.cell (p := ⟨b1, o1 + j * 2 + 1, none⟩) hb1).trans (hcell j hlt).2
          have p2 := (hBr.cell (p := ⟨b2, o2 + j * 2, none⟩) hb2).trans (hcell2 j hlt).1
          have p3 := (hBr.cell (p := ⟨b2, o2 + j * 2 + 1, none⟩) hb2).trans (hcell2 j hlt).2
          generalize D.pend[j] = x at p0 p1 p2 p3
          clear hcell hcell2
          go_wp2
          go_quiet (fail)
          go_wp2
          go_roundw
          case rel => exact ⟨j + 1, by omega, by go_num, Lib.hid ⟨y1.out.c0, y1.out.c1, y1.out.c2, y1.out.c3, y1.out.f0, y1.out.f1, y1.out.f2, y1.out.f3, y1.out.lt⟩, Lib.hid ⟨y2.out.c0, y2.out.c1, y2.out.c2, y2.out.c3, y2.out.f0, y2.out.f1, y2.out.f2, y2.out.f3, y2.out.lt⟩, ⟨hBr.os, hBr.tape, hBr.output, hBr.size, hBr.block⟩⟩
          case measure => simp [intOf]; omega
        · go_wp2
          go_ret
          exact ⟨rfl, hBr⟩
end Go.Proofs.Ytgdfdelggihceaa
