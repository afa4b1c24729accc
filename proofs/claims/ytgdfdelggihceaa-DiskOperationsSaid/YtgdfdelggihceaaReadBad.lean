/- disk.Read of a disk that is not valid, and of a sector out of range. -/
import Derived.Test.YtgdfdelggihceaaRead
namespace Go.Proofs.Ytgdfdelggihceaa
open Go.RowKit

set_option maxHeartbeats 1000000 in
theorem read_bad (D : Dk) (hf : D.Fit) (c : Int) (hc : chk D = c) (h0 : c ≠ 0) (v : Value) (w : World) (hv : IsDisk w v D) (s : Int) :
    Calls Try.prog 16 #[v, .int .i64 s] w fun e w' => e = .returned (.tuple #[.string ⟨#[]⟩, .int .i64 1]) ∧ Below w.heap.size w w' := by
  have hv0 := Lib.hid hv
  obtain ⟨_, _, rfl, ⟨a, cap, rfl, _, _, _⟩, ⟨b, cap2, rfl, _, _, _⟩⟩ := hv
  have hB := ((((Below.refl w.heap.size w).alloc (Nat.le_refl _) (.cells #[.int .i64 D.size, .slice a D.secs.length cap, .slice b D.pend.length cap2, .int .i64 D.left] 26)).alloc (by simp) (.cells #[.int .i64 s] 3)).alloc (by simp; omega) (.cells #[.string ⟨#[]⟩] 9)).alloc (by simp; omega) (.cells #[.int .i64 0] 27)
  have x2 := (Boxed.new ((w.alloc (.cells #[.int .i64 D.size, .slice a D.secs.length cap, .slice b D.pend.length cap2, .int .i64 D.left] 26)).alloc (.cells #[.int .i64 s] 3)) 9 (.string ⟨#[]⟩)).alloc (.cells #[.int .i64 0] 27)
  have x3 := Boxed.new (((w.alloc (.cells #[.int .i64 D.size, .slice a D.secs.length cap, .slice b D.pend.length cap2, .int .i64 D.left] 26)).alloc (.cells #[.int .i64 s] 3)).alloc (.cells #[.string ⟨#[]⟩] 9)) 27 (.int .i64 0)
  simp only [World.size_alloc] at x2 x3
  have hne : (c != 0) = true := by simpa using h0
  have HC := Lib.hid hc
  clear hc h0
  go_enter Try.func16, Try.ntmps16
  go_wp2_with fail
  ((with_reducible refine (check_any D hf _ _ (hv0.out.below hB (Nat.le_refl _)) c HC.out).mono ?_); rintro e w1 ⟨rfl, hb1⟩)
  have B1 := hB.trans (hb1.mono hB.size)
  have y2 : Boxed w1 (w.heap.size + 1 + 1) 9 (.string ⟨#[]⟩) := (hb1.block _ x2.lt).trans x2
  have y3 : Boxed w1 (w.heap.size + 1 + 1 + 1) 27 (.int .i64 0) := (hb1.block _ x3.lt).trans x3
  have q2 := y2.cell
  have g2 := y2.frozen
  have q3 := y3.cell
  have g3 := y3.frozen
  clear x2 x3 y2 y3 hb1 hB
  go_wp2
  exact bodyPost_ret (v := .tuple #[.string ⟨#[]⟩, .int .i64 1]) (by simp [results, Try.results16, go_sem, q2, q3, World.cell?_setCell_other, World.cell?_setCell_same']) rfl ⟨rfl, (B1.setCell (p := ⟨w.heap.size + 1 + 1, 0, none⟩) (by simp; omega) _).setCell (p := ⟨w.heap.size + 1 + 1 + 1, 0, none⟩) (by simp; omega) _⟩

set_option maxHeartbeats 1000000 in
theorem read_out (D : Dk) (hf : D.Fit) (hok : D.Ok) (v : Value) (w : World) (hv : IsDisk w v D) (s : Int) (h : s < 0 ∨ (D.secs.length : Int) ≤ s) :
    Calls Try.prog 16 #[v, .int .i64 s] w fun e w' => e = .returned (.tuple #[.string ⟨#[]⟩, .int .i64 2]) ∧ Below w.heap.size w w' := by
  have hv0 := Lib.hid hv
  obtain ⟨_, _, rfl, ⟨a, cap, rfl, hn, _, _⟩, ⟨b, cap2, rfl, _, _, _⟩⟩ := hv
  unfold maxLen at hn
  have hB := ((((Below.refl w.heap.size w).alloc (Nat.le_refl _) (.cells #[.int .i64 D.size, .slice a D.secs.length cap, .slice b D.pend.length cap2, .int .i64 D.left] 26)).alloc (by simp) (.cells #[.int .i64 s] 3)).alloc (by simp; omega) (.cells #[.string ⟨#[]⟩] 9)).alloc (by simp; omega) (.cells #[.int .i64 0] 27)
  have x0 := (((Bx.fresh D.size (.slice a D.secs.length cap) (.slice b D.pend.length cap2) D.left w).alloc (.cells #[.int .i64 s] 3)).alloc (.cells #[.string ⟨#[]⟩] 9)).alloc (.cells #[.int .i64 0] 27)
  have x1 := ((Boxed.new (w.alloc (.cells #[.int .i64 D.size, .slice a D.secs.length cap, .slice b D.pend.length cap2, .int .i64 D.left] 26)) 3 (.int .i64 s)).alloc (.cells #[.string ⟨#[]⟩] 9)).alloc (.cells #[.int .i64 0] 27)
  have x2 := (Boxed.new ((w.alloc (.cells #[.int .i64 D.size, .slice a D.secs.length cap, .slice b D.pend.length cap2, .int .i64 D.left] 26)).alloc (.cells #[.int .i64 s] 3)) 9 (.string ⟨#[]⟩)).alloc (.cells #[.int .i64 0] 27)
  have x3 := Boxed.new (((w.alloc (.cells #[.int .i64 D.size, .slice a D.secs.length cap, .slice b D.pend.length cap2, .int .i64 D.left] 26)).alloc (.cells #[.int .i64 s] 3)).alloc (.cells #[.string ⟨#[]⟩] 9)) 27 (.int .i64 0)
  simp only [World.size_alloc] at x0 x1 x2 x3
  have h' : s < 0 ∨ (¬ s < 0 ∧ (D.secs.length : Int) ≤ s) := by omega
  clear h
  rcases h' with h | ⟨h, h2⟩
  all_goals
    go_enter Try.func16, Try.ntmps16
    go_wp2_with fail
    ((with_reducible refine (check_any D hf _ _ (hv0.out.below hB (Nat.le_refl _)) 0 ((chk_zero D).2 hok)).mono ?_); rintro e w1 ⟨rfl, hb1⟩)
    have B1 := hB.trans (hb1.mono hB.size)
    obtain ⟨z0, z1, z2, z3, f0, f1, f2, f3, zlt⟩ := x0.below hb1 x0.lt
    have y1 : Boxed w1 (w.heap.size + 1) 3 (.int .i64 s) := (hb1.block _ x1.lt).trans x1
    have y2 : Boxed w1 (w.heap.size + 1 + 1) 9 (.string ⟨#[]⟩) := (hb1.block _ x2.lt).trans x2
    have y3 : Boxed w1 (w.heap.size + 1 + 1 + 1) 27 (.int .i64 0) := (hb1.block _ x3.lt).trans x3
    have q1 := y1.cell
    have q2 := y2.cell
    have g2 := y2.frozen
    have q3 := y3.cell
    have g3 := y3.frozen
    clear x0 x1 x2 x3 y1 y2 y3 hb1 hB
    go_wp2
    exact bodyPost_ret (v := .tuple #[.string ⟨#[]⟩, .int .i64 2]) (by simp [results, Try.results16, go_sem, q2, q3, World.cell?_setCell_other, World.cell?_setCell_same']) rfl ⟨rfl, (B1.setCell (p := ⟨w.heap.size + 1 + 1, 0, none⟩) (by simp; omega) _).setCell (p := ⟨w.heap.size + 1 + 1 + 1, 0, none⟩) (by simp; omega) _⟩
end Go.Proofs.Ytgdfdelggihceaa
