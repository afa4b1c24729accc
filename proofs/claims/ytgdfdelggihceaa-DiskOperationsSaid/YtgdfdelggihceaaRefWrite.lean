/- The reference's Write where nothing is written. -/
import Derived.Test.YtgdfdelggihceaaRefSync
namespace Go.Proofs.Ytgdfdelggihceaa
open Go.RowKit

set_option maxHeartbeats 1000000 in
theorem refWrite_bad (D : Dk) (hf : D.Fit) (c : Int) (hc : chk D = c) (h0 : c ≠ 0) (v : Value) (w : World) (hv : IsDisk w v D) (s : Int) (x : ByteArray) :
    Calls Try.prog 19 #[v, .int .i64 s, .string x] w fun e w' => ∃ v', e = .returned (.tuple #[v', .int .i64 1]) ∧ IsDisk w' v' Dk.zero ∧ Below w.heap.size w w' := by
  have hv0 := Lib.hid hv
  obtain ⟨_, _, rfl, ⟨a, cap, rfl, hln, hcap, _⟩, ⟨b, cap2, rfl, hm, hcap2, _⟩⟩ := hv
  have hB := ((Below.refl w.heap.size w).alloc (Nat.le_refl _) (.cells #[.int .i64 D.size, .slice a D.secs.length cap, .slice b D.pend.length cap2, .int .i64 D.left] 26)).alloc (by simp) (.cells #[.int .i64 0, .slice none 0 0, .slice none 0 0, .int .i64 0] 26)
  have x1 := Bx.fresh 0 (.slice none 0 0) (.slice none 0 0) 0 (w.alloc (.cells #[.int .i64 D.size, .slice a D.secs.length cap, .slice b D.pend.length cap2, .int .i64 D.left] 26))
  rw [World.size_alloc] at x1
  have hne : (c != 0) = true := by simpa using h0
  have HC := Lib.hid hc
  clear hc h0
  go_enter Try.func19, Try.ntmps19
  go_wp2_with fail
  ((with_reducible refine (refCheck_any D hf _ _ (hv0.out.below hB (Nat.le_refl _)) c HC.out).mono ?_); rintro e w1 ⟨rfl, hb1⟩)
  have B1 := hB.trans (hb1.mono hB.size)
  obtain ⟨q0, q1, q2, q3, g0, g1, g2, g3, qlt⟩ := x1.below hb1 x1.lt
  go_wp2
  exact bodyPost_ret (v := .tuple #[dv 0 (.slice none 0 0) (.slice none 0 0) 0, .int .i64 1]) (by simp [results, Try.results19, go_sem, q0, q1, q2, q3, World.cell?_setCell_other, World.cell?_setCell_same']) rfl ⟨_, rfl, isDisk_zero _, below_set4 B1 (by simp) _ _ _ _⟩

set_option maxHeartbeats 2000000 in
theorem refWrite_cw (D : Dk) (hf : D.Fit) (hok : D.Ok) (v : Value) (w : World) (hv : IsDisk w v D) (s : Int) (x : ByteArray) (_hx : x.size ≤ maxLen) (c : Int) (hc : cw D s x = c) (h0 : c ≠ 0) :
    Calls Try.prog 19 #[v, .int .i64 s, .string x] w fun e w' => ∃ v', e = .returned (.tuple #[v', .int .i64 c]) ∧ IsDisk w' v' Dk.zero ∧ Below w.heap.size w w' := by
  have hv0 := Lib.hid hv
  obtain ⟨_, _, rfl, ⟨a, cap, rfl, hln, hcap, _⟩, ⟨b, cap2, rfl, hm, hcap2, _⟩⟩ := hv
  unfold maxLen at _hx hln
  have hB := ((Below.refl w.heap.size w).alloc (Nat.le_refl _) (.cells #[.int .i64 D.size, .slice a D.secs.length cap, .slice b D.pend.length cap2, .int .i64 D.left] 26)).alloc (by simp) (.cells #[.int .i64 0, .slice none 0 0, .slice none 0 0, .int .i64 0] 26)
  have x0 := (Bx.fresh D.size (.slice a D.secs.length cap) (.slice b D.pend.length cap2) D.left w).alloc (.cells #[.int .i64 0, .slice none 0 0, .slice none 0 0, .int .i64 0] 26)
  have x1 := Bx.fresh 0 (.slice none 0 0) (.slice none 0 0) 0 (w.alloc (.cells #[.int .i64 D.size, .slice a D.secs.length cap, .slice b D.pend.length cap2, .int .i64 D.left] 26))
  rw [World.size_alloc] at x1
  unfold cw at hc
  have h3 : s < 0 ∨ (¬ s < 0 ∧ (D.secs.length : Int) ≤ s) ∨ (¬ s < 0 ∧ ¬ (D.secs.length : Int) ≤ s) := by omega
  rcases h3 with u | ⟨u, u2⟩ | ⟨u, u2⟩
  · rw [if_pos (Or.inl u)] at hc
    subst hc
    clear h0
    go_enter Try.func19, Try.ntmps19
    go_wp2_with fail
    ((with_reducible refine (refCheck_any D hf _ _ (hv0.out.below hB (Nat.le_refl _)) 0 ((chk_zero D).2 hok)).mono ?_); rintro e w1 ⟨rfl, hb1⟩)
    have B1 := hB.trans (hb1.mono hB.size)
    obtain ⟨q0, q1, q2, q3, g0, g1, g2, g3, qlt⟩ := x1.below hb1 x1.lt
    go_wp2
    exact bodyPost_ret (v := .tuple #[dv 0 (.slice none 0 0) (.slice none 0 0) 0, .int .i64 2]) (by simp [results, Try.results19, go_sem, q0, q1, q2, q3, World.cell?_setCell_other, World.cell?_setCell_same']) rfl ⟨_, rfl, isDisk_zero _, below_set4 B1 (by simp) _ _ _ _⟩
  · rw [if_pos (Or.inr u2)] at hc
    subst hc
    clear h0
    go_enter Try.func19, Try.ntmps19
    go_wp2_with fail
    ((with_reducible refine (refCheck_any D hf _ _ (hv0.out.below hB (Nat.le_refl _)) 0 ((chk_zero D).2 hok)).mono ?_); rintro e w1 ⟨rfl, hb1⟩)
    have B1 := hB.trans (hb1.mono hB.size)
    obtain ⟨q0, q1, q2, q3, g0, g1, g2, g3, qlt⟩ := x1.below hb1 x1.lt
    obtain ⟨r0, r1, r2, r3, k0, k1, k2, k3, rlt⟩ := x0.below hb1 x0.lt
    go_wp2
    exact bodyPost_ret (v := .tuple #[dv 0 (.slice none 0 0) (.slice none 0 0) 0, .int .i64 2]) (by simp [results, Try.results19, go_sem, q0, q1, q2, q3, World.cell?_setCell_other, World.cell?_setCell_same']) rfl ⟨_, rfl, isDisk_zero _, below_set4 B1 (by simp) _ _ _ _⟩
  · rw [if_neg (by omega)] at hc
    by_cases h4 : (x.size : Int) = D.size
    · rw [if_pos h4] at hc; exact absurd hc.symm h0
    · rw [if_neg h4] at hc
      have t3 : (((x.size : Nat) : Int) != D.size) = true := by simp [h4]
      subst hc
      clear h0 h4
      go_enter Try.func19, Try.ntmps19
      go_wp2_with fail
      ((with_reducible refine (refCheck_any D hf _ _ (hv0.out.below hB (Nat.le_refl _)) 0 ((chk_zero D).2 hok)).mono ?_); rintro e w1 ⟨rfl, hb1⟩)
      have B1 := hB.trans (hb1.mono hB.size)
      obtain ⟨q0, q1, q2, q3, g0, g1, g2, g3, qlt⟩ := x1.below hb1 x1.lt
      obtain ⟨r0, r1, r2, r3, k0, k1, k2, k3, rlt⟩ := x0.below hb1 x0.lt
      go_wp2
      exact bodyPost_ret (v := .tuple #[dv 0 (.slice none 0 0) (.slice none 0 0) 0, .int .i64 11]) (by simp [results, Try.results19, go_sem, q0, q1, q2, q3, World.cell?_setCell_other, World.cell?_setCell_same']) rfl ⟨_, rfl, isDisk_zero _, below_set4 B1 (by simp) _ _ _ _⟩
end Go.Proofs.Ytgdfdelggihceaa
