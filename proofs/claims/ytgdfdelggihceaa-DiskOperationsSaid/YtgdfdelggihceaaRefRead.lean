/- The reference's Read. -/
import Derived.Test.YtgdfdelggihceaaRefOps
namespace Go.Proofs.Ytgdfdelggihceaa
open Go.RowKit

set_option maxHeartbeats 1000000 in
theorem refRead_bad (D : Dk) (hf : D.Fit) (c : Int) (hc : chk D = c) (h0 : c ≠ 0) (v : Value) (w : World) (hv : IsDisk w v D) (s : Int) :
    Calls Try.prog 17 #[v, .int .i64 s] w fun e w' => e = .returned (.tuple #[.string ⟨#[]⟩, .int .i64 1]) ∧ Below w.heap.size w w' := by
  have hv0 := Lib.hid hv
  obtain ⟨_, _, rfl, ⟨a, cap, rfl, _, _, _⟩, ⟨b, cap2, rfl, _, _, _⟩⟩ := hv
  have hB := (Below.refl w.heap.size w).alloc (Nat.le_refl _) (.cells #[.int .i64 D.size, .slice a D.secs.length cap, .slice b D.pend.length cap2, .int .i64 D.left] 26)
  have hne : (c != 0) = true := by simpa using h0
  have HC := Lib.hid hc
  clear hc h0
  go_enter Try.func17, Try.ntmps17
  go_wp2_with fail
  ((with_reducible refine (refCheck_any D hf _ _ (hv0.out.below hB (Nat.le_refl _)) c HC.out).mono ?_); rintro e w1 ⟨rfl, hb1⟩)
  go_wp2
  exact bodyPost_ret (v := .tuple #[.string ⟨#[]⟩, .int .i64 1]) (by simp [results, Try.results17, go_sem]) rfl ⟨rfl, hB.trans (hb1.mono hB.size)⟩

set_option maxHeartbeats 1000000 in
theorem refRead_out (D : Dk) (hf : D.Fit) (hok : D.Ok) (v : Value) (w : World) (hv : IsDisk w v D) (s : Int) (h : s < 0 ∨ (D.secs.length : Int) ≤ s) :
    Calls Try.prog 17 #[v, .int .i64 s] w fun e w' => e = .returned (.tuple #[.string ⟨#[]⟩, .int .i64 2]) ∧ Below w.heap.size w w' := by
  have hv0 := Lib.hid hv
  obtain ⟨_, _, rfl, ⟨a, cap, rfl, hn, _, _⟩, ⟨b, cap2, rfl, _, _, _⟩⟩ := hv
  unfold maxLen at hn
  have hB := (Below.refl w.heap.size w).alloc (Nat.le_refl _) (.cells #[.int .i64 D.size, .slice a D.secs.length cap, .slice b D.pend.length cap2, .int .i64 D.left] 26)
  have x0 := Bx.fresh D.size (.slice a D.secs.length cap) (.slice b D.pend.length cap2) D.left w
  have h' : s < 0 ∨ (¬ s < 0 ∧ (D.secs.length : Int) ≤ s) := by omega
  clear h
  rcases h' with h | ⟨h, h2⟩
  all_goals
    go_enter Try.func17, Try.ntmps17
    go_wp2_with fail
    ((with_reducible refine (refCheck_any D hf _ _ (hv0.out.below hB (Nat.le_refl _)) 0 ((chk_zero D).2 hok)).mono ?_); rintro e w1 ⟨rfl, hb1⟩)
    obtain ⟨q0, q1, q2, q3, g0, g1, g2, g3, qlt⟩ := x0.below hb1 x0.lt
    go_wp2
    exact bodyPost_ret (v := .tuple #[.string ⟨#[]⟩, .int .i64 2]) (by simp [results, Try.results17, go_sem]) rfl ⟨rfl, hB.trans (hb1.mono hB.size)⟩

set_option maxHeartbeats 2000000 in
theorem refRead_good (D : Dk) (hf : D.Fit) (hok : D.Ok) (hp : D.pend.length ≤ 100000) (v : Value) (w : World) (hv : IsDisk w v D) (i : Nat) (hi : i < D.secs.length) (x : ByteArray) (hx : curAt i D.secs[i] D.pend = x) :
    Calls Try.prog 17 #[v, .int .i64 i] w fun e w' => e = .returned (.tuple #[.string x, .int .i64 0]) ∧ Below w.heap.size w w' := by
  have hv0 := Lib.hid hv
  obtain ⟨_, _, rfl, ⟨a, cap, rfl, hn, _, _⟩, ⟨b, cap2, rfl, _, _, _⟩⟩ := hv
  unfold maxLen at hn
  have hB := (Below.refl w.heap.size w).alloc (Nat.le_refl _) (.cells #[.int .i64 D.size, .slice a D.secs.length cap, .slice b D.pend.length cap2, .int .i64 D.left] 26)
  have x0 := Bx.fresh D.size (.slice a D.secs.length cap) (.slice b D.pend.length cap2) D.left w
  have h2 : ¬ (D.secs.length : Int) ≤ (i : Int) := by omega
  have hi' : (i : Int) < D.secs.length := by omega
  obtain ⟨z, hz⟩ : ∃ z : Nat, (z : Int) = D.size := ⟨D.size.toNat, by have := hok.s1; omega⟩
  have hl : (settleL (fun _ => z) 0 D.pend D.secs).length = D.secs.length := settleL_length _ _ _ _
  have hx2 : (settleL (fun _ => z) 0 D.pend D.secs)[i]'(by rw [hl]; exact hi) = x := by rw [settled_at hok z hz i hi]; exact hx
  obtain ⟨L, hL⟩ : ∃ L, settleL (fun _ => z) 0 D.pend D.secs = L := ⟨_, rfl⟩
  have hl2 : i < L.length := by rw [← hL, hl]; exact hi
  have hx3 : L[i] = x := by subst hL; exact hx2
  have HL := Lib.hid hL
  have HX := Lib.hid hx3
  clear hx hx2 hx3 hl hL
  go_enter Try.func17, Try.ntmps17
  go_wp2_with fail
  ((with_reducible refine (refCheck_any D hf _ _ (hv0.out.below hB (Nat.le_refl _)) 0 ((chk_zero D).2 hok)).mono ?_); rintro e w1 ⟨rfl, hb1⟩)
  have B1 := hB.trans (hb1.mono hB.size)
  obtain ⟨q0, q1, q2, q3, g0, g1, g2, g3, qlt⟩ := x0.below hb1 x0.lt
  go_wp2_with fail
  ((with_reducible refine (refCurrent_ok D hok hp z hz _ _ (hv0.out.below B1 (Nat.le_refl _))).mono ?_); rintro e w2 ⟨v2, B, rfl, hBB, own, hb2⟩)
  rw [HL.out] at own
  have B2 := B1.trans (hb2.mono B1.size)
  obtain ⟨m, hmm⟩ : ∃ m, D.secs.length = m + 1 := ⟨D.secs.length - 1, by omega⟩
  rw [hmm] at own
  obtain ⟨g, capg, rfl⟩ := ownsRow_succ own
  rw [← hmm] at own ⊢
  have c0 := own_cellS own i hi hl2
  rw [HX.out] at c0
  clear own hmm hz q0 q1 q2 q3 g0 g1 g2 g3 qlt
  go_wp2
  exact bodyPost_ret (v := .tuple #[.string x, .int .i64 0]) (by simp [results, Try.results17, go_sem]) rfl ⟨rfl, B2⟩
end Go.Proofs.Ytgdfdelggihceaa
