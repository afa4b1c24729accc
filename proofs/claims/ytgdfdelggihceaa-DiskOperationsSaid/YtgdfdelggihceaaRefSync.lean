/- The reference's Sync where nothing is made durable. -/
import Derived.Test.YtgdfdelggihceaaRefRead
namespace Go.Proofs.Ytgdfdelggihceaa
open Go.RowKit

set_option maxHeartbeats 1000000 in
theorem refSync_bad (D : Dk) (hf : D.Fit) (c : Int) (hc : chk D = c) (h0 : c ≠ 0) (v : Value) (w : World) (hv : IsDisk w v D) :
    Calls Try.prog 21 #[v] w fun e w' => ∃ v', e = .returned (.tuple #[v', .int .i64 1]) ∧ IsDisk w' v' Dk.zero ∧ Keeps w v D w' v' Dk.zero ∧ Below w.heap.size w w' := by
  have hv0 := Lib.hid hv
  obtain ⟨_, _, rfl, ⟨a, cap, rfl, hln, hcap, _⟩, ⟨b, cap2, rfl, hm, hcap2, _⟩⟩ := hv
  have hB := ((Below.refl w.heap.size w).alloc (Nat.le_refl _) (.cells #[.int .i64 D.size, .slice a D.secs.length cap, .slice b D.pend.length cap2, .int .i64 D.left] 26)).alloc (by simp) (.cells #[.int .i64 0, .slice none 0 0, .slice none 0 0, .int .i64 0] 26)
  have x1 := Bx.fresh 0 (.slice none 0 0) (.slice none 0 0) 0 (w.alloc (.cells #[.int .i64 D.size, .slice a D.secs.length cap, .slice b D.pend.length cap2, .int .i64 D.left] 26))
  rw [World.size_alloc] at x1
  have hne : (c != 0) = true := by simpa using h0
  have HC := Lib.hid hc
  clear hc h0
  go_enter Try.func21, Try.ntmps21
  go_wp2_with fail
  ((with_reducible refine (refCheck_any D hf _ _ (hv0.out.below hB (Nat.le_refl _)) c HC.out).mono ?_); rintro e w1 ⟨rfl, hb1⟩)
  have B1 := hB.trans (hb1.mono hB.size)
  obtain ⟨q0, q1, q2, q3, g0, g1, g2, g3, qlt⟩ := x1.below hb1 x1.lt
  go_wp2
  exact bodyPost_ret (v := .tuple #[dv 0 (.slice none 0 0) (.slice none 0 0) 0, .int .i64 1]) (by simp [results, Try.results21, go_sem, q0, q1, q2, q3, World.cell?_setCell_other, World.cell?_setCell_same']) rfl ⟨_, rfl, isDisk_zero _, keeps_zero _ _ _ _, below_set4 B1 (by simp) _ _ _ _⟩

set_option maxHeartbeats 2000000 in
theorem refSync_lost (D : Dk) (hf : D.Fit) (hok : D.Ok) (v : Value) (w : World) (hv : IsDisk w v D) (h0 : D.left = 0) :
    Calls Try.prog 21 #[v] w fun e w' => ∃ v', e = .returned (.tuple #[v', .int .i64 20]) ∧ IsDisk w' v' D ∧ Below w.heap.size w w' := by
  have hv0 := Lib.hid hv
  obtain ⟨_, _, rfl, ⟨a, cap, rfl, hln, hcap, _⟩, ⟨b, cap2, rfl, hm, hcap2, _⟩⟩ := hv
  have hB := ((Below.refl w.heap.size w).alloc (Nat.le_refl _) (.cells #[.int .i64 D.size, .slice a D.secs.length cap, .slice b D.pend.length cap2, .int .i64 D.left] 26)).alloc (by simp) (.cells #[.int .i64 0, .slice none 0 0, .slice none 0 0, .int .i64 0] 26)
  have x0 := (Bx.fresh D.size (.slice a D.secs.length cap) (.slice b D.pend.length cap2) D.left w).alloc (.cells #[.int .i64 0, .slice none 0 0, .slice none 0 0, .int .i64 0] 26)
  have x1 := Bx.fresh 0 (.slice none 0 0) (.slice none 0 0) 0 (w.alloc (.cells #[.int .i64 D.size, .slice a D.secs.length cap, .slice b D.pend.length cap2, .int .i64 D.left] 26))
  rw [World.size_alloc] at x1
  have H0 := Lib.hid h0
  clear h0
  go_enter Try.func21, Try.ntmps21
  go_wp2_with fail
  ((with_reducible refine (refCheck_any D hf _ _ (hv0.out.below hB (Nat.le_refl _)) 0 ((chk_zero D).2 hok)).mono ?_); rintro e w1 ⟨rfl, hb1⟩)
  have B1 := hB.trans (hb1.mono hB.size)
  have y0 := x0.below hb1 x0.lt
  have y1 := x1.below hb1 x1.lt
  rw [H0.out] at y0
  clear x0 x1 hb1 hB
  obtain ⟨q0, q1, q2, q3, g0, g1, g2, g3, qlt⟩ := y0
  obtain ⟨r0, r1, r2, r3, k0, k1, k2, k3, rlt⟩ := y1
  have SB := below_set4 B1 (g := w.heap.size + 1) (by simp) (.int .i64 D.size) (.slice a D.secs.length cap) (.slice b D.pend.length cap2) (.int .i64 0)
  go_wp2
  exact bodyPost_ret (v := .tuple #[dv D.size (.slice a D.secs.length cap) (.slice b D.pend.length cap2) 0, .int .i64 20]) (by simp [results, Try.results21, go_sem, r0, r1, r2, r3, World.cell?_setCell_other, World.cell?_setCell_same']) rfl ⟨_, rfl, by
    have := hv0.out.below SB (Nat.le_refl _)
    rw [H0.out] at this
    exact this, SB⟩

theorem four_cells {N : Nat} {sz : Int} {vs vp : Value} {lf : Int} {W : World} (K : Bx N sz vs vp lf W) : W.cell? ⟨N, 0, none⟩ = some (.int .i64 sz) ∧ W.cell? ⟨N, 1, none⟩ = some vs ∧ W.cell? ⟨N, 2, none⟩ = some vp ∧ W.cell? ⟨N, 3, none⟩ = some (.int .i64 lf) := ⟨K.c0, K.c1, K.c2, K.c3⟩
set_option maxHeartbeats 4000000 in
theorem refSync_ok (D : Dk) (hf : D.Fit) (hok : D.Ok) (hp : D.pend.length ≤ 100000) (v : Value) (w : World) (hv : IsDisk w v D) (h0 : D.left ≠ 0) (hhi : D.left ≤ 9223372036854775807) (lf : Int) (hlf : lessI D.left = lf) (z : Nat) (hz : (z : Int) = D.size) :
    Calls Try.prog 21 #[v] w fun e w' => ∃ v', e = .returned (.tuple #[v', .int .i64 0]) ∧ IsDisk w' v' ⟨D.size, settleL (fun _ => z) 0 D.pend D.secs, [], lf⟩ ∧ Below w.heap.size w w' := by
  have hv0 := Lib.hid hv
  obtain ⟨_, _, rfl, ⟨a, cap, rfl, hln, hcap, _⟩, ⟨b, cap2, rfl, hm, hcap2, _⟩⟩ := hv
  have hB := ((Below.refl w.heap.size w).alloc (Nat.le_refl _) (.cells #[.int .i64 D.size, .slice a D.secs.length cap, .slice b D.pend.length cap2, .int .i64 D.left] 26)).alloc (by simp) (.cells #[.int .i64 0, .slice none 0 0, .slice none 0 0, .int .i64 0] 26)
  have x0 := (Bx.fresh D.size (.slice a D.secs.length cap) (.slice b D.pend.length cap2) D.left w).alloc (.cells #[.int .i64 0, .slice none 0 0, .slice none 0 0, .int .i64 0] 26)
  have x1 := Bx.fresh 0 (.slice none 0 0) (.slice none 0 0) 0 (w.alloc (.cells #[.int .i64 D.size, .slice a D.secs.length cap, .slice b D.pend.length cap2, .int .i64 D.left] 26))
  rw [World.size_alloc] at x1
  have hl0 : (D.left == 0) = false := by simpa using h0
  have hlo : -1 ≤ D.left := hok.left
  have l1 := hok.l1
  have l2 := hok.l2
  have hl : (settleL (fun _ => z) 0 D.pend D.secs).length = D.secs.length := settleL_length _ _ _ _
  obtain ⟨L, hL⟩ : ∃ L, settleL (fun _ => z) 0 D.pend D.secs = L := ⟨_, rfl⟩
  rw [hL] at hl ⊢
  have HL := Lib.hid hL
  have HLL := Lib.hid hl
  have HLF := Lib.hid hlf
  have HZ := Lib.hid hz
  clear h0 hL hl hlf hz
  go_enter Try.func21, Try.ntmps21
  go_wp2_with fail
  ((with_reducible refine (refCheck_any D hf _ _ (hv0.out.below hB (Nat.le_refl _)) 0 ((chk_zero D).2 hok)).mono ?_); rintro e w1 ⟨rfl, hb1⟩)
  have B1 := hB.trans (hb1.mono hB.size)
  have Y0 := Lib.hid (x0.below hb1 x0.lt)
  have Y1 := Lib.hid (x1.below hb1 x1.lt)
  clear x0 x1 hb1 hB
  obtain ⟨q0, q1, q2, q3, g0, g1, g2, g3, qlt⟩ := Y0.out
  go_upto_region 5 with fail
  have start := Y0.out.drew
  have startR := Lib.hid Y1.out.drew
  have Bd := B1.drew
  have hD0 := Lib.hid (hv0.out.below Bd (Nat.le_refl _))
  have s4 : w1.drew.cell? ⟨w.heap.size, 0, none⟩ = some (.int .i64 D.size) ∧ w1.drew.cell? ⟨w.heap.size, 1, none⟩ = some (.slice a D.secs.length cap) ∧ w1.drew.cell? ⟨w.heap.size, 2, none⟩ = some (.slice b D.pend.length cap2) ∧ w1.drew.cell? ⟨w.heap.size, 3, none⟩ = some (.int .i64 D.left) := ⟨start.c0, start.c1, start.c2, start.c3⟩
  clear q0 q1 q2 q3 g0 g1 g2 g3 qlt
  obtain ⟨m, hmm⟩ : ∃ m, D.secs.length = m + 1 := ⟨D.secs.length - 1, by omega⟩
  have HMM := Lib.hid hmm
  clear hmm
  go_region_held3 (fun V => V.cell? ⟨w.heap.size, 0, none⟩ = some (.int .i64 D.size) ∧ V.cell? ⟨w.heap.size, 1, none⟩ = some (.slice a D.secs.length cap) ∧ V.cell? ⟨w.heap.size, 2, none⟩ = some (.slice b D.pend.length cap2) ∧ V.cell? ⟨w.heap.size, 3, none⟩ = some (.int .i64 D.left)) (first | with_reducible exact s4 | with_reducible exact ⟨hh.c0, hh.c1, hh.c2, hh.c3⟩ | exact four_cells ((((hh.other (Nat.ne_of_lt (Nat.lt_succ_self _)) 0 _).other (Nat.ne_of_lt (Nat.lt_succ_self _)) 1 _).other (Nat.ne_of_lt (Nat.lt_succ_self _)) 2 _).other (Nat.ne_of_lt (Nat.lt_succ_self _)) 3 _))
    (first | (go_at_call 32; (with_reducible refine (refCurrent_ok D hok hp z HZ.out _ _ hD0.out).mono ?_); rintro e w7 ⟨v7, B, rfl, hBB, own, hb7⟩; rw [HL.out, HMM.out] at own; obtain ⟨g, capg, rfl⟩ := ownsRow_succ own; have OW := Lib.hid own; have HBB := Lib.hid hBB; clear own hBB; have hh := start.below hb7 start.lt; have UR := Lib.hid (startR.out.below hb7 startR.out.lt); have B7 := Lib.hid (Bd.trans (hb7.mono Bd.size)); clear hb7; obtain ⟨r0, r1, r2, r3, k0, k1, k2, k3, rlt⟩ := UR.out) | (go_at_call 36; (with_reducible refine (refLess_any D.left (by omega) hhi lf HLF.out _).mono ?_); rintro e w8 ⟨rfl, rfl⟩))
  have SB := below_set4 B7.out (g := w.heap.size + 1) (by omega) (.int .i64 D.size) (.slice (some ⟨g, 0, none⟩) (m + 1) capg) (.slice none 0 0) (.int .i64 lf)
  have bb : w.heap.size + 1 < B := by have := HBB.out; have := Y1.out.lt; simp at *; omega
  have NB := Lib.hid (own_setS (own_setS (own_setS (own_setS OW.out (N := w.heap.size + 1) bb 0 (.int .i64 D.size)) (N := w.heap.size + 1) bb 1 (.slice (some ⟨g, 0, none⟩) (m + 1) capg)) (N := w.heap.size + 1) bb 2 (.slice none 0 0)) (N := w.heap.size + 1) bb 3 (.int .i64 lf))
  go_wp2
  exact bodyPost_ret (v := .tuple #[dv D.size (.slice (some ⟨g, 0, none⟩) (m + 1) capg) (.slice none 0 0) lf, .int .i64 0]) (by simp [results, Try.results21, go_sem, r0, r1, r2, r3, World.cell?_setCell_other, World.cell?_setCell_same']) rfl ⟨_, rfl, ⟨_, _, rfl, own_strs NB.out (by rw [HLL.out, HMM.out]) (by unfold maxLen; have := HMM.out; omega), isWs_nil _⟩, SB⟩
end Go.Proofs.Ytgdfdelggihceaa
