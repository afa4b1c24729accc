/- disk.Sync and disk.Cut, at this translation. -/
import Derived.Test.YtgdfdelggihceaaSettle
import Derived.Test.YtgdfdelggihceaaPick
namespace Go.Proofs.Ytgdfdelggihceaa
open Go.RowKit

set_option maxHeartbeats 1000000 in
theorem sync_bad (D : Dk) (hf : D.Fit) (c : Int) (hc : chk D = c) (h0 : c ≠ 0) (v : Value) (w : World) (hv : IsDisk w v D) :
    Calls Try.prog 20 #[v] w fun e w' => ∃ v', e = .returned (.tuple #[v', .int .i64 1]) ∧ IsDisk w' v' Dk.zero ∧ Keeps w v D w' v' Dk.zero ∧ Below w.heap.size w w' := by
  have hv0 := Lib.hid hv
  obtain ⟨_, _, rfl, ⟨a, cap, rfl, hln, hcap, _⟩, ⟨b, cap2, rfl, hm, hcap2, _⟩⟩ := hv
  have hB := ((Below.refl w.heap.size w).alloc (Nat.le_refl _) (.cells #[.int .i64 D.size, .slice a D.secs.length cap, .slice b D.pend.length cap2, .int .i64 D.left] 26)).alloc (by simp) (.cells #[.int .i64 0, .slice none 0 0, .slice none 0 0, .int .i64 0] 26)
  have x1 := Bx.fresh 0 (.slice none 0 0) (.slice none 0 0) 0 (w.alloc (.cells #[.int .i64 D.size, .slice a D.secs.length cap, .slice b D.pend.length cap2, .int .i64 D.left] 26))
  rw [World.size_alloc] at x1
  have hne : (c != 0) = true := by simpa using h0
  have HC := Lib.hid hc
  clear hc h0
  go_enter Try.func20, Try.ntmps20
  go_wp2_with fail
  ((with_reducible refine (check_any D hf _ _ (hv0.out.below hB (Nat.le_refl _)) c HC.out).mono ?_); rintro e w1 ⟨rfl, hb1⟩)
  have B1 := hB.trans (hb1.mono hB.size)
  obtain ⟨q0, q1, q2, q3, g0, g1, g2, g3, qlt⟩ := x1.below hb1 x1.lt
  go_wp2
  exact bodyPost_ret (v := .tuple #[dv 0 (.slice none 0 0) (.slice none 0 0) 0, .int .i64 1]) (by simp [results, Try.results20, go_sem, q0, q1, q2, q3, World.cell?_setCell_other, World.cell?_setCell_same']) rfl ⟨_, rfl, isDisk_zero _, keeps_zero _ _ _ _, below_set4 B1 (by simp) _ _ _ _⟩

set_option maxHeartbeats 2000000 in
theorem sync_lost (D : Dk) (hf : D.Fit) (hok : D.Ok) (v : Value) (w : World) (hv : IsDisk w v D) (h0 : D.left = 0) :
    Calls Try.prog 20 #[v] w fun e w' => ∃ v', e = .returned (.tuple #[v', .int .i64 20]) ∧ IsDisk w' v' D ∧ Keeps w v D w' v' D ∧ Below w.heap.size w w' := by
  have hv0 := Lib.hid hv
  obtain ⟨_, _, rfl, ⟨a, cap, rfl, hln, hcap, _⟩, ⟨b, cap2, rfl, hm, hcap2, _⟩⟩ := hv
  have hB := ((Below.refl w.heap.size w).alloc (Nat.le_refl _) (.cells #[.int .i64 D.size, .slice a D.secs.length cap, .slice b D.pend.length cap2, .int .i64 D.left] 26)).alloc (by simp) (.cells #[.int .i64 0, .slice none 0 0, .slice none 0 0, .int .i64 0] 26)
  have x0 := (Bx.fresh D.size (.slice a D.secs.length cap) (.slice b D.pend.length cap2) D.left w).alloc (.cells #[.int .i64 0, .slice none 0 0, .slice none 0 0, .int .i64 0] 26)
  have x1 := Bx.fresh 0 (.slice none 0 0) (.slice none 0 0) 0 (w.alloc (.cells #[.int .i64 D.size, .slice a D.secs.length cap, .slice b D.pend.length cap2, .int .i64 D.left] 26))
  rw [World.size_alloc] at x1
  have H0 := Lib.hid h0
  clear h0
  go_enter Try.func20, Try.ntmps20
  go_wp2_with fail
  ((with_reducible refine (check_any D hf _ _ (hv0.out.below hB (Nat.le_refl _)) 0 ((chk_zero D).2 hok)).mono ?_); rintro e w1 ⟨rfl, hb1⟩)
  have B1 := hB.trans (hb1.mono hB.size)
  have y0 := Lib.hid (x0.below hb1 x0.lt)
  have y1 := Lib.hid (x1.below hb1 x1.lt)
  clear x0 x1 hb1 hB
  obtain ⟨q0, q1, q2, q3, g0, g1, g2, g3, qlt⟩ := y0.out
  rw [H0.out] at q3
  go_wp2_with fail
  ((with_reducible refine (power_zero D.size a b _ cap _ cap2 _).mono ?_); rintro e w3 ⟨rfl, hb3⟩)
  have B3 := B1.trans (hb3.mono B1.size)
  have u0 := y0.out.below hb3 y0.out.lt
  have u1 := y1.out.below hb3 y1.out.lt
  rw [H0.out] at u0
  clear q0 q1 q2 q3 g0 g1 g2 g3 qlt y0 y1
  obtain ⟨q0, q1, q2, q3, g0, g1, g2, g3, qlt⟩ := u0
  obtain ⟨r0, r1, r2, r3, k0, k1, k2, k3, rlt⟩ := u1
  have SB := below_set4 (below_set4 B3 (g := w.heap.size) (Nat.le_refl _) (.int .i64 D.size) (.slice a D.secs.length cap) (.slice b D.pend.length cap2) (.int .i64 0)) (g := w.heap.size + 1) (by simp) (.int .i64 D.size) (.slice a D.secs.length cap) (.slice b D.pend.length cap2) (.int .i64 0)
  go_wp2
  exact bodyPost_ret (v := .tuple #[dv D.size (.slice a D.secs.length cap) (.slice b D.pend.length cap2) 0, .int .i64 20]) (by simp [results, Try.results20, go_sem, r0, r1, r2, r3, World.cell?_setCell_other, World.cell?_setCell_same']) rfl ⟨_, rfl, by
    have := hv0.out.below SB (Nat.le_refl _)
    rw [H0.out] at this
    exact this, by
    intro lo hi hh h
    have t := h.below SB (Nat.le_refl _)
    rw [H0.out] at t
    exact t, SB⟩

set_option maxHeartbeats 4000000 in
theorem sync_ok (D : Dk) (hf : D.Fit) (hok : D.Ok) (v : Value) (w : World) (hv : IsDisk w v D) (h0 : D.left ≠ 0) (hhi : D.left ≤ 9223372036854775807) (lf : Int) (hlf : lessI D.left = lf) (z : Nat) (hz : (z : Int) = D.size) :
    Calls Try.prog 20 #[v] w fun e w' => ∃ v', e = .returned (.tuple #[v', .int .i64 0]) ∧ Firm w.heap.size w' v' ⟨D.size, settleL (fun _ => z) 0 D.pend D.secs, [], lf⟩ ∧ Below w.heap.size w w' := by
  have hv0 := Lib.hid hv
  obtain ⟨_, _, rfl, ⟨a, cap, rfl, hln, hcap, _⟩, ⟨b, cap2, rfl, hm, hcap2, _⟩⟩ := hv
  have hB := ((Below.refl w.heap.size w).alloc (Nat.le_refl _) (.cells #[.int .i64 D.size, .slice a D.secs.length cap, .slice b D.pend.length cap2, .int .i64 D.left] 26)).alloc (by simp) (.cells #[.int .i64 0, .slice none 0 0, .slice none 0 0, .int .i64 0] 26)
  have x0 := (Bx.fresh D.size (.slice a D.secs.length cap) (.slice b D.pend.length cap2) D.left w).alloc (.cells #[.int .i64 0, .slice none 0 0, .slice none 0 0, .int .i64 0] 26)
  have x1 := Bx.fresh 0 (.slice none 0 0) (.slice none 0 0) 0 (w.alloc (.cells #[.int .i64 D.size, .slice a D.secs.length cap, .slice b D.pend.length cap2, .int .i64 D.left] 26))
  rw [World.size_alloc] at x1
  have H0 := Lib.hid h0
  have HLF := Lib.hid hlf
  have HZ := Lib.hid hz
  clear h0 hlf hz
  go_enter Try.func20, Try.ntmps20
  go_wp2_with fail
  ((with_reducible refine (check_any D hf _ _ (hv0.out.below hB (Nat.le_refl _)) 0 ((chk_zero D).2 hok)).mono ?_); rintro e w1 ⟨rfl, hb1⟩)
  have B1 := hB.trans (hb1.mono hB.size)
  have y0 := Lib.hid (x0.below hb1 x0.lt)
  have y1 := Lib.hid (x1.below hb1 x1.lt)
  clear x0 x1 hb1 hB
  obtain ⟨q0, q1, q2, q3, g0, g1, g2, g3, qlt⟩ := y0.out
  go_wp2_with fail
  ((with_reducible refine (power_some D.size a b _ cap _ cap2 D.left lf H0.out hok.left hhi HLF.out _).mono ?_); rintro e w3 ⟨rfl, hb3⟩)
  have B3 := B1.trans (hb3.mono B1.size)
  have u0 := y0.out.below hb3 y0.out.lt
  have u1 := y1.out.below hb3 y1.out.lt
  clear q0 q1 q2 q3 g0 g1 g2 g3 qlt y0 y1 hb3
  have U0 := Lib.hid u0
  have U1 := Lib.hid u1
  obtain ⟨q0, q1, q2, q3, g0, g1, g2, g3, qlt⟩ := u0
  go_upto_region 5 with fail
  have V0 := U0.out.set4 D.size (.slice a D.secs.length cap) (.slice b D.pend.length cap2) lf
  have B4 := below_set4 B3 (g := w.heap.size) (Nat.le_refl _) (.int .i64 D.size) (.slice a D.secs.length cap) (.slice b D.pend.length cap2) (.int .i64 lf)
  have hM1 := heap_set4 w3 w.heap.size (.int .i64 D.size) (.slice a D.secs.length cap) (.slice b D.pend.length cap2) (.int .i64 lf) (w.heap.size + 1) (by omega)
  have hsz := size_set4 w3 w.heap.size (.int .i64 D.size) (.slice a D.secs.length cap) (.slice b D.pend.length cap2) (.int .i64 lf)
  clear q0 q1 q2 q3 g0 g1 g2 g3 qlt
  simp only [set4] at V0 B4 hM1 hsz
  generalize (((w3.setCell ⟨w.heap.size, 0, none⟩ (.int .i64 D.size)).setCell ⟨w.heap.size, 1, none⟩ (.slice a D.secs.length cap)).setCell ⟨w.heap.size, 2, none⟩ (.slice b D.pend.length cap2)).setCell ⟨w.heap.size, 3, none⟩ (.int .i64 lf) = w4 at V0 B4 hM1 hsz ⊢
  have U1' : Bx (w.heap.size + 1) 0 (.slice none 0 0) (.slice none 0 0) 0 w4 := by
    have c := fun o => World.cell?_of_block (a := ⟨w.heap.size + 1, o, none⟩) hM1
    have c' := fun o => World.frozen?_of_block (a := ⟨w.heap.size + 1, o, none⟩) hM1
    exact ⟨(c 0).trans U1.out.c0, (c 1).trans U1.out.c1, (c 2).trans U1.out.c2, (c 3).trans U1.out.c3, (c' 0).trans U1.out.f0, (c' 1).trans U1.out.f1, (c' 2).trans U1.out.f2, (c' 3).trans U1.out.f3, by rw [hsz]; exact U1.out.lt⟩
  have SV0 := Lib.hid V0
  have SU1 := Lib.hid U1'
  obtain ⟨q0, q1, q2, q3, g0, g1, g2, g3, qlt⟩ := V0
  have hD4 : IsDisk w4 (dv D.size (.slice a D.secs.length cap) (.slice b D.pend.length cap2) lf) ⟨D.size, D.secs, D.pend, lf⟩ := by
    obtain ⟨vs, vp, e, f1, f2⟩ := hv0.out.below B4 (Nat.le_refl _)
    cases e
    exact ⟨_, _, rfl, f1, f2⟩
  have hok4 : (⟨D.size, D.secs, D.pend, lf⟩ : Dk).Ok := ⟨hok.s1, hok.s2, hok.l1, hok.l2, hok.secs, hok.pend, by show -1 ≤ lf; rw [← HLF.out]; have := hok.left; unfold lessI; split <;> omega⟩
  clear hM1 hsz U0 U1 U1' B3
  go_wp2_with fail
  ((with_reducible refine (settle_sync ⟨D.size, D.secs, D.pend, lf⟩ hok4 (fun _ => z) (fun _ => by show (z : Int) ≤ D.size; rw [HZ.out]; exact Int.le_refl _) (some ⟨w.heap.size, 0, none⟩) _ _ hD4 (fun j W _ hb => by rw [HZ.out]; exact sync1_any j _ _ W ((hb.cell (p := ⟨w.heap.size, 0, none⟩) qlt).trans q0))).mono ?_); rintro e w5 ⟨v5, rfl, hf5, hb5⟩)
  obtain ⟨vs5, vp5, rfl, ⟨a5, cap5, rfl, _, _, _⟩, ⟨b5, cap6, rfl, _, _, _⟩⟩ := hf5.disk
  have F5 := Lib.hid hf5
  have k0 := SV0.out.below hb5 SV0.out.lt
  have k1 := SU1.out.below hb5 SU1.out.lt
  have lt4 := SU1.out.lt
  have B5 := B4.trans (hb5.mono B4.size)
  clear q0 q1 q2 q3 g0 g1 g2 g3 qlt hf5
  obtain ⟨q0, q1, q2, q3, g0, g1, g2, g3, qlt⟩ := k0
  obtain ⟨r0, r1, r2, r3, t0, t1, t2, t3, rlt⟩ := k1
  simp only at F5 ⊢
  generalize hL : settleL (fun _ => z) 0 D.pend D.secs = L at F5 ⊢
  have SB := below_set4 (below_set4 B5 (g := w.heap.size) (Nat.le_refl _) (.int .i64 D.size) (.slice a5 L.length cap5) (.slice b5 0 cap6) (.int .i64 lf)) (g := w.heap.size + 1) (by simp) (.int .i64 D.size) (.slice a5 L.length cap5) (.slice b5 0 cap6) (.int .i64 lf)
  have F6 := Lib.hid (F5.out.move (C := w.heap.size) (W6 := set4 (set4 w5 w.heap.size (.int .i64 D.size) (.slice a5 L.length cap5) (.slice b5 0 cap6) (.int .i64 lf)) (w.heap.size + 1) (.int .i64 D.size) (.slice a5 L.length cap5) (.slice b5 0 cap6) (.int .i64 lf)) (by rw [size_set4, size_set4]; exact Nat.le_refl _) (fun k h1 h2 => by rw [heap_set4 _ _ _ _ _ _ _ (by omega), heap_set4 _ _ _ _ _ _ _ (by omega)]) (by omega))
  have HLL := Lib.hid hL
  clear hL
  go_wp2
  exact bodyPost_ret (v := .tuple #[dv D.size (.slice a5 L.length cap5) (.slice b5 0 cap6) lf, .int .i64 0]) (by simp [results, Try.results20, go_sem, r0, r1, r2, r3, World.cell?_setCell_other, World.cell?_setCell_same']) rfl ⟨_, rfl, by rw [HLL.out]; exact F6.out, SB⟩
end Go.Proofs.Ytgdfdelggihceaa
