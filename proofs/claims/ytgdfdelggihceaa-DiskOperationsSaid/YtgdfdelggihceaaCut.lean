/- disk.Cut, at this translation. -/
import Derived.Test.YtgdfdelggihceaaSettle
import Derived.Test.YtgdfdelggihceaaPick
namespace Go.Proofs.Ytgdfdelggihceaa
open Go.RowKit

theorem Bx.setL {N : Nat} {sz : Int} {vs vp : Value} {lf : Int} {W : World} (h : Bx N sz vs vp lf W) (lf' : Int) : Bx N sz vs vp lf' (W.setCell ⟨N, 3, none⟩ (.int .i64 lf')) := by
  obtain ⟨z0, z1, z2, z3, g0, g1, g2, g3, lt⟩ := h
  refine ⟨?_, ?_, ?_, ?_, ?_, ?_, ?_, ?_, by simpa [World.setCell] using lt⟩ <;>
    simp [World.cell?_setCell_other, World.cell?_setCell_same', World.frozen?_setCell, z0, z1, z2, z3, g0, g1, g2, g3]

set_option maxHeartbeats 1000000 in
theorem cut_bad (D : Dk) (hf : D.Fit) (c : Int) (hc : chk D = c) (h0 : c ≠ 0) (v vP : Value) (P : List Int) (w : World) (hv : IsDisk w v D) (hP : IsInts w vP P) :
    Calls Try.prog 24 #[v, vP] w fun e w' => ∃ v', e = .returned v' ∧ Firm w.heap.size w' v' Dk.zero ∧ Below w.heap.size w w' := by
  have hv0 := Lib.hid hv
  obtain ⟨aP, capP, rfl, _, _, _⟩ := hP
  obtain ⟨_, _, rfl, ⟨a, cap, rfl, hln, hcap, _⟩, ⟨b, cap2, rfl, hm, hcap2, _⟩⟩ := hv
  have hB := (((Below.refl w.heap.size w).alloc (Nat.le_refl _) (.cells #[.int .i64 D.size, .slice a D.secs.length cap, .slice b D.pend.length cap2, .int .i64 D.left] 26)).alloc (by simp) (.cells #[.slice aP P.length capP] 39)).alloc (by simp; omega) (.cells #[.int .i64 0, .slice none 0 0, .slice none 0 0, .int .i64 0] 26)
  have x1 := Bx.fresh 0 (.slice none 0 0) (.slice none 0 0) 0 ((w.alloc (.cells #[.int .i64 D.size, .slice a D.secs.length cap, .slice b D.pend.length cap2, .int .i64 D.left] 26)).alloc (.cells #[.slice aP P.length capP] 39))
  rw [World.size_alloc, World.size_alloc] at x1
  have hne : (c != 0) = true := by simpa using h0
  have HC := Lib.hid hc
  clear hc h0
  go_enter Try.func24, Try.ntmps24
  go_wp2_with fail
  ((with_reducible refine (check_any D hf _ _ (hv0.out.below hB (Nat.le_refl _)) c HC.out).mono ?_); rintro e w1 ⟨rfl, hb1⟩)
  have B1 := hB.trans (hb1.mono hB.size)
  obtain ⟨q0, q1, q2, q3, g0, g1, g2, g3, qlt⟩ := x1.below hb1 x1.lt
  go_wp2
  exact bodyPost_ret (v := dv 0 (.slice none 0 0) (.slice none 0 0) 0) (by simp [results, Try.results24, go_sem, q0, q1, q2, q3, World.cell?_setCell_other, World.cell?_setCell_same']) rfl ⟨_, rfl, fun W' _ _ => isDisk_zero W', below_set4 B1 (by omega) _ _ _ _⟩

set_option maxHeartbeats 4000000 in
theorem cut_ok (D : Dk) (hf : D.Fit) (hok : D.Ok) (hp : D.pend.length ≤ 100000) (v vP : Value) (P : List Int) (w : World) (hv : IsDisk w v D) (hP : IsInts w vP P) :
    Calls Try.prog 24 #[v, vP] w fun e w' => ∃ v', e = .returned v' ∧ Firm w.heap.size w' v' ⟨D.size, settleL (pk P D.size) 0 D.pend D.secs, [], -1⟩ ∧ Below w.heap.size w w' := by
  have hv0 := Lib.hid hv
  have HP := Lib.hid hP
  obtain ⟨_, _, rfl, ⟨a, cap, rfl, hln, hcap, _⟩, ⟨b, cap2, rfl, hm, hcap2, _⟩⟩ := hv
  obtain ⟨aP, capP, rfl, hlP, hcapP, _⟩ := hP
  have hB := (((Below.refl w.heap.size w).alloc (Nat.le_refl _) (.cells #[.int .i64 D.size, .slice a D.secs.length cap, .slice b D.pend.length cap2, .int .i64 D.left] 26)).alloc (by simp) (.cells #[.slice aP P.length capP] 39)).alloc (by simp; omega) (.cells #[.int .i64 0, .slice none 0 0, .slice none 0 0, .int .i64 0] 26)
  have x0 := ((Bx.fresh D.size (.slice a D.secs.length cap) (.slice b D.pend.length cap2) D.left w).alloc (.cells #[.slice aP P.length capP] 39)).alloc (.cells #[.int .i64 0, .slice none 0 0, .slice none 0 0, .int .i64 0] 26)
  have x1 := Bx.fresh 0 (.slice none 0 0) (.slice none 0 0) 0 ((w.alloc (.cells #[.int .i64 D.size, .slice a D.secs.length cap, .slice b D.pend.length cap2, .int .i64 D.left] 26)).alloc (.cells #[.slice aP P.length capP] 39))
  have xP := (Boxed.new (w.alloc (.cells #[.int .i64 D.size, .slice a D.secs.length cap, .slice b D.pend.length cap2, .int .i64 D.left] 26)) 39 (.slice aP P.length capP)).alloc (.cells #[.int .i64 0, .slice none 0 0, .slice none 0 0, .int .i64 0] 26)
  rw [World.size_alloc, World.size_alloc] at x1
  rw [World.size_alloc] at xP
  go_enter Try.func24, Try.ntmps24
  go_wp2_with fail
  ((with_reducible refine (check_any D hf _ _ (hv0.out.below hB (Nat.le_refl _)) 0 ((chk_zero D).2 hok)).mono ?_); rintro e w1 ⟨rfl, hb1⟩)
  have B1 := hB.trans (hb1.mono hB.size)
  have y0 := Lib.hid (x0.below hb1 x0.lt)
  have y1 := Lib.hid (x1.below hb1 x1.lt)
  have yP : Hid (Boxed w1 (w.heap.size + 1) 39 (.slice aP P.length capP)) := Lib.hid ((hb1.block _ xP.lt).trans xP)
  have hD1 := hv0.out.below B1 (Nat.le_refl _)
  have hP1 := Lib.hid (HP.out.below B1 (Nat.le_refl _))
  clear x0 x1 xP hb1 hB
  obtain ⟨q0, q1, q2, q3, g0, g1, g2, g3, qlt⟩ := y0.out
  go_wp2_with fail
  ((with_reducible refine (settle_cut D hok (pk P D.size) (pk_le P D.size hok.s1) (some ⟨w.heap.size + 1, 0, none⟩) (some ⟨w.heap.size, 0, none⟩) _ _ hD1 (fun j W hj hb => cut1_any j _ _ P _ D.size hok.s1 hok.s2 (by omega) W ((hb.cell (p := ⟨w.heap.size + 1, 0, none⟩) yP.out.lt).trans yP.out.cell) (hP1.out.below hb (Nat.le_refl _)) ((hb.cell (p := ⟨w.heap.size, 0, none⟩) qlt).trans q0) _ rfl)).mono ?_); rintro e w5 ⟨v5, rfl, hf5, hb5⟩)
  obtain ⟨vs5, vp5, rfl, ⟨a5, cap5, rfl, _, _, _⟩, ⟨b5, cap6, rfl, _, _, _⟩⟩ := hf5.disk
  have F5 := Lib.hid hf5
  have k0 := y0.out.below hb5 y0.out.lt
  have k1 := y1.out.below hb5 y1.out.lt
  have lt4 := y1.out.lt
  have B5 := B1.trans (hb5.mono B1.size)
  clear q0 q1 q2 q3 g0 g1 g2 g3 qlt hf5
  simp only at F5 ⊢
  generalize hL : settleL (pk P D.size) 0 D.pend D.secs = L at F5 ⊢
  have K0 := Lib.hid k0
  have K1 := Lib.hid k1
  obtain ⟨q0, q1, q2, q3, g0, g1, g2, g3, qlt⟩ := k0
  have HLL := Lib.hid hL
  clear hL
  go_upto_region 5 with fail
  have V0 := (K0.out.set4 D.size (.slice a5 L.length cap5) (.slice b5 0 cap6) D.left).setL (-1)
  have B6 := (below_set4 B5 (g := w.heap.size) (Nat.le_refl _) (.int .i64 D.size) (.slice a5 L.length cap5) (.slice b5 0 cap6) (.int .i64 D.left)).setCell (p := ⟨w.heap.size, 3, none⟩) (Nat.le_refl _) (.int .i64 (-1))
  have V1 := ((((K1.out.other (M := w.heap.size) (by omega) 0 (.int .i64 D.size)).other (M := w.heap.size) (by omega) 1 (.slice a5 L.length cap5)).other (M := w.heap.size) (by omega) 2 (.slice b5 0 cap6)).other (M := w.heap.size) (by omega) 3 (.int .i64 D.left)).other (M := w.heap.size) (by omega) 3 (.int .i64 (-1))
  have hk : ∀ k, k ≠ w.heap.size → ((set4 w5 w.heap.size (.int .i64 D.size) (.slice a5 L.length cap5) (.slice b5 0 cap6) (.int .i64 D.left)).setCell ⟨w.heap.size, 3, none⟩ (.int .i64 (-1))).heap[k]? = w5.heap[k]? := fun k h => by
    rw [Below.heap_setCell _ _ _ _ h, heap_set4 _ _ _ _ _ _ _ h]
  have hsz : ((set4 w5 w.heap.size (.int .i64 D.size) (.slice a5 L.length cap5) (.slice b5 0 cap6) (.int .i64 D.left)).setCell ⟨w.heap.size, 3, none⟩ (.int .i64 (-1))).heap.size = w5.heap.size := by simp [World.setCell]
  clear q0 q1 q2 q3 g0 g1 g2 g3 qlt
  simp only [set4] at V0 B6 V1 hk hsz
  generalize ((((w5.setCell ⟨w.heap.size, 0, none⟩ (.int .i64 D.size)).setCell ⟨w.heap.size, 1, none⟩ (.slice a5 L.length cap5)).setCell ⟨w.heap.size, 2, none⟩ (.slice b5 0 cap6)).setCell ⟨w.heap.size, 3, none⟩ (.int .i64 D.left)).setCell ⟨w.heap.size, 3, none⟩ (.int .i64 (-1)) = w6 at V0 B6 V1 hk hsz ⊢
  have SB := below_set4 B6 (g := w.heap.size + 1 + 1) (by omega) (.int .i64 D.size) (.slice a5 L.length cap5) (.slice b5 0 cap6) (.int .i64 (-1))
  have F6 : Hid (Firm w.heap.size (set4 w6 (w.heap.size + 1 + 1) (.int .i64 D.size) (.slice a5 L.length cap5) (.slice b5 0 cap6) (.int .i64 (-1))) (dv D.size (.slice a5 L.length cap5) (.slice b5 0 cap6) (-1)) ⟨D.size, L, [], -1⟩) := Lib.hid (fun W' s1 s2 => by
    rw [size_set4] at s1 s2
    obtain ⟨vs, vp, e, f1, f2⟩ := F5.out W' (by omega) (fun k h1 h2 => by
      rw [s2 k (by omega) (by omega), heap_set4 _ _ _ _ _ _ _ (by omega), hk k (by omega)])
    cases e
    exact ⟨_, _, rfl, f1, f2⟩)
  clear hk hsz K0 K1
  obtain ⟨q0, q1, q2, q3, g0, g1, g2, g3, qlt⟩ := V0
  obtain ⟨r0, r1, r2, r3, t0, t1, t2, t3, rlt⟩ := V1
  go_wp2
  exact bodyPost_ret (v := dv D.size (.slice a5 L.length cap5) (.slice b5 0 cap6) (-1)) (by simp [results, Try.results24, go_sem, r0, r1, r2, r3, World.cell?_setCell_other, World.cell?_setCell_same']) rfl ⟨_, rfl, by rw [HLL.out]; exact F6.out, SB⟩
end Go.Proofs.Ytgdfdelggihceaa
