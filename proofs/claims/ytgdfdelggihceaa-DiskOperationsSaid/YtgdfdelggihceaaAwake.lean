/- The chapter's examples, at this translation. -/
import Derived.Test.YtgdfdelggihceaaNew
import Derived.Test.YtgdfdelggihceaaCut
import Derived.Test.YtgdfdelggihceaaRead
import Derived.Test.YtgdfdelggihceaaSync
namespace Go.Proofs.Ytgdfdelggihceaa
open Go.RowKit

def abc : ByteArray := ⟨#[97, 98, 99]⟩
def exN : Dk := ⟨3, [zeros 3, zeros 3], [], -1⟩
def exW : Dk := ⟨3, [zeros 3, zeros 3], [(1, abc)], -1⟩
def exA : Dk := ⟨3, [zeros 3, ⟨#[97, 98, 0]⟩], [], -1⟩
def exB : Dk := ⟨3, [zeros 3, abc], [], -1⟩
theorem exN_ok : exN.Ok := (chk_zero _).1 (by decide)
theorem exW_ok : exW.Ok := (chk_zero _).1 (by decide)
theorem exA_ok : exA.Ok := (chk_zero _).1 (by decide)
theorem exB_ok : exB.Ok := (chk_zero _).1 (by decide)
theorem Dk.Ok.fit {D : Dk} (h : D.Ok) : D.Fit := ⟨fun x hx => by have := h.secs x hx; have := h.s2; unfold maxLen; omega, fun p hp => by have := (h.pend p hp).2.2; have := h.s2; unfold maxLen; omega⟩
theorem ex_cutA : (⟨exW.size, settleL (pk [2] exW.size) 0 exW.pend exW.secs, [], -1⟩ : Dk) = exA := by rfl
theorem ex_cutB : (⟨exW.size, settleL (pk [-3] exW.size) 0 exW.pend exW.secs, [], -1⟩ : Dk) = exB := by rfl

theorem isInts_built (w w' : World) (x : Int) (hB : Below (w.heap.size + 1) (w.alloc (.cells #[.int .i64 x] 3)) w') : IsInts w' (.slice (some ⟨w.heap.size, 0, none⟩) 1 1) [x] := by
  refine ⟨_, 1, rfl, by show 1 ≤ maxLen; decide, Nat.le_refl _, .inr ⟨w.heap.size, 0, rfl, by have := hB.size; simp at this; omega, fun j hj => ?_⟩⟩
  obtain rfl : j = 0 := by simp at hj; omega
  rw [hB.cell (p := ⟨w.heap.size, 0 + 0, none⟩) (by simp)]
  simp [World.cell?_alloc_new]

set_option maxRecDepth 100000 in
set_option maxHeartbeats 4000000 in
theorem awake_any (w : World) : Calls Try.prog 11 #[] w fun e w' => e = .returned (.bool true) ∧ Below w.heap.size w w' := by
  go_enter Try.func11, Try.ntmps11
  go_wp2_with fail
  refine (new_ok 2 3 (by omega) (by omega) (by omega) (by omega) _).mono ?_
  rintro e w1 ⟨v1, rfl, hf1, hb1⟩
  have d1 : IsDisk w1 v1 exN := hf1.disk
  have F1 := free_old d1 (w1.heap.size + 1)
  obtain ⟨vs1, vp1, rfl, ⟨a1, cap1, rfl, _, _, _⟩, ⟨b1, cap1', rfl, _, _, _⟩⟩ := d1
  have Ba := (Below.refl w1.heap.size w1).alloc (Nat.le_refl _) (.cells #[.int .i64 exN.size, .slice a1 exN.secs.length cap1, .slice b1 exN.pend.length cap1', .int .i64 exN.left] 26)
  have F2 := F1.below Ba (Nat.le_refl _)
  have B2 := hb1.alloc hb1.size (.cells #[.int .i64 exN.size, .slice a1 exN.secs.length cap1, .slice b1 exN.pend.length cap1', .int .i64 exN.left] 26)
  have k2 := Bx.fresh exN.size (.slice a1 exN.secs.length cap1) (.slice b1 exN.pend.length cap1') exN.left w1
  have sz1 := hb1.size
  have sz2 : w1.heap.size + 1 ≤ (w1.alloc (.cells #[.int .i64 exN.size, .slice a1 exN.secs.length cap1, .slice b1 exN.pend.length cap1', .int .i64 exN.left] 26)).heap.size := by simp
  have K2 := Lib.hid k2
  clear hf1 F1 hb1 Ba
  obtain ⟨q0, q1, q2, q3, g0, g1, g2, g3, qlt⟩ := k2
  go_wp2_with fail
  refine (write_ok exN exN_ok.fit exN_ok _ _ F2.disk 1 abc (by decide) (by decide) (by decide) (by decide) (by decide) (-1) (by decide)).mono ?_
  rintro e w2 ⟨v2, rfl, _, keep, hb2⟩
  have F3 : FreeD w1.heap.size (w1.heap.size + 1) w2 v2 exW := keep _ _ sz2 F2
  have B3 := B2.trans (hb2.mono B2.size)
  have k3 := K2.out.below hb2 K2.out.lt
  clear q0 q1 q2 q3 g0 g1 g2 g3 qlt keep hb2 F2 sz2
  obtain ⟨vs2, vp2, rfl, ⟨a2, cap2, rfl, _, _, _⟩, ⟨b2, cap2', rfl, _, _, _⟩⟩ := F3.disk
  have K3 := Lib.hid k3
  obtain ⟨q0, q1, q2, q3, g0, g1, g2, g3, qlt⟩ := k3
  go_upto_region 3 with fail
  have V0 := K3.out.set4 exW.size (.slice a2 exW.secs.length cap2) (.slice b2 exW.pend.length cap2') exW.left
  have B4 := below_set4 B3 (g := w1.heap.size) sz1 (.int .i64 exW.size) (.slice a2 exW.secs.length cap2) (.slice b2 exW.pend.length cap2') (.int .i64 exW.left)
  have F4 := F3.set4 (N := w1.heap.size) (Nat.le_refl _) (Nat.lt_succ_self _) (.int .i64 exW.size) (.slice a2 exW.secs.length cap2) (.slice b2 exW.pend.length cap2') (.int .i64 exW.left)
  simp only [set4] at V0 B4 F4
  clear q0 q1 q2 q3 g0 g1 g2 g3 qlt F3 K2 K3
  generalize (((w2.setCell ⟨w1.heap.size, 0, none⟩ (.int .i64 exW.size)).setCell ⟨w1.heap.size, 1, none⟩ (.slice a2 exW.secs.length cap2)).setCell ⟨w1.heap.size, 2, none⟩ (.slice b2 exW.pend.length cap2')).setCell ⟨w1.heap.size, 3, none⟩ (.int .i64 exW.left) = w4 at V0 B4 F4 ⊢
  have d4 := Lib.hid F4.disk
  have V4 := Lib.hid V0
  clear F4 B3 B2
  obtain ⟨q0, q1, q2, q3, g0, g1, g2, g3, qlt⟩ := V0
  go_wp2_with fail
  refine (read_good exW exW_ok.fit exW_ok _ _ d4.out 1 1 rfl (by decide) abc (by decide)).mono ?_
  rintro e w5 ⟨rfl, hb5⟩
  have B5 := B4.trans (hb5.mono B4.size)
  have d5 := Lib.hid (d4.out.below hb5 (Nat.le_refl _))
  have V5 := Lib.hid (V4.out.below hb5 V4.out.lt)
  clear q0 q1 q2 q3 g0 g1 g2 g3 qlt hb5 d4 V4 B4
  obtain ⟨q0, q1, q2, q3, g0, g1, g2, g3, qlt⟩ := V5.out
  have Bb := B5.alloc B5.size (.cells #[.int .i64 2] 3)
  go_wp2_with fail
  refine (cut_ok exW exW_ok.fit exW_ok (by decide) _ _ [2] _ (d5.out.below ((Below.refl _ w5).alloc (Nat.le_refl _) _) (Nat.le_refl _)) (isInts_built w5 _ 2 (Below.refl _ _))).mono ?_
  rintro e w6 ⟨v6, rfl, hf6, hb6⟩
  have d6 : IsDisk w6 v6 exA := hf6.disk
  have B6 := Bb.trans (hb6.mono Bb.size)
  have d5' := Lib.hid ((d5.out.below ((Below.refl _ w5).alloc (Nat.le_refl _) (.cells #[.int .i64 2] 3)) (Nat.le_refl _)).below hb6 (Nat.le_refl _))
  have V6 := Lib.hid ((V5.out.alloc (.cells #[.int .i64 2] 3)).below hb6 (by have := V5.out.lt; simp; omega))
  clear q0 q1 q2 q3 g0 g1 g2 g3 qlt hb6 d5 V5 B5 Bb hf6
  go_wp2_with fail
  refine (read_good exA exA_ok.fit exA_ok _ _ d6 1 1 rfl (by decide) ⟨#[97, 98, 0]⟩ (by decide)).mono ?_
  rintro e w7 ⟨rfl, hb7⟩
  have B7 := B6.trans (hb7.mono B6.size)
  have d7 := Lib.hid (d5'.out.below hb7 (Nat.le_refl _))
  have V7 := V6.out.below hb7 V6.out.lt
  clear hb7 V6 d5' B6 d6
  obtain ⟨q0, q1, q2, q3, g0, g1, g2, g3, qlt⟩ := V7
  have Bc := B7.alloc B7.size (.cells #[.int .i64 (-3)] 3)
  go_wp2_with fail
  refine (cut_ok exW exW_ok.fit exW_ok (by decide) _ _ [-3] _ (d7.out.below ((Below.refl _ w7).alloc (Nat.le_refl _) _) (Nat.le_refl _)) (isInts_built w7 _ (-3) (Below.refl _ _))).mono ?_
  rintro e w8 ⟨v8, rfl, hf8, hb8⟩
  have d8 : IsDisk w8 v8 exB := hf8.disk
  have B8 := Bc.trans (hb8.mono Bc.size)
  clear q0 q1 q2 q3 g0 g1 g2 g3 qlt hb8 hf8 B7 Bc
  go_wp2_with fail
  refine (read_good exB exB_ok.fit exB_ok _ _ d8 1 1 rfl (by decide) abc (by decide)).mono ?_
  rintro e w9 ⟨rfl, hb9⟩
  have B9 := B8.trans (hb9.mono B8.size)
  clear hb9 d8 B8
  have habc : abc = ⟨#[97, 98, 99]⟩ := rfl
  go_wp2
  go_ret
  exact ⟨rfl, B9⟩
end Go.Proofs.Ytgdfdelggihceaa
