/- For every disk and picks DiskDurable returns true and leaves its arguments as they were: what is durable survives every loss of power. No condition. -/
import Derived.Test.YtgdfdelggihceaaLawReads
namespace Go.Proofs.Ytgdfdelggihceaa
open Go.ChangeShapes Go.WideShapes Go.ChangeAt Go.RowKit

theorem cells39 : Try.prog.cellsOf 39 = 1 := by kernel_rfl
/-- Numbers that came in. -/
theorem open_numbers {H : Type} {enc : TypeId × Value → H} {W : World} {b0 : Nat} {held : Bool} {v : Value} {d : DataW H} {p : List MemPlace} {r : Reach} {base : Nat} (hv : Value.okWide Try.prog W r base 39 v)
    (h : DataW.Trod enc Try.prog W b0 (fun _ => true) held 39 v d p) : ∃ L, IsInts W v L := by
  obtain ⟨a0, len0, cap0, rfl⟩ := okWide_slice Try.underlying39 hv
  obtain ⟨fuel, hf⟩ := h
  rcases open_ints Try.underlying39 Try.underlying3 cells3 hf with ⟨e, _⟩ | ⟨a, len, cap, zs, e, hb, hl, hm, hz, hx, hc, _⟩
  · simp [Value.cells] at e
    obtain ⟨rfl, rfl, rfl⟩ := e
    exact ⟨[], isInts_nil W⟩
  · simp [Value.cells] at e
    obtain ⟨rfl, rfl, rfl⟩ := e
    simp at hz
    have hlen : (zs.take len0).length = len0 := by rw [List.length_take]; omega
    refine ⟨zs.take len0, some a, cap0, by rw [hlen], by omega, by omega, ?_⟩
    by_cases h0 : len0 = 0
    · left; simp [h0]
    · right
      obtain ⟨b, off, rfl, hb2, hcs⟩ := cells_at (f := fun i => .int .i64 (zs.getD i 0)) (n := len0) (fun i hi => hc i (by omega)) (by omega)
      refine ⟨b, off, rfl, hb2, fun j hj => ?_⟩
      rw [hcs j (by omega)]
      have hj2 : j < zs.length := by omega
      simp [hj2]

/-- Whether a write to this sector is pending. -/
def wrt (j : Nat) (l : List (Int × ByteArray)) : Bool := l.any fun p => p.1 == (j : Int)
theorem wrt_snoc (j : Nat) (l : List (Int × ByteArray)) (k : Nat) (h : k < l.length) : wrt j (l.take (k + 1)) = (wrt j (l.take k) || l[k].1 == (j : Int)) := by
  unfold wrt
  rw [List.take_succ_eq_append_getElem h, List.any_append]; simp

set_option maxRecDepth 100000 in
set_option maxHeartbeats 2000000 in
theorem dur_out (D : Dk) (hf : D.Fit) (v vP : Value) (P : List Int) (w : World) (hv : IsDisk w v D) (hP : IsInts w vP P)
    (h : (12 < D.secs.length ∨ 12 < D.pend.length ∨ 40 < D.size) ∨ (D.secs.length ≤ 12 ∧ D.pend.length ≤ 12 ∧ D.size ≤ 40 ∧ (chk D ≠ 0 ∨ (chk D = 0 ∧ 20 < P.length)))) :
    Calls Try.prog 7 #[v, vP] w fun e w' => e = .returned (.bool true) ∧ Below w.heap.size w w' := by
  have hv0 := Lib.hid hv
  obtain ⟨_, _, rfl, ⟨a0, cap, rfl, _, _, _⟩, ⟨b0, cap2, rfl, _, _, _⟩⟩ := hv
  obtain ⟨aP, capP, rfl, hlP, _, _⟩ := hP
  unfold maxLen at hlP
  have hB := (Below.refl w.heap.size w).alloc (Nat.le_refl _) (.cells #[.int .i64 D.size, .slice a0 D.secs.length cap, .slice b0 D.pend.length cap2, .int .i64 D.left] 26)
  have x0 := Bx.fresh D.size (.slice a0 D.secs.length cap) (.slice b0 D.pend.length cap2) D.left w
  rcases h with h | ⟨h1, h2, h3, h | ⟨hc, h⟩⟩
  · have H := Lib.hid h
    clear h
    go_enter Try.func7, Try.ntmps7
    go_wp2_with fail
    ((with_reducible refine (great_yes D _ _ (hv0.out.below hB (Nat.le_refl _)) H.out).mono ?_); rintro e w1 ⟨rfl, hb1⟩)
    have B1 := hB.trans (hb1.mono hB.size)
    go_wp2_with fail
    ((with_reducible refine (awake_any _).mono ?_); rintro e w2 ⟨rfl, hb2⟩)
    go_wp2
    go_ret
    exact ⟨rfl, B1.trans (hb2.mono B1.size)⟩
  · obtain ⟨r, hr⟩ : ∃ r, chk D = r := ⟨_, rfl⟩
    rw [hr] at h
    have hne : (r != 0) = true := by simpa using h
    have HR := Lib.hid hr
    clear hr h
    go_enter Try.func7, Try.ntmps7
    go_wp2_with fail
    ((with_reducible refine (great_no D _ _ (hv0.out.below hB (Nat.le_refl _)) h1 h2 h3).mono ?_); rintro e w1 ⟨rfl, hb1⟩)
    have B1 := hB.trans (hb1.mono hB.size)
    obtain ⟨q0, q1, q2, q3, g0, g1, g2, g3, qlt⟩ := x0.below hb1 x0.lt
    go_wp2_with fail
    ((with_reducible refine (check_any D hf _ _ (hv0.out.below B1 (Nat.le_refl _)) r HR.out).mono ?_); rintro e w2 ⟨rfl, hb2⟩)
    have B2 := B1.trans (hb2.mono B1.size)
    go_wp2_with fail
    ((with_reducible refine (awake_any _).mono ?_); rintro e w3 ⟨rfl, hb3⟩)
    go_wp2
    go_ret
    exact ⟨rfl, B2.trans (hb3.mono B2.size)⟩
  · have HC := Lib.hid hc
    have hp : (20 : Int) < P.length := by omega
    clear hc
    go_enter Try.func7, Try.ntmps7
    go_wp2_with fail
    ((with_reducible refine (great_no D _ _ (hv0.out.below hB (Nat.le_refl _)) h1 h2 h3).mono ?_); rintro e w1 ⟨rfl, hb1⟩)
    have B1 := hB.trans (hb1.mono hB.size)
    obtain ⟨q0, q1, q2, q3, g0, g1, g2, g3, qlt⟩ := x0.below hb1 x0.lt
    go_wp2_with fail
    ((with_reducible refine (check_any D hf _ _ (hv0.out.below B1 (Nat.le_refl _)) 0 HC.out).mono ?_); rintro e w2 ⟨rfl, hb2⟩)
    have B2 := B1.trans (hb2.mono B1.size)
    go_wp2_with fail
    ((with_reducible refine (awake_any _).mono ?_); rintro e w3 ⟨rfl, hb3⟩)
    go_wp2
    go_ret
    exact ⟨rfl, B2.trans (hb3.mono B2.size)⟩

set_option maxRecDepth 100000 in
set_option maxHeartbeats 8000000 in
theorem dur_main (D : Dk) (hf : D.Fit) (hok : D.Ok) (v vP : Value) (P : List Int) (w : World) (hv : IsDisk w v D) (hP : IsInts w vP P) (h1 : D.secs.length ≤ 12) (h2 : D.pend.length ≤ 12) (h3 : D.size ≤ 40) (hP20 : P.length ≤ 20) :
    Calls Try.prog 7 #[v, vP] w fun e w' => e = .returned (.bool true) ∧ Below w.heap.size w w' := by
  have hv0 := Lib.hid hv
  have HP := Lib.hid hP
  obtain ⟨_, _, rfl, ⟨a0, cap, rfl, _, _, hcS⟩, ⟨b0, cap2, rfl, _, _, hcW⟩⟩ := hv
  obtain ⟨aP, capP, rfl, _, _, _⟩ := hP
  have HS := Lib.hid hcS
  have HW := Lib.hid hcW
  clear hcS hcW
  have hB := (Below.refl w.heap.size w).alloc (Nat.le_refl _) (.cells #[.int .i64 D.size, .slice a0 D.secs.length cap, .slice b0 D.pend.length cap2, .int .i64 D.left] 26)
  have x0 := Bx.fresh D.size (.slice a0 D.secs.length cap) (.slice b0 D.pend.length cap2) D.left w
  have HC := Lib.hid ((chk_zero D).2 hok)
  have hp20 : ¬ (20 : Int) < P.length := by omega
  have okX : (⟨D.size, settleL (pk P D.size) 0 D.pend D.secs, [], -1⟩ : Dk).Ok := ok_settle hok (pk_le P D.size hok.s1) (by omega)
  have hLl : (settleL (pk P D.size) 0 D.pend D.secs).length = D.secs.length := settleL_length _ _ _ _
  have hLo : ∀ (j : Nat) (h : j < D.secs.length) (h' : j < (settleL (pk P D.size) 0 D.pend D.secs).length), wrt j D.pend = false → (settleL (pk P D.size) 0 D.pend D.secs)[j] = D.secs[j] := fun j h h' hw => by
    refine settle_other _ _ _ _ j h fun p hp e => ?_
    have hp0 := (hok.pend p hp).1
    unfold wrt at hw
    rw [List.any_eq_false] at hw
    exact hw p hp (by simp; omega)
  have HLL := Lib.hid hLl
  have HLO := Lib.hid hLo
  clear hLo hLl
  go_enter Try.func7, Try.ntmps7
  go_wp2_with fail
  ((with_reducible refine (great_no D _ _ (hv0.out.below hB (Nat.le_refl _)) h1 h2 h3).mono ?_); rintro e w1 ⟨rfl, hb1⟩)
  have B1 := hB.trans (hb1.mono hB.size)
  have Y0 := Lib.hid (x0.below hb1 x0.lt)
  obtain ⟨q0, q1, q2, q3, g0, g1, g2, g3, qlt⟩ := Y0.out
  go_wp2_with fail
  ((with_reducible refine (check_any D hf _ _ (hv0.out.below B1 (Nat.le_refl _)) 0 HC.out).mono ?_); rintro e w2 ⟨rfl, hb2⟩)
  have B2 := B1.trans (hb2.mono B1.size)
  have Z0 := Lib.hid (Y0.out.below hb2 Y0.out.lt)
  clear q0 q1 q2 q3 g0 g1 g2 g3 qlt hb1 hb2 hB B1 Y0 x0
  obtain ⟨q0, q1, q2, q3, g0, g1, g2, g3, qlt⟩ := Z0.out
  go_wp2_with fail
  ((with_reducible refine (cut_ok D hf hok (by omega) _ _ P _ (hv0.out.below B2 (Nat.le_refl _)) (HP.out.below B2 (Nat.le_refl _))).mono ?_); rintro e w3 ⟨v3, rfl, f3, hb3⟩)
  have d3 := Lib.hid f3.disk
  obtain ⟨_, _, rfl, ⟨a3, cap3, rfl, _, _, hc3⟩, ⟨b3, cap3', rfl, _, _, _⟩⟩ := f3.disk
  have B3 := B2.trans (hb3.mono B2.size)
  have V3 := Z0.out.below hb3 Z0.out.lt
  simp only at d3 hc3 ⊢
  generalize hL : settleL (pk P D.size) 0 D.pend D.secs = L at d3 hc3 HLL HLO okX ⊢
  have HL := Lib.hid hL
  rw [HLL.out] at d3 ⊢
  simp only [List.length_nil] at d3 ⊢
  have B4 := B3.alloc B3.size (.cells #[.int .i64 D.size, .slice a3 D.secs.length cap3, .slice b3 0 cap3', .int .i64 (-1)] 26)
  have V4 := Lib.hid (V3.alloc (.cells #[.int .i64 D.size, .slice a3 D.secs.length cap3, .slice b3 0 cap3', .int .i64 (-1)] 26))
  have X4 := Lib.hid (Bx.fresh D.size (.slice a3 D.secs.length cap3) (.slice b3 0 cap3') (-1) w3)
  have d4 := Lib.hid (d3.out.below ((Below.refl w3.heap.size w3).alloc (Nat.le_refl _) (.cells #[.int .i64 D.size, .slice a3 D.secs.length cap3, .slice b3 0 cap3', .int .i64 (-1)] 26)) (Nat.le_refl _))
  have HC3 : Hid (D.secs.length = 0 ∨ ∃ b off, a3 = some ⟨b, off, none⟩ ∧ b < w3.heap.size ∧ ∀ j (h : j < L.length), (w3.alloc (.cells #[.int .i64 D.size, .slice a3 D.secs.length cap3, .slice b3 0 cap3', .int .i64 (-1)] 26)).cell? ⟨b, off + j, none⟩ = some (.string L[j])) := Lib.hid (by
    rcases hc3 with h | ⟨b, off, e, hb, hc⟩
    · left; rw [← HLL.out, h]; rfl
    · exact .inr ⟨b, off, e, hb, fun j hj => (((Below.refl w3.heap.size w3).alloc (Nat.le_refl _) (.cells #[.int .i64 D.size, .slice a3 D.secs.length cap3, .slice b3 0 cap3', .int .i64 (-1)] 26)).cell (p := ⟨b, off + j, none⟩) hb).trans (hc j hj)⟩)
  have lt3 : w3.heap.size < (w3.alloc (.cells #[.int .i64 D.size, .slice a3 D.secs.length cap3, .slice b3 0 cap3', .int .i64 (-1)] 26)).heap.size := by simp
  clear q0 q1 q2 q3 g0 g1 g2 g3 qlt hb3 d3 hc3 hL V3 B3 f3 Z0
  go_upto_region 4 with fail
  generalize w3.alloc (.cells #[.int .i64 D.size, .slice a3 D.secs.length cap3, .slice b3 0 cap3', .int .i64 (-1)] 26) = w4 at B4 V4 X4 d4 HC3 lt3 ⊢
  obtain ⟨q0, q1, q2, q3, g0, g1, g2, g3, qlt⟩ := V4.out
  obtain ⟨r0, r1, r2, r3, k0, k1, k2, k3, rlt⟩ := X4.out
  go_wp2_with fail
  ((with_reducible refine (check_any _ okX.fit _ _ d4.out 0 ((chk_zero _).2 okX)).mono ?_); rintro e w5 ⟨rfl, hb5⟩)
  have B5 := Lib.hid hb5
  clear q0 q1 q2 q3 g0 g1 g2 g3 qlt r0 r1 r2 r3 k0 k1 k2 k3 rlt
  obtain ⟨q0, q1, q2, q3, g0, g1, g2, g3, qlt⟩ := V4.out.below hb5 V4.out.lt
  obtain ⟨r0, r1, r2, r3, k0, k1, k2, k3, rlt⟩ := X4.out.below hb5 X4.out.lt
  clear hb5
  have hlen0 : ((0 : Int) != 0) = false := rfl
  go_wp2
  clear q0 q1 q2 q3 g0 g1 g2 g3 qlt r0 r1 r2 r3 k0 k1 k2 k3 rlt
  go_loopw [54] (fun s54 wr => ∃ j : Nat, j ≤ D.secs.length ∧ s54 = .int .i64 j ∧ Below w4.heap.size w4 wr) (fun i _ => D.secs.length - (intOf i).toNat)
  case atStart => exact ⟨0, Nat.zero_le _, rfl, B5.out⟩
  case round =>
    obtain ⟨j, hj, rfl, hBr⟩ := hrel
    have VR := Lib.hid (V4.out.below hBr V4.out.lt)
    have XR := Lib.hid (X4.out.below hBr X4.out.lt)
    obtain ⟨q0, q1, q2, q3, g0, g1, g2, g3, qlt⟩ := VR.out
    by_cases hlt : j < D.secs.length
    · go_wp2
      clear q0 q1 q2 q3 g0 g1 g2 g3 qlt
      obtain ⟨wo, rfl⟩ : ∃ wo : World, wo = wr := ⟨_, rfl⟩
      go_loopw [7, 60] (fun s7 s60 wr => ∃ k : Nat, k ≤ D.pend.length ∧ s60 = .int .i64 k ∧ s7 = .bool (wrt j (D.pend.take k)) ∧ Below w4.heap.size w4 wr) (fun _ i _ => D.pend.length - (intOf i).toNat)
      case atStart => exact ⟨0, Nat.zero_le _, rfl, rfl, hBr⟩
      case round =>
        obtain ⟨k, hk, rfl, rfl, hBi⟩ := hrel
        by_cases hlt2 : k < D.pend.length
        · obtain ⟨b1, o1, rfl, hb1, hcell⟩ := HW.out.resolve_left (by intro e; rw [e] at hlt2; simp at hlt2)
          obtain ⟨hc1, hc2⟩ := hcell k hlt2
          have Bw := B4.trans (hBi.mono B4.size)
          have p0 := (Bw.cell (p := ⟨b1, o1 + k * 2, none⟩) hb1).trans hc1
          have p1 := (Bw.cell (p := ⟨b1, o1 + k * 2 + 1, none⟩) hb1).trans hc2
          have hs := wrt_snoc j D.pend k hlt2
          generalize D.pend[k] = p at p0 p1 hs
          obtain ⟨s, x⟩ := p
          simp only at p0 p1 hs
          have HSn := Lib.hid hs
          generalize wrt j (D.pend.take k) = b at HSn ⊢
          clear hcell hc1 hc2 hs
          have Ba := hBi.alloc hBi.size (.cells #[.int .i64 s, .string x] 44)
          cases b with
          | true =>
            go_wp2
            go_roundw
            case rel => exact ⟨k + 1, by omega, by go_num, by rw [HSn.out]; rfl, Ba⟩
            case measure => simp [intOf]; omega
          | false =>
            obtain ⟨c, hc⟩ : ∃ c, (s == (j : Int)) = c := ⟨_, rfl⟩
            have HCc := Lib.hid hc
            go_wp2
            go_roundw
            case rel => exact ⟨k + 1, by omega, by go_num, by rw [HSn.out, HCc.out]; rfl, Ba⟩
            case measure => simp [intOf]; omega
        · obtain rfl : k = D.pend.length := by omega
          rw [List.take_length]
          have VI := Lib.hid (V4.out.below hBi V4.out.lt)
          have XI := Lib.hid (X4.out.below hBi X4.out.lt)
          have j0 : (0 : Int) ≤ (j : Int) := by omega
          have j1 : (j : Int) < (D.secs.length : Int) := by omega
          obtain ⟨b, hb⟩ : ∃ b, wrt j D.pend = b := ⟨_, rfl⟩
          have HBW := Lib.hid hb
          rw [hb]
          clear hb
          cases b with
          | true =>
            go_wp2
            go_quiet (fail)
            go_wp2
            go_roundw
            case rel => exact ⟨j + 1, by omega, by go_num, ⟨hBi.os, hBi.tape, hBi.output, hBi.size, hBi.block⟩⟩
            case measure => simp [intOf]; omega
          | false =>
            have hjL : j < L.length := by rw [HLL.out]; exact hlt
            have e1 := HLO.out j hlt hjL HBW.out
            obtain ⟨b1, o1, rfl, hb1, hcell⟩ := HS.out.resolve_left (by intro e; rw [e] at hlt; simp at hlt)
            obtain ⟨b2, o2, rfl, hb2, hcell2⟩ := HC3.out.resolve_left (by omega)
            have Bw := B4.trans (hBi.mono B4.size)
            have p0 := (Bw.cell (p := ⟨b1, o1 + j, none⟩) hb1).trans (hcell j hlt)
            have p1 := (hBi.cell (p := ⟨b2, o2 + j, none⟩) (by show b2 < w4.heap.size; omega)).trans (hcell2 j hjL)
            rw [e1] at p1
            generalize D.secs[j] = y at p0 p1 e1
            clear hcell hcell2 e1
            obtain ⟨q0, q1, q2, q3, g0, g1, g2, g3, qlt⟩ := VI.out
            obtain ⟨r0, r1, r2, r3, k0, k1, k2, k3, rlt⟩ := XI.out
            go_wp2
            go_quiet (fail)
            go_wp2
            go_roundw
            case rel => exact ⟨j + 1, by omega, by go_num, ⟨hBi.os, hBi.tape, hBi.output, hBi.size, hBi.block⟩⟩
            case measure => simp [intOf]; omega
    · have Bw := B4.trans (hBr.mono B4.size)
      clear q0 q1 q2 q3 g0 g1 g2 g3 qlt
      have okS : (⟨D.size, D.secs, D.pend, -1⟩ : Dk).Ok := ⟨hok.s1, hok.s2, hok.l1, hok.l2, hok.secs, hok.pend, by show (-1 : Int) ≤ -1; omega⟩
      obtain ⟨z, hz⟩ : ∃ z : Nat, (z : Int) = D.size := ⟨D.size.toNat, by have := hok.s1; omega⟩
      obtain ⟨D6, hD6⟩ : ∃ D6 : Dk, (⟨D.size, settleL (fun _ => z) 0 D.pend D.secs, [], -1⟩ : Dk) = D6 := ⟨_, rfl⟩
      have ok6 : D6.Ok := by rw [← hD6]; exact ok_settle okS (fun _ => by show (z : Int) ≤ D.size; omega) (by omega)
      have e7 : (⟨D6.size, settleL (pk P D6.size) 0 D6.pend D6.secs, [], -1⟩ : Dk) = D6 := by rw [← hD6]; rfl
      have hp6 : D6.pend.length ≤ 100000 := by rw [← hD6]; exact Nat.zero_le _
      have HD6 := Lib.hid hD6
      have E7 := Lib.hid e7
      have HZ := Lib.hid hz
      clear hD6 e7 hz
      obtain ⟨q0, q1, q2, q3, g0, g1, g2, g3, qlt⟩ := VR.out
      go_upto_region 19 with fail
      have V9 := VR.out.setL (-1)
      have B9 := Bw.setCell (p := ⟨w.heap.size, 3, none⟩) (Nat.le_refl _) (.int .i64 (-1))
      clear q0 q1 q2 q3 g0 g1 g2 g3 qlt VR XR
      generalize wr.setCell ⟨w.heap.size, 3, none⟩ (.int .i64 (-1)) = w9 at V9 B9 ⊢
      have d9 : IsDisk w9 (dv D.size (.slice a0 D.secs.length cap) (.slice b0 D.pend.length cap2) (-1)) ⟨D.size, D.secs, D.pend, -1⟩ := by
        obtain ⟨vs, vp, e, f1, f2⟩ := hv0.out.below B9 (Nat.le_refl _)
        cases e
        exact ⟨_, _, rfl, f1, f2⟩
      obtain ⟨q0, q1, q2, q3, g0, g1, g2, g3, qlt⟩ := V9
      go_wp2_with fail
      ((with_reducible refine (sync_ok _ okS.fit okS _ _ d9 (show (-1 : Int) ≠ 0 by decide) (show (-1 : Int) ≤ 9223372036854775807 by decide) (-1) (show lessI (-1) = -1 by decide) z HZ.out).mono ?_); rintro e wa ⟨va, rfl, fa, hba⟩)
      simp only at fa
      rw [HD6.out] at fa
      have da := fa.disk
      obtain ⟨_, _, rfl, ⟨aa, capa, rfl, _, _, _⟩, ⟨bb, capb, rfl, _, _, _⟩⟩ := fa.disk
      have Bz := B9.trans (hba.mono B9.size)
      have Bb := Bz.alloc Bz.size (.cells #[.int .i64 D6.size, .slice aa D6.secs.length capa, .slice bb D6.pend.length capb, .int .i64 D6.left] 26)
      have Xb := Bx.fresh D6.size (.slice aa D6.secs.length capa) (.slice bb D6.pend.length capb) D6.left wa
      have db := da.below ((Below.refl wa.heap.size wa).alloc (Nat.le_refl _) (.cells #[.int .i64 D6.size, .slice aa D6.secs.length capa, .slice bb D6.pend.length capb, .int .i64 D6.left] 26)) (Nat.le_refl _)
      clear q0 q1 q2 q3 g0 g1 g2 g3 qlt hba da fa d9 B9
      go_upto_region 20 with fail
      generalize wa.alloc (.cells #[.int .i64 D6.size, .slice aa D6.secs.length capa, .slice bb D6.pend.length capb, .int .i64 D6.left] 26) = wb at Bb Xb db ⊢
      have start := Xb.drew
      have hD0 := Lib.hid (db.below (Below.refl wb.heap.size wb).drew (Nat.le_refl _))
      have hP0 := Lib.hid ((HP.out.below Bb (Nat.le_refl _)).below (Below.refl wb.heap.size wb).drew (Nat.le_refl _))
      have Bd := Bb.drew
      have s4 : wb.drew.cell? ⟨wa.heap.size, 0, none⟩ = some (.int .i64 D6.size) ∧ wb.drew.cell? ⟨wa.heap.size, 1, none⟩ = some (.slice aa D6.secs.length capa) ∧ wb.drew.cell? ⟨wa.heap.size, 2, none⟩ = some (.slice bb D6.pend.length capb) ∧ wb.drew.cell? ⟨wa.heap.size, 3, none⟩ = some (.int .i64 D6.left) := ⟨start.c0, start.c1, start.c2, start.c3⟩
      go_region_held3 (fun V => V.cell? ⟨wa.heap.size, 0, none⟩ = some (.int .i64 D6.size) ∧ V.cell? ⟨wa.heap.size, 1, none⟩ = some (.slice aa D6.secs.length capa) ∧ V.cell? ⟨wa.heap.size, 2, none⟩ = some (.slice bb D6.pend.length capb) ∧ V.cell? ⟨wa.heap.size, 3, none⟩ = some (.int .i64 D6.left)) (first | with_reducible exact s4 | with_reducible exact ⟨hh.c0, hh.c1, hh.c2, hh.c3⟩)
        (first | (go_at_call 24; (with_reducible refine (cut_ok D6 ok6.fit ok6 hp6 _ _ P _ hD0.out hP0.out).mono ?_); rintro e w7 ⟨v7, rfl, f7, hb7⟩; rw [E7.out] at f7; have d7 := Lib.hid f7.disk; have hh := start.below hb7 start.lt; have y7 := Lib.hid (hD0.out.below hb7 (Nat.le_refl _)); have B7 := Bd.trans (hb7.mono Bd.size); clear f7 hb7) | (go_at_call 14; (with_reducible refine (same_any D6 _ _ _ d7.out y7.out).mono ?_); rintro e w8 ⟨rfl, hb8⟩; have hh := hh.below hb8 hh.lt; have B8 := B7.trans (hb8.mono B7.size); clear hb8) | (go_at_call 11; (with_reducible refine (awake_any _).mono ?_); rintro e w0 ⟨rfl, hb0⟩; have hh := hh.below hb0 hh.lt; have B0 := B8.trans (hb0.mono B8.size); clear hb0))
      go_wp2
      go_ret
      exact ⟨rfl, B0⟩

theorem dur_any (D : Dk) (hf : D.Fit) (v vP : Value) (P : List Int) (w : World) (hv : IsDisk w v D) (hP : IsInts w vP P) :
    Calls Try.prog 7 #[v, vP] w fun e w' => e = .returned (.bool true) ∧ Below w.heap.size w w' := by
  by_cases hg : 12 < D.secs.length ∨ 12 < D.pend.length ∨ 40 < D.size
  · exact dur_out D hf v vP P w hv hP (.inl hg)
  by_cases h0 : chk D = 0
  · by_cases hs : 20 < P.length
    · exact dur_out D hf v vP P w hv hP (.inr ⟨by omega, by omega, by omega, .inr ⟨h0, hs⟩⟩)
    · exact dur_main D hf ((chk_zero D).1 h0) v vP P w hv hP (by omega) (by omega) (by omega) (by omega)
  · exact dur_out D hf v vP P w hv hP (.inr ⟨by omega, by omega, by omega, .inl h0⟩)

set_option maxRecDepth 100000 in
theorem dur_lifted (os : Os) (started : os.Started) (H : Type) (enc : TypeId × Value → H) :
    ReturnsInHanded {} Try.checked os 7 .any (Rows.diskDurableSpec.pre6 enc Try.prog Try.f7 Rows.diskDurableRow.domain false) (Rows.diskDurableSpec.post enc Try.prog Try.f7 false true false false) := by
  refine returnsInHanded_of_change (C := Try.checked) ownK started (by kernel_rfl) Try.func7
    (ChangeSpec.witness6 (enc := enc) (C := Try.checked) false ⟨#[], #[dv 0 (.slice none 0 0) (.slice none 0 0) 0, .slice none 0 0], []⟩ 8 (by kernel_rfl) (by kernel_rfl) (by kernel_rfl) (by kernel_rfl)) ?_
  intro W base args ds gs before hval0 hW hcnd _
  have hval : ∀ (j : Nat) t v, Try.f7.params[j]? = some t → args[j]? = some v → Value.okWide Try.prog W .any base t v := hval0
  have hW' := hW
  obtain ⟨p, q, hA0, hV, rfl, hfz, hnd⟩ := hW
  have hA : DataW.TrodAll enc Try.prog W 0 (fun _ => true) true Try.f7.params.toList args.toList ds p := hA0
  rw [Try.params7] at hA hval
  obtain ⟨v0, v1, d0, d1, p0, p1, rfl, rfl, rfl, h0, h1⟩ := trodAll_two hA
  obtain ⟨rfl, rfl⟩ := trodVars_none hV
  have k0 := h0
  have k1 := h1
  have lt0 : ∀ x ∈ p0, x.block < W.heap.size := by obtain ⟨m, hm⟩ := k0; exact DataW.trod_lt m _ _ _ hm
  have lt1 : ∀ x ∈ p1, x.block < W.heap.size := by obtain ⟨m, hm⟩ := k1; exact DataW.trod_lt m _ _ _ hm
  obtain ⟨D, hv, hf, hl⟩ := open_disk (hval 0 26 v0 rfl rfl) h0
  obtain ⟨P, hP⟩ := open_numbers (hval 1 39 v1 rfl rfl) h1
  clear hA0 hval0
  refine (dur_any D hf v0 v1 P W hv hP).mono fun e W' ⟨he, bel⟩ => ?_
  subst he
  exact ⟨_, rfl, _, _, _, [], _, [], hW', trodAll_mk1 (shut_bool Try.underlying4 _), (trodAll_cons_mk (Below.trod laidOut (by kernel_rfl) (of_decide_eq_true (by kernel_rfl)) k0 bel lt0) (trodAll_cons_mk (Below.trod laidOut (by kernel_rfl) (of_decide_eq_true (by kernel_rfl)) k1 bel lt1) trodAll_mk0)), rfl, bel.frame _, fun h => by cases h⟩

theorem dur_holds : Rows.DiskDurableSaid :=
  OpenClaim.holds_of_wide 7 Try.f7 rfl rfl rfl rfl rfl rfl rfl ⟨rfl, rfl, rfl, rfl, rfl⟩ rfl rfl rfl rfl rfl (by kernel_rfl) Try.func7 (by kernel_rfl)
    (of_decide_eq_true (by kernel_rfl)) (by unfold Func.isWrapper; rw [if_neg (of_decide_eq_false (by kernel_rfl))]; exact ⟨rfl, rfl⟩)
    (fun os started H enc _ => dur_lifted os started H enc)
#print axioms dur_holds
end Go.Proofs.Ytgdfdelggihceaa
