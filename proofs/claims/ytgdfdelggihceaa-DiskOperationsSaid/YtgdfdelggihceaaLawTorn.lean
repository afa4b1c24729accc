/- For every disk, sector, data and pick DiskTorn returns true and leaves its arguments as they were: a pick of the full size keeps all, no pick nothing, a pick between tears. No condition. -/
import Derived.Test.YtgdfdelggihceaaLawDurable
import Derived.Laws.OwnMore
namespace Go.Proofs.Ytgdfdelggihceaa
open Go.ChangeShapes Go.WideShapes Go.ChangeAt Go.RowKit
open Go.ChangeMaps (open_string shut_string)

theorem info3 : (Try.prog.info? 3).map (fun i => (i.zero, i.size, i.bytes)) = some (some (.int .i64 0), 1, 8) := by kernel_rfl
/-- A slice of one's own is a row of numbers. -/
theorem own_ints {w : World} {B m : Nat} {v : Value} {x : Int} (h : w.ownsRow B 3 1 v m (List.replicate m (.int .i64 x))) (hm : m ≤ maxLen) : IsInts w v (List.replicate m x) := by
  have h0 := h
  obtain ⟨_, ⟨rfl, rfl⟩ | ⟨g, cap, cur, rfl, hb, hcur, hn, hcap, hsz, _⟩⟩ := h
  · exact isInts_nil w
  · refine ⟨_, cap, by rw [List.length_replicate], by rw [List.length_replicate]; exact hm, by rw [List.length_replicate]; exact hn, .inr ⟨g, 0, rfl, (Array.getElem?_eq_some_iff.1 hcur).1, fun j hj => ?_⟩⟩
    rw [List.length_replicate] at hj
    have := h0.cellAt j (by omega)
    rw [Nat.zero_add, this]
    simp [hj]
theorem pk_full (m : Nat) (sz : Int) (z : Nat) (hz : (z : Int) = sz) (h1 : 1 ≤ sz) (j : Nat) (hj : j < m) : pk (List.replicate m sz) sz j = z := by
  rw [pk_in _ _ _ (by rw [List.length_replicate]; exact hj), List.getElem_replicate]
  have : sz.tmod (sz + 1) = sz := Int.tmod_eq_of_lt (by omega) (by omega)
  rw [this]; omega
theorem settle_one (kept : Nat → Nat) (k : Nat) (x : ByteArray) (L : List ByteArray) (h : k < L.length) (h' : k < (settleL kept 0 [((k : Int), x)] L).length) : (settleL kept 0 [((k : Int), x)] L)[k] = tear (kept 0) x L[k] := by
  simp only [settleL, Int.toNat_natCast, getD_at _ _ h, List.getElem_set_self]

set_option maxRecDepth 100000 in
set_option maxHeartbeats 2000000 in
theorem torn_out (D : Dk) (hf : D.Fit) (v : Value) (w : World) (hv : IsDisk w v D) (a : Nat) (x : ByteArray) (hx : x.size ≤ maxLen) (p : Int)
    (h : (12 < D.secs.length ∨ 12 < D.pend.length ∨ 40 < D.size) ∨ (D.secs.length ≤ 12 ∧ D.pend.length ≤ 12 ∧ D.size ≤ 40 ∧ (chk D ≠ 0 ∨ (chk D = 0 ∧ (x.size : Int) ≠ D.size)))) :
    Calls Try.prog 8 #[v, .int .u8 a, .string x, .int .i64 p] w fun e w' => e = .returned (.bool true) ∧ Below w.heap.size w w' := by
  have hv0 := Lib.hid hv
  obtain ⟨_, _, rfl, ⟨a0, cap, rfl, _, _, _⟩, ⟨b0, cap2, rfl, _, _, _⟩⟩ := hv
  have hB := (Below.refl w.heap.size w).alloc (Nat.le_refl _) (.cells #[.int .i64 D.size, .slice a0 D.secs.length cap, .slice b0 D.pend.length cap2, .int .i64 D.left] 26)
  have x0 := Bx.fresh D.size (.slice a0 D.secs.length cap) (.slice b0 D.pend.length cap2) D.left w
  unfold maxLen at hx
  have hx' : (x.size : Int) ≤ 9223372036854775807 := by omega
  rcases h with h | ⟨h1, h2, h3, h | ⟨hc, h⟩⟩
  · have H := Lib.hid h
    clear h
    go_enter Try.func8, Try.ntmps8
    go_wp2_with fail
    ((with_reducible refine (great_yes D _ _ (hv0.out.below hB (Nat.le_refl _)) H.out).mono ?_); rintro e w1 ⟨rfl, hb1⟩)
    have B1 := hB.trans (hb1.mono hB.size)
    go_wp2_with fail
    ((with_reducible refine (awake_any _).mono ?_); rintro e w2 ⟨rfl, hb2⟩)
    go_wp2
    go_ret
    exact ⟨rfl, B1.trans (hb2.mono B1.size)⟩
  · obtain ⟨r, hr⟩ : ∃ r, chk D = r := ⟨_, rfl⟩
    rw [hr] at h
    have hne : (r != 0) = true := by simpa using h
    have HR := Lib.hid hr
    clear hr h
    go_enter Try.func8, Try.ntmps8
    go_wp2_with fail
    ((with_reducible refine (great_no D _ _ (hv0.out.below hB (Nat.le_refl _)) h1 h2 h3).mono ?_); rintro e w1 ⟨rfl, hb1⟩)
    have B1 := hB.trans (hb1.mono hB.size)
    obtain ⟨q0, q1, q2, q3, g0, g1, g2, g3, qlt⟩ := x0.below hb1 x0.lt
    go_wp2_with fail
    ((with_reducible refine (check_any D hf _ _ (hv0.out.below B1 (Nat.le_refl _)) r HR.out).mono ?_); rintro e w2 ⟨rfl, hb2⟩)
    have B2 := B1.trans (hb2.mono B1.size)
    go_wp2_with fail
    ((with_reducible refine (awake_any _).mono ?_); rintro e w3 ⟨rfl, hb3⟩)
    go_wp2
    go_ret
    exact ⟨rfl, B2.trans (hb3.mono B2.size)⟩
  · have HC := Lib.hid hc
    have hne : (((x.size : Nat) : Int) != D.size) = true := by simpa using h
    clear hc h
    go_enter Try.func8, Try.ntmps8
    go_wp2_with fail
    ((with_reducible refine (great_no D _ _ (hv0.out.below hB (Nat.le_refl _)) h1 h2 h3).mono ?_); rintro e w1 ⟨rfl, hb1⟩)
    have B1 := hB.trans (hb1.mono hB.size)
    have Y0 := Lib.hid (x0.below hb1 x0.lt)
    obtain ⟨q0, q1, q2, q3, g0, g1, g2, g3, qlt⟩ := Y0.out
    go_wp2_with fail
    ((with_reducible refine (check_any D hf _ _ (hv0.out.below B1 (Nat.le_refl _)) 0 HC.out).mono ?_); rintro e w2 ⟨rfl, hb2⟩)
    have B2 := B1.trans (hb2.mono B1.size)
    clear q0 q1 q2 q3 g0 g1 g2 g3 qlt
    obtain ⟨q0, q1, q2, q3, g0, g1, g2, g3, qlt⟩ := Y0.out.below hb2 Y0.out.lt
    go_wp2_with fail
    ((with_reducible refine (awake_any _).mono ?_); rintro e w3 ⟨rfl, hb3⟩)
    go_wp2
    go_ret
    exact ⟨rfl, B2.trans (hb3.mono B2.size)⟩

set_option maxRecDepth 100000 in
set_option maxHeartbeats 8000000 in
theorem torn_main (D : Dk) (hf : D.Fit) (hok : D.Ok) (v : Value) (w : World) (hv : IsDisk w v D) (h1 : D.secs.length ≤ 12) (h2 : D.pend.length ≤ 12) (h3 : D.size ≤ 40) (a : Nat) (ha : a < 256) (x : ByteArray) (p : Int) (hne : (x.size : Int) = D.size) :
    Calls Try.prog 8 #[v, .int .u8 a, .string x, .int .i64 p] w fun e w' => e = .returned (.bool true) ∧ Below w.heap.size w w' := by
  have hv0 := Lib.hid hv
  obtain ⟨_, _, rfl, ⟨a0, cap, rfl, _, _, hcS⟩, ⟨b0, cap2, rfl, _, _, _⟩⟩ := hv
  have HS : Hid (IsStrs w (.slice a0 D.secs.length cap) D.secs) := Lib.hid ⟨_, _, rfl, by assumption, by assumption, hcS⟩
  clear hcS
  have hB := (Below.refl w.heap.size w).alloc (Nat.le_refl _) (.cells #[.int .i64 D.size, .slice a0 D.secs.length cap, .slice b0 D.pend.length cap2, .int .i64 D.left] 26)
  have x0 := Bx.fresh D.size (.slice a0 D.secs.length cap) (.slice b0 D.pend.length cap2) D.left w
  have HC := Lib.hid ((chk_zero D).2 hok)
  have hn1 := hok.l1
  have hn0 : ((D.secs.length : Int) == 0) = false := by simp; intro e; rw [e] at hn1; simp at hn1
  have hsz : (((x.size : Nat) : Int) != D.size) = false := by simpa using hne
  have s40 : x.size ≤ 40 := by omega
  obtain ⟨k, hk⟩ : ∃ k, a % D.secs.length = k := ⟨_, rfl⟩
  have hkl : k < D.secs.length := by rw [← hk]; exact Nat.mod_lt _ hn1
  have t1 : (a : Int).tmod (D.secs.length : Int) = (k : Int) := by rw [← hk]; exact (Int.ofNat_tmod a D.secs.length).symm
  have T1 := Lib.hid t1
  obtain ⟨z, hz⟩ : ∃ z : Nat, (z : Int) = D.size := ⟨D.size.toNat, by have := hok.s1; omega⟩
  have okS : (⟨D.size, D.secs, D.pend, -1⟩ : Dk).Ok := ⟨hok.s1, hok.s2, hok.l1, hok.l2, hok.secs, hok.pend, by show (-1 : Int) ≤ -1; omega⟩
  have hs1 := hok.s1
  have hs2 := hok.s2
  -- what Sync makes of the disk, what no pick leaves of it, the disk with one write more, what a pick leaves of that
  obtain ⟨D6, hD6⟩ : ∃ D6 : Dk, (⟨D.size, settleL (fun _ => z) 0 D.pend D.secs, [], -1⟩ : Dk) = D6 := ⟨_, rfl⟩
  have ok6 : D6.Ok := by rw [← hD6]; exact ok_settle okS (fun _ => by show (z : Int) ≤ D.size; omega) (by omega)
  have e7 : (⟨D.size, settleL (pk (List.replicate D.pend.length D.size) D.size) 0 D.pend D.secs, [], -1⟩ : Dk) = D6 := by
    rw [← hD6, settle_congr (pk (List.replicate D.pend.length D.size) D.size) (fun _ => z) D.pend 0 D.secs fun j _ hj => pk_full _ _ z hz hs1 j (by omega)]
  have e8 : (⟨D.size, settleL (pk [] D.size) 0 D.pend D.secs, [], -1⟩ : Dk) = ⟨D.size, D.secs, [], -1⟩ := by
    rw [settle_congr (pk [] D.size) (fun _ => 0) D.pend 0 D.secs fun j _ _ => pk_out _ _ _ (Nat.zero_le _), settle_none D.pend 0 D.secs fun q hq => by have := hok.pend q hq; omega]
  have l6 : D6.secs.length = D.secs.length := by rw [← hD6]; exact settleL_length _ _ _ _
  have z6 : D6.size = D.size := by rw [← hD6]
  have f6 : D6.left = -1 := by rw [← hD6]
  have p6 : D6.pend = [] := by rw [← hD6]
  have k6 : k < D6.secs.length := by omega
  have c6 : cw D6 k x = 0 := (cw_zero D6 k x).2 ⟨by omega, by omega, by omega⟩
  obtain ⟨D9, hD9⟩ : ∃ D9 : Dk, (⟨D6.size, D6.secs, D6.pend ++ [((k : Int), x)], -1⟩ : Dk) = D9 := ⟨_, rfl⟩
  have ok9 : D9.Ok := by rw [← hD9]; exact ok_write ok6 c6 (by omega)
  have p9 : D9.pend.length ≤ 100000 := by rw [← hD9, p6]; show 1 ≤ 100000; omega
  obtain ⟨D10, hD10⟩ : ∃ D10 : Dk, (⟨D9.size, settleL (pk [p] D9.size) 0 D9.pend D9.secs, [], -1⟩ : Dk) = D10 := ⟨_, rfl⟩
  have ok10 : D10.Ok := by rw [← hD10]; exact ok_settle ok9 (pk_le [p] D9.size ok9.s1) (by omega)
  obtain ⟨n, hn⟩ : ∃ n, pk [p] D.size 0 = n := ⟨_, rfl⟩
  have nz : n ≤ x.size := by have := pk_le [p] D.size hs1 0; omega
  obtain ⟨y, hy⟩ : ∃ y, D6.secs[k] = y := ⟨_, rfl⟩
  have ys : y.size = x.size := by have := ok6.secs _ (List.getElem_mem k6); rw [hy] at this; omega
  have l10 : D10.secs.length = D6.secs.length := by rw [← hD10]; show (settleL _ _ _ _).length = _; rw [settleL_length, ← hD9]
  have k10 : k < D10.secs.length := by omega
  have r10 : curAt k D10.secs[k] D10.pend = tear n x y := by
    have key : ∀ (E9 E10 : Dk) (_ : (⟨D6.size, D6.secs, D6.pend ++ [((k : Int), x)], -1⟩ : Dk) = E9) (_ : (⟨E9.size, settleL (pk [p] E9.size) 0 E9.pend E9.secs, [], -1⟩ : Dk) = E10) (h : k < E10.secs.length), curAt k E10.secs[k] E10.pend = tear n x y := by
      rintro _ _ rfl rfl h
      show (settleL (pk [p] D6.size) 0 (D6.pend ++ [((k : Int), x)]) D6.secs)[k] = _
      have e : ∀ (l : List (Int × ByteArray)) (_ : l = [((k : Int), x)]) (h : k < (settleL (pk [p] D6.size) 0 l D6.secs).length), (settleL (pk [p] D6.size) 0 l D6.secs)[k] = tear n x y := by
        rintro _ rfl h
        rw [settle_one _ _ _ _ k6, hy, z6, hn]
      exact e _ (by rw [p6]; rfl) h
    exact key D9 D10 hD9 hD10 k10
  obtain ⟨s, hs⟩ : ∃ s, tear n x y = s := ⟨_, rfl⟩
  have ss : s.size = x.size := by rw [← hs]; exact tear_size _ _ _ nz (by omega)
  rw [hs] at r10
  have gs : (((s.size : Nat) : Int) != D.size) = false := by rw [ss]; exact hsz
  have gy : (((y.size : Nat) : Int) != D.size) = false := by rw [ys]; exact hsz
  have E6 := Lib.hid hD6
  have E7 := Lib.hid e7
  have E8 := Lib.hid e8
  have E9 := Lib.hid hD9
  have E10 := Lib.hid hD10
  have L6 := Lib.hid l6
  have Z6 := Lib.hid z6
  have F6 := Lib.hid f6
  have P6 := Lib.hid p6
  have YK := Lib.hid hy
  have YS := Lib.hid ys
  have SS := Lib.hid ss
  have R10 := Lib.hid r10
  have HSE := Lib.hid hs
  have GS := Lib.hid gs
  have GY := Lib.hid gy
  clear hD6 e7 e8 hD9 hD10 l6 z6 f6 p6 hn hy ys l10 r10 hs ss gs gy
  have HZ := Lib.hid hz
  have HNE := Lib.hid hne
  clear hk t1 hz hne
  go_enter Try.func8, Try.ntmps8
  go_wp2_with fail
  ((with_reducible refine (great_no D _ _ (hv0.out.below hB (Nat.le_refl _)) h1 h2 h3).mono ?_); rintro e w1 ⟨rfl, hb1⟩)
  have B1 := hB.trans (hb1.mono hB.size)
  have Y0 := Lib.hid (x0.below hb1 x0.lt)
  obtain ⟨q0, q1, q2, q3, g0, g1, g2, g3, qlt⟩ := Y0.out
  go_wp2_with fail
  ((with_reducible refine (check_any D hf _ _ (hv0.out.below B1 (Nat.le_refl _)) 0 HC.out).mono ?_); rintro e w2 ⟨rfl, hb2⟩)
  have B2 := B1.trans (hb2.mono B1.size)
  have Z0 := Lib.hid (Y0.out.below hb2 Y0.out.lt)
  clear q0 q1 q2 q3 g0 g1 g2 g3 qlt hb1 hb2 hB B1 Y0 x0
  obtain ⟨q0, q1, q2, q3, g0, g1, g2, g3, qlt⟩ := Z0.out
  have t1 := T1.out
  go_upto_region 5 with fail
  have V9 := Lib.hid (Z0.out.setL (-1))
  have B9 := B2.setCell (p := ⟨w.heap.size, 3, none⟩) (Nat.le_refl _) (.int .i64 (-1))
  clear q0 q1 q2 q3 g0 g1 g2 g3 qlt Z0 B2 t1
  generalize w2.setCell ⟨w.heap.size, 3, none⟩ (.int .i64 (-1)) = w3 at V9 B9 ⊢
  obtain ⟨q0, q1, q2, q3, g0, g1, g2, g3, qlt⟩ := V9.out.alloc (.cells #[] 3)
  obtain ⟨i0, hi, hz0, hz1, hz2⟩ := info_parts info3
  go_wp2
  go_loopw [10, 51] (fun s10 s51 wr => ∃ j : Nat, j ≤ D.pend.length ∧ s51 = .int .i64 j ∧ Hid (wr.ownsRow w3.heap.size 3 1 s10 j (List.replicate j (.int .i64 D.size))) ∧ Below w3.heap.size w3 wr) (fun _ i _ => D.pend.length - (intOf i).toNat)
  case atStart => exact ⟨0, Nat.zero_le _, rfl, Lib.hid (World.ownsRow_lit w3 #[] 0 (Nat.le_refl _) (Nat.zero_le _) rfl), (Below.refl _ _).alloc (Nat.le_refl _) _⟩
  case round =>
    obtain ⟨j, hj, rfl, ho, hBr⟩ := hrel
    clear q0 q1 q2 q3 g0 g1 g2 g3 qlt
    have VR := Lib.hid (V9.out.below hBr V9.out.lt)
    obtain ⟨q0, q1, q2, q3, g0, g1, g2, g3, qlt⟩ := VR.out
    by_cases hlt : j < D.pend.length
    · clear VR
      go_wp2_with (at_builtin; refine wpList_append_own _ rfl _ _ 39 rfl w3.heap.size 3 i0 (.int .i64 0) 1 8 Try.underlying39 hi hz0 hz1 hz2 rfl (by decide) _ _ _ rfl (ho.out.alloc _) ⟨wr.heap.size, 0, none⟩ 1 1 [.int .i64 D.size] rfl rfl ?c1 ?c2 ?c3 ?c4 ?c5 ?_)
      case c1 => exact cell_one_new _ _ _
      case c2 => intro u hu; simp at hu; subst hu; rfl
      case c3 => unfold maxLen; omega
      case c4 => omega
      case c5 => have := hBr.size; simp; omega
      intro v' w1 hown' hgrow _
      have ho' : Hid (w1.ownsRow w3.heap.size 3 1 v' (j + 1) (List.replicate (j + 1) (.int .i64 D.size))) := Lib.hid (by rw [List.replicate_succ']; exact hown')
      have hB' := (hBr.alloc hBr.size (.cells #[.int .i64 D.size] 3)).grown hgrow (by have := hBr.size; simp; omega) (fun k hk => by have := (ho.out.lt k hk).1; omega)
      clear hown' hgrow q0 q1 q2 q3 g0 g1 g2 g3 qlt
      go_wp2
      go_roundw
      case rel => exact ⟨j + 1, by omega, by go_num, ho', hB'⟩
      case measure => simp [intOf]; omega
    · obtain rfl : j = D.pend.length := by omega
      have hall := Lib.hid (own_ints ho.out (by unfold maxLen; omega))
      have Bw := B9.trans (hBr.mono B9.size)
      clear ho hBr
      have d9 : IsDisk wr (dv D.size (.slice a0 D.secs.length cap) (.slice b0 D.pend.length cap2) (-1)) ⟨D.size, D.secs, D.pend, -1⟩ := by
        obtain ⟨vs, vp, e, f1, f2⟩ := hv0.out.below Bw (Nat.le_refl _)
        cases e
        exact ⟨_, _, rfl, f1, f2⟩
      have HD9 := Lib.hid d9
      clear d9
      go_wp2_with fail
      ((with_reducible refine (sync_ok _ okS.fit okS _ _ HD9.out (show (-1 : Int) ≠ 0 by decide) (show (-1 : Int) ≤ 9223372036854775807 by decide) (-1) (show lessI (-1) = -1 by decide) z HZ.out).mono ?_); rintro e wa ⟨va, rfl, fa, hba⟩)
      simp only at fa
      rw [E6.out] at fa
      have Fy := fa.free w.heap.size (w.heap.size + 1) VR.out.lt
      obtain ⟨_, _, rfl, ⟨aa, capa, rfl, _, _, _⟩, ⟨bb, capb, rfl, _, _, _⟩⟩ := fa.disk
      have Bz := Bw.trans (hba.mono Bw.size)
      have al := (Below.refl wa.heap.size wa).alloc (Nat.le_refl _) (.cells #[.int .i64 D6.size, .slice aa D6.secs.length capa, .slice bb D6.pend.length capb, .int .i64 D6.left] 26)
      have Bb := Bz.alloc Bz.size (.cells #[.int .i64 D6.size, .slice aa D6.secs.length capa, .slice bb D6.pend.length capb, .int .i64 D6.left] 26)
      have Xb := Lib.hid (Bx.fresh D6.size (.slice aa D6.secs.length capa) (.slice bb D6.pend.length capb) D6.left wa)
      have Vb := Lib.hid ((VR.out.below hba VR.out.lt).alloc (.cells #[.int .i64 D6.size, .slice aa D6.secs.length capa, .slice bb D6.pend.length capb, .int .i64 D6.left] 26))
      have Fb := Lib.hid (Fy.below al (Nat.le_refl _))
      have HDb := Lib.hid ((HD9.out.below hba (Nat.le_refl _)).below al (Nat.le_refl _))
      have HAb := Lib.hid ((hall.out.below hba (Nat.le_refl _)).below al (Nat.le_refl _))
      have lt1 : w.heap.size < wa.heap.size := (VR.out.below hba VR.out.lt).lt
      clear q0 q1 q2 q3 g0 g1 g2 g3 qlt hba al fa Fy HD9 hall VR Bz Bw
      go_upto_region 11 with fail
      generalize wa.alloc (.cells #[.int .i64 D6.size, .slice aa D6.secs.length capa, .slice bb D6.pend.length capb, .int .i64 D6.left] 26) = wb at Bb Vb Xb Fb HDb HAb ⊢
      have startD := Vb.out.drew
      have startY := Xb.out.drew
      have hD0 := Lib.hid (HDb.out.below (Below.refl wb.heap.size wb).drew (Nat.le_refl _))
      have hA0 := Lib.hid (HAb.out.below (Below.refl wb.heap.size wb).drew (Nat.le_refl _))
      have hF0 := Lib.hid (Fb.out.below (Below.refl wb.heap.size wb).drew (Nat.le_refl _))
      have Bd := Bb.drew
      clear Vb Xb HDb HAb Fb Bb
      have s8 : wb.drew.cell? ⟨w.heap.size, 0, none⟩ = some (.int .i64 D.size) ∧ wb.drew.cell? ⟨w.heap.size, 1, none⟩ = some (.slice a0 D.secs.length cap) ∧ wb.drew.cell? ⟨w.heap.size, 2, none⟩ = some (.slice b0 D.pend.length cap2) ∧ wb.drew.cell? ⟨w.heap.size, 3, none⟩ = some (.int .i64 (-1)) ∧ wb.drew.cell? ⟨wa.heap.size, 0, none⟩ = some (.int .i64 D6.size) ∧ wb.drew.cell? ⟨wa.heap.size, 1, none⟩ = some (.slice aa D6.secs.length capa) ∧ wb.drew.cell? ⟨wa.heap.size, 2, none⟩ = some (.slice bb D6.pend.length capb) ∧ wb.drew.cell? ⟨wa.heap.size, 3, none⟩ = some (.int .i64 D6.left) := ⟨startD.c0, startD.c1, startD.c2, startD.c3, startY.c0, startY.c1, startY.c2, startY.c3⟩
      go_region_held3 (fun V => V.cell? ⟨w.heap.size, 0, none⟩ = some (.int .i64 D.size) ∧ V.cell? ⟨w.heap.size, 1, none⟩ = some (.slice a0 D.secs.length cap) ∧ V.cell? ⟨w.heap.size, 2, none⟩ = some (.slice b0 D.pend.length cap2) ∧ V.cell? ⟨w.heap.size, 3, none⟩ = some (.int .i64 (-1)) ∧ V.cell? ⟨wa.heap.size, 0, none⟩ = some (.int .i64 D6.size) ∧ V.cell? ⟨wa.heap.size, 1, none⟩ = some (.slice aa D6.secs.length capa) ∧ V.cell? ⟨wa.heap.size, 2, none⟩ = some (.slice bb D6.pend.length capb) ∧ V.cell? ⟨wa.heap.size, 3, none⟩ = some (.int .i64 D6.left)) (first | with_reducible exact s8 | with_reducible exact ⟨hh.c0, hh.c1, hh.c2, hh.c3, hy.c0, hy.c1, hy.c2, hy.c3⟩)
        (first | (go_at_call 24; (with_reducible refine (cut_ok _ okS.fit okS (by show D.pend.length ≤ 100000; omega) _ _ (List.replicate D.pend.length D.size) _ hD0.out hA0.out).mono ?_); rintro e w7 ⟨v7, rfl, f7, hb7⟩; simp only at f7; rw [E7.out] at f7; have d7 := Lib.hid f7.disk; have hh := startD.below hb7 startD.lt; have hy := startY.below hb7 startY.lt; have y7 := Lib.hid (hF0.out.below hb7 (Nat.le_refl _)); have c7 := Lib.hid (hD0.out.below hb7 (Nat.le_refl _)); have B7 := Bd.trans (hb7.mono Bd.size); clear f7 hb7) | (go_at_call 14; (with_reducible refine (same_any D6 _ _ _ d7.out y7.out.disk).mono ?_); rintro e w8 ⟨rfl, hb8⟩; have hh := hh.below hb8 hh.lt; have hy := hy.below hb8 hy.lt; have B8 := B7.trans (hb8.mono B7.size); have y8 := Lib.hid (y7.out.below hb8 (Nat.le_refl _)); have c8 := Lib.hid (c7.out.below hb8 (Nat.le_refl _)); clear hb8))
      have HH := Lib.hid hh
      have HY := Lib.hid hy
      clear hh hy startD startY s8 hD0 hA0 hF0 Bd d7 y7 c7 B7
      have szA := HY.out.lt
      obtain ⟨q0, q1, q2, q3, g0, g1, g2, g3, qlt⟩ := HH.out
      go_wp2_with fail
      ((with_reducible refine (cut_ok _ okS.fit okS (by show D.pend.length ≤ 100000; omega) _ _ [] _ c8.out (isInts_nil _)).mono ?_); rintro e wc ⟨vc, rfl, fc, hbc⟩)
      simp only at fc
      rw [E8.out] at fc
      obtain ⟨_, _, rfl, ⟨ac, capc, rfl, _, _, _⟩, ⟨bc, capc', rfl, _, _, _⟩⟩ := fc.disk
      simp only [List.length_nil] at fc ⊢
      have alc := (Below.refl wc.heap.size wc).alloc (Nat.le_refl _) (.cells #[.int .i64 D.size, .slice ac D.secs.length capc, .slice bc 0 capc', .int .i64 (-1)] 26)
      have Bc := B8.trans (hbc.mono B8.size)
      have Be := Bc.alloc Bc.size (.cells #[.int .i64 D.size, .slice ac D.secs.length capc, .slice bc 0 capc', .int .i64 (-1)] 26)
      have Xe := Lib.hid (Bx.fresh D.size (.slice ac D.secs.length capc) (.slice bc 0 capc') (-1) wc)
      have Ve := Lib.hid ((HH.out.below hbc HH.out.lt).alloc (.cells #[.int .i64 D.size, .slice ac D.secs.length capc, .slice bc 0 capc', .int .i64 (-1)] 26))
      have Ye := Lib.hid ((HY.out.below hbc HY.out.lt).alloc (.cells #[.int .i64 D.size, .slice ac D.secs.length capc, .slice bc 0 capc', .int .i64 (-1)] 26))
      have Fe := Lib.hid ((y8.out.below hbc (Nat.le_refl _)).below alc (Nat.le_refl _))
      have Ce := Lib.hid ((fc.free w.heap.size (w.heap.size + 1) HH.out.lt).below alc (Nat.le_refl _))
      have lt2 : w.heap.size < wc.heap.size := (HH.out.below hbc HH.out.lt).lt
      have lt3 : wa.heap.size < wc.heap.size := (HY.out.below hbc HY.out.lt).lt
      clear q0 q1 q2 q3 g0 g1 g2 g3 qlt hbc alc fc HH HY B8 y8 c8 Bc szA
      go_upto_region 14 with fail
      generalize wc.alloc (.cells #[.int .i64 D.size, .slice ac D.secs.length capc, .slice bc 0 capc', .int .i64 (-1)] 26) = we at Be Ve Ye Xe Fe Ce ⊢
      obtain ⟨q0, q1, q2, q3, g0, g1, g2, g3, qlt⟩ := Ve.out
      go_upto_region 15 with fail
      have Bf := Be.setCell (p := ⟨w.heap.size, 2, none⟩) (Nat.le_refl _) (.slice none 0 0)
      have Vf := Lib.hid (Ve.out.setP (.slice none 0 0))
      have Yf := Lib.hid (Ye.out.other (M := w.heap.size) (by omega) 2 (.slice none 0 0))
      have Xf := Lib.hid (Xe.out.other (M := w.heap.size) (by omega) 2 (.slice none 0 0))
      have Ff := Lib.hid (Fe.out.set (N := w.heap.size) (Nat.le_refl _) (Nat.lt_succ_self _) 2 (.slice none 0 0))
      have Cf := Lib.hid (Ce.out.set (N := w.heap.size) (Nat.le_refl _) (Nat.lt_succ_self _) 2 (.slice none 0 0)).disk
      clear q0 q1 q2 q3 g0 g1 g2 g3 qlt Ve Ye Xe Fe Ce Be
      generalize we.setCell ⟨w.heap.size, 2, none⟩ (.slice none 0 0) = wf at Bf Vf Yf Xf Ff Cf ⊢
      have DE : Hid (IsDisk wf (dv D.size (.slice a0 D.secs.length cap) (.slice none 0 0) (-1)) ⟨D.size, D.secs, [], -1⟩) := Lib.hid ⟨_, _, rfl, HS.out.below Bf (Nat.le_refl _), isWs_nil _⟩
      obtain ⟨q0, q1, q2, q3, g0, g1, g2, g3, qlt⟩ := Vf.out
      obtain ⟨r0, r1, r2, r3, j0, j1, j2, j3, rlt⟩ := Xf.out
      go_wp2_with fail
      ((with_reducible refine (same_any ⟨D.size, D.secs, [], -1⟩ _ _ _ Cf.out DE.out).mono ?_); rintro e wg ⟨rfl, hbg⟩)
      have Bg := Bf.trans (hbg.mono Bf.size)
      have Vg := Lib.hid (Vf.out.below hbg Vf.out.lt)
      have Yg := Lib.hid (Yf.out.below hbg Yf.out.lt)
      have Fg := Lib.hid (Ff.out.below hbg (Nat.le_refl _))
      clear q0 q1 q2 q3 g0 g1 g2 g3 qlt r0 r1 r2 r3 j0 j1 j2 j3 rlt hbg Vf Yf Xf Ff Cf DE Bf
      obtain ⟨r0, r1, r2, r3, j0, j1, j2, j3, rlt⟩ := Yg.out
      go_wp2_with fail
      ((with_reducible refine (write_ok D6 ok6.fit ok6 _ _ Fg.out.disk _ x (by unfold maxLen; omega) c6 (by rw [F6.out]; decide) (by rw [F6.out]; decide) (by rw [P6.out]; simp) (-1) (by rw [F6.out]; decide)).mono ?_); rintro e wh ⟨vh, rfl, dh, _, hbh⟩)
      rw [E9.out] at dh
      obtain ⟨_, _, rfl, ⟨ah, caph, rfl, _, _, _⟩, ⟨bh, caph', rfl, _, _, _⟩⟩ := Lib.hid dh |>.out
      have alh := (Below.refl wh.heap.size wh).alloc (Nat.le_refl _) (.cells #[.int .i64 D9.size, .slice ah D9.secs.length caph, .slice bh D9.pend.length caph', .int .i64 D9.left] 26)
      have Bh := Bg.trans (hbh.mono Bg.size)
      have Bi := Bh.alloc Bh.size (.cells #[.int .i64 D9.size, .slice ah D9.secs.length caph, .slice bh D9.pend.length caph', .int .i64 D9.left] 26)
      have Xi := Lib.hid (Bx.fresh D9.size (.slice ah D9.secs.length caph) (.slice bh D9.pend.length caph') D9.left wh)
      have Vi := Lib.hid ((Vg.out.below hbh Vg.out.lt).alloc (.cells #[.int .i64 D9.size, .slice ah D9.secs.length caph, .slice bh D9.pend.length caph', .int .i64 D9.left] 26))
      have Yi := Lib.hid ((Yg.out.below hbh Yg.out.lt).alloc (.cells #[.int .i64 D9.size, .slice ah D9.secs.length caph, .slice bh D9.pend.length caph', .int .i64 D9.left] 26))
      have Fi := Lib.hid ((Fg.out.below hbh (Nat.le_refl _)).below alh (Nat.le_refl _)).disk
      have Di := Lib.hid (dh.below alh (Nat.le_refl _))
      clear r0 r1 r2 r3 j0 j1 j2 j3 rlt hbh alh dh Vg Yg Fg Bg Bh
      go_upto_region 18 with fail
      generalize wh.alloc (.cells #[.int .i64 D9.size, .slice ah D9.secs.length caph, .slice bh D9.pend.length caph', .int .i64 D9.left] 26) = wi at Bi Xi Vi Yi Fi Di ⊢
      have bp := isInts_built wi (wi.alloc (.cells #[.int .i64 p] 3)) p (Below.refl _ _)
      have alp := (Below.refl wi.heap.size wi).alloc (Nat.le_refl _) (.cells #[.int .i64 p] 3)
      have Bj := Bi.alloc Bi.size (.cells #[.int .i64 p] 3)
      have Dj := Lib.hid (Di.out.below alp (Nat.le_refl _))
      have Vj := Lib.hid (Vi.out.below alp Vi.out.lt)
      have Yj := Lib.hid (Yi.out.below alp Yi.out.lt)
      have Fj := Lib.hid (Fi.out.below alp (Nat.le_refl _))
      obtain ⟨r0, r1, r2, r3, j0, j1, j2, j3, rlt⟩ := Xi.out
      clear alp Di Vi Yi Fi Xi
      go_wp2_with fail
      ((with_reducible refine (cut_ok D9 ok9.fit ok9 p9 _ _ [p] _ Dj.out bp).mono ?_); rintro e wk ⟨vk, rfl, fk, hbk⟩)
      rw [E10.out] at fk
      have Bk := Bj.trans (hbk.mono Bj.size)
      have Vk := Lib.hid (Vj.out.below hbk Vj.out.lt)
      have Yk := Lib.hid (Yj.out.below hbk Yj.out.lt)
      have Fk := Lib.hid (Fj.out.below hbk (Nat.le_refl _))
      have Dk0 := Lib.hid fk.disk
      clear r0 r1 r2 r3 j0 j1 j2 j3 rlt hbk fk bp Dj Vj Yj Fj Bi Bj
      go_wp2_with fail
      ((with_reducible refine (read_good D10 ok10.fit ok10 _ _ Dk0.out _ k rfl k10 s R10.out).mono ?_); rintro e wl ⟨rfl, hbl⟩)
      have Bl := Bk.trans (hbl.mono Bk.size)
      have Vl := Lib.hid (Vk.out.below hbl Vk.out.lt)
      have Yl := Lib.hid (Yk.out.below hbl Yk.out.lt)
      have Fl := Lib.hid (Fk.out.below hbl (Nat.le_refl _))
      clear hbl Dk0 Vk Yk Fk Bk
      go_upto_region 19 with fail
      obtain ⟨_, _, ee, ⟨_, _, rfl, _, _, hcy⟩, _⟩ := Fl.out
      cases ee
      obtain ⟨b1, o1, rfl, hb1, hcell⟩ := hcy.resolve_left (by intro e; rw [e] at k6; simp at k6)
      have py := hcell k k6
      rw [YK.out] at py
      have PY := Lib.hid py
      have gk : ¬ (D6.secs.length : Int) ≤ (k : Int) := by omega
      have gs := GS.out
      have gy := GY.out
      have ys := YS.out
      have y40 : y.size ≤ 40 := by omega
      have s40' : s.size ≤ 40 := by have := SS.out; omega
      clear hcell ys
      obtain ⟨q0, q1, q2, q3, g0, g1, g2, g3, qlt⟩ := Vl.out
      obtain ⟨r0, r1, r2, r3, j0, j1, j2, j3, rlt⟩ := Yl.out
      go_quiet (fail)
      clear q0 q1 q2 q3 g0 g1 g2 g3 qlt r0 r1 r2 r3 j0 j1 j2 j3 rlt py gs gy
      have Bm := below_drewN Bl nq
      have Vm := Lib.hid (Vl.out.drewN nq)
      have Ym := Lib.hid (Yl.out.drewN nq)
      have PYm : Hid ((wl.drewN nq).cell? ⟨b1, o1 + k, none⟩ = some (.string y)) := Lib.hid PY.out
      have hbm : b1 < (wl.drewN nq).heap.size := hb1
      clear Bl Vl Yl Fl PY hb1
      generalize wl.drewN nq = wm at Bm Vm Ym PYm hbm ⊢
      obtain ⟨q0, q1, q2, q3, g0, g1, g2, g3, qlt⟩ := Vm.out
      go_wp2
      clear q0 q1 q2 q3 g0 g1 g2 g3 qlt
      go_loopw [18, 131] (fun _ s131 wr => ∃ j : Nat, j ≤ n ∧ s131 = .int .i64 j ∧ Below wm.heap.size wm wr) (fun _ i _ => n - (intOf i).toNat)
      case atStart => exact ⟨0, Nat.zero_le _, rfl, Below.refl _ _⟩
      case round =>
        obtain ⟨j, hj, rfl, hBr⟩ := hrel
        have Bn := Bm.trans (hBr.mono Bm.size)
        have hjs : (j : Int) < D.size + 1 := by have := HNE.out; omega
        have hjx : j ≤ x.size := by omega
        have hjy : j ≤ y.size := by have := YS.out; omega
        obtain ⟨r0, r1, r2, r3, j0, j1, j2, j3, rlt⟩ := Ym.out.below hBr Ym.out.lt
        have py := (hBr.cell (p := ⟨b1, o1 + k, none⟩) hbm).trans PYm.out
        obtain ⟨c, hc⟩ : ∃ c, (s.toList == (x.extract 0 j ++ y.extract j y.size).toList) = c := ⟨_, rfl⟩
        go_upto_region 24 with fail
        go_quiet (fail)
        clear r0 r1 r2 r3 j0 j1 j2 j3 rlt py hjx hjy hjs
        have HCC := Lib.hid hc
        clear hc
        have Bo := below_drewN Bn nq
        have Br := below_drewN hBr nq
        generalize wr.drewN nq = wo at Bo Br ⊢
        cases c with
        | true =>
          go_wp2_with fail
          ((with_reducible refine (awake_any _).mono ?_); rintro e wz ⟨rfl, hbz⟩)
          go_wp2
          go_ret
          exact ⟨rfl, Bo.trans (hbz.mono Bo.size)⟩
        | false =>
          have hjn : j ≠ n := by
            rintro rfl
            have := HCC.out
            rw [← HSE.out] at this
            simp [tear] at this
          go_wp2
          go_roundw
          case rel => exact ⟨j + 1, by omega, by go_num, Br⟩
          case measure => simp [intOf]; omega

theorem torn_any (D : Dk) (hf : D.Fit) (v : Value) (w : World) (hv : IsDisk w v D) (a : Nat) (ha : a < 256) (x : ByteArray) (hx : x.size ≤ maxLen) (p : Int) :
    Calls Try.prog 8 #[v, .int .u8 a, .string x, .int .i64 p] w fun e w' => e = .returned (.bool true) ∧ Below w.heap.size w w' := by
  by_cases hg : 12 < D.secs.length ∨ 12 < D.pend.length ∨ 40 < D.size
  · exact torn_out D hf v w hv a x hx p (.inl hg)
  by_cases h0 : chk D = 0
  · by_cases hz : (x.size : Int) = D.size
    · exact torn_main D hf ((chk_zero D).1 h0) v w hv (by omega) (by omega) (by omega) a ha x p hz
    · exact torn_out D hf v w hv a x hx p (.inr ⟨by omega, by omega, by omega, .inr ⟨h0, hz⟩⟩)
  · exact torn_out D hf v w hv a x hx p (.inr ⟨by omega, by omega, by omega, .inl h0⟩)

set_option maxRecDepth 100000 in
theorem torn_lifted (os : Os) (started : os.Started) (H : Type) (enc : TypeId × Value → H) :
    ReturnsInHanded {} Try.checked os 8 .any (Rows.diskTornSpec.pre6 enc Try.prog Try.f8 Rows.diskTornRow.domain false) (Rows.diskTornSpec.post enc Try.prog Try.f8 false true false false) := by
  refine returnsInHanded_of_change (C := Try.checked) ownK started (by kernel_rfl) Try.func8
    (ChangeSpec.witness6 (enc := enc) (C := Try.checked) false ⟨#[], #[dv 0 (.slice none 0 0) (.slice none 0 0) 0, .int .u8 0, .string ⟨#[]⟩, .int .i64 0], []⟩ 8 (by kernel_rfl) (by kernel_rfl) (by kernel_rfl) (by kernel_rfl)) ?_
  intro W base args ds gs before hval0 hW hcnd _
  have hval : ∀ (j : Nat) t v, Try.f8.params[j]? = some t → args[j]? = some v → Value.okWide Try.prog W .any base t v := hval0
  have hW' := hW
  obtain ⟨p, q, hA0, hV, rfl, hfz, hnd⟩ := hW
  have hA : DataW.TrodAll enc Try.prog W 0 (fun _ => true) true Try.f8.params.toList args.toList ds p := hA0
  rw [Try.params8] at hA hval
  obtain ⟨v0, v1, v2, v3, d0, d1, d2, d3, p0, p1, p2, p3, rfl, rfl, rfl, h0, h1, h2, h3⟩ := trodAll_four hA
  obtain ⟨rfl, rfl⟩ := trodVars_none hV
  have k0 := h0
  have lt0 : ∀ x ∈ p0, x.block < W.heap.size := by obtain ⟨m, hm⟩ := k0; exact DataW.trod_lt m _ _ _ hm
  obtain ⟨D, hv, hf, hl⟩ := open_disk (hval 0 26 v0 rfl rfl) h0
  obtain ⟨z1, rfl, rfl, rfl, w1⟩ := open_int Try.underlying5 (hval 1 5 v1 rfl rfl) h1
  obtain ⟨s, rfl, rfl, rfl, w2⟩ := open_string Try.underlying9 (hval 2 9 v2 rfl rfl) h2
  obtain ⟨z3, rfl, rfl, rfl, w3⟩ := open_int Try.underlying3 (hval 3 3 v3 rfl rfl) h3
  have b1 := u8_in w1
  obtain ⟨a, rfl⟩ := Int.eq_ofNat_of_zero_le b1.1
  clear hA0 hval0
  refine (torn_any D hf v0 W hv a (by omega) s (by omega) z3).mono fun e W' ⟨he, bel⟩ => ?_
  subst he
  exact ⟨_, rfl, _, _, _, [], _, [], hW', trodAll_mk1 (shut_bool Try.underlying4 _), (trodAll_cons_mk (Below.trod laidOut (by kernel_rfl) (of_decide_eq_true (by kernel_rfl)) k0 bel lt0) (trodAll_cons_mk (shut_int Try.underlying5 w1) (trodAll_cons_mk (shut_string Try.underlying9 w2) (trodAll_cons_mk (shut_int Try.underlying3 w3) trodAll_mk0)))), rfl, bel.frame _, fun h => by cases h⟩

theorem torn_holds : Rows.DiskTornSaid :=
  OpenClaim.holds_of_wide 8 Try.f8 rfl rfl rfl rfl rfl rfl rfl ⟨rfl, rfl, rfl, rfl, rfl⟩ rfl rfl rfl rfl rfl (by kernel_rfl) Try.func8 (by kernel_rfl)
    (of_decide_eq_true (by kernel_rfl)) (by unfold Func.isWrapper; rw [if_neg (of_decide_eq_false (by kernel_rfl))]; exact ⟨rfl, rfl⟩)
    (fun os started H enc _ => torn_lifted os started H enc)
#print axioms torn_holds
end Go.Proofs.Ytgdfdelggihceaa
