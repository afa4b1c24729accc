/- For every disk, sectors and data DiskReads returns true and leaves its arguments as they were: what was written last is read. No condition. -/
import Derived.Test.YtgdfdelggihceaaOpen
namespace Go.Proofs.Ytgdfdelggihceaa
open Go.ChangeShapes Go.WideShapes Go.ChangeAt Go.RowKit
open Go.ChangeMaps (open_string shut_string)

theorem ok_write {D : Dk} (h : D.Ok) {s : Int} {x : ByteArray} (hc : cw D s x = 0) {lf : Int} (hl : -1 ≤ lf) : (⟨D.size, D.secs, D.pend ++ [(s, x)], lf⟩ : Dk).Ok :=
  ⟨h.s1, h.s2, h.l1, h.l2, h.secs, fun p hp => by
    rcases List.mem_append.1 hp with hp | hp
    · exact h.pend p hp
    · simp at hp
      subst hp
      exact (cw_zero D s x).1 hc, hl⟩
theorem ok_settle {D : Dk} (h : D.Ok) {kept : Nat → Nat} (hk : ∀ j, (kept j : Int) ≤ D.size) {lf : Int} (hl : -1 ≤ lf) : (⟨D.size, settleL kept 0 D.pend D.secs, [], lf⟩ : Dk).Ok := by
  have z1 := h.s1
  refine ⟨h.s1, h.s2, by show 1 ≤ (settleL _ _ _ _).length; rw [settleL_length]; exact h.l1, by show (settleL _ _ _ _).length ≤ 1000; rw [settleL_length]; exact h.l2, fun x hx => ?_, fun p hp => by simp at hp, hl⟩
  have := settleL_size kept D.size.toNat (fun i => by have := hk i; omega) D.pend 0 D.secs (fun x hx => by have := h.secs x hx; omega) (fun p hp => by have := h.pend p hp; omega) x hx
  show (x.size : Int) = D.size
  omega
/-- What is read after everything was made durable. -/
theorem settled_at {D : Dk} (h : D.Ok) (z : Nat) (hz : (z : Int) = D.size) (j : Nat) (hj : j < D.secs.length) : (settleL (fun _ => z) 0 D.pend D.secs)[j]'(by rw [settleL_length]; exact hj) = curAt j D.secs[j] D.pend :=
  settle_all z D.pend 0 D.secs (fun x hx => by have := h.secs x hx; omega) (fun p hp => by have := h.pend p hp; omega) j hj

set_option maxRecDepth 100000 in
set_option maxHeartbeats 1000000 in
theorem reads_great (D : Dk) (v : Value) (w : World) (hv : IsDisk w v D) (h : 12 < D.secs.length ∨ 12 < D.pend.length ∨ 40 < D.size) (a c : Nat) (x : ByteArray) :
    Calls Try.prog 6 #[v, .int .u8 a, .int .u8 c, .string x] w fun e w' => e = .returned (.bool true) ∧ Below w.heap.size w w' := by
  have hv0 := Lib.hid hv
  have H := Lib.hid h
  clear h
  obtain ⟨_, _, rfl, ⟨a0, cap, rfl, _, _, _⟩, ⟨b0, cap2, rfl, _, _, _⟩⟩ := hv
  have hB := (Below.refl w.heap.size w).alloc (Nat.le_refl _) (.cells #[.int .i64 D.size, .slice a0 D.secs.length cap, .slice b0 D.pend.length cap2, .int .i64 D.left] 26)
  go_enter Try.func6, Try.ntmps6
  go_wp2_with fail
  ((with_reducible refine (great_yes D _ _ (hv0.out.below hB (Nat.le_refl _)) H.out).mono ?_); rintro e w1 ⟨rfl, hb1⟩)
  have B1 := hB.trans (hb1.mono hB.size)
  go_wp2_with fail
  ((with_reducible refine (awake_any _).mono ?_); rintro e w2 ⟨rfl, hb2⟩)
  go_wp2
  go_ret
  exact ⟨rfl, B1.trans (hb2.mono B1.size)⟩

set_option maxRecDepth 100000 in
set_option maxHeartbeats 2000000 in
theorem reads_out (D : Dk) (hf : D.Fit) (v : Value) (w : World) (hv : IsDisk w v D) (h1 : D.secs.length ≤ 12) (h2 : D.pend.length ≤ 12) (h3 : D.size ≤ 40) (a c : Nat) (x : ByteArray) (hx : x.size ≤ maxLen)
    (h : chk D ≠ 0 ∨ (chk D = 0 ∧ 60 < x.size) ∨ (chk D = 0 ∧ x.size ≤ 60 ∧ D.left = 0)) :
    Calls Try.prog 6 #[v, .int .u8 a, .int .u8 c, .string x] w fun e w' => e = .returned (.bool true) ∧ Below w.heap.size w w' := by
  have hv0 := Lib.hid hv
  obtain ⟨_, _, rfl, ⟨a0, cap, rfl, _, _, _⟩, ⟨b0, cap2, rfl, _, _, _⟩⟩ := hv
  have hB := (Below.refl w.heap.size w).alloc (Nat.le_refl _) (.cells #[.int .i64 D.size, .slice a0 D.secs.length cap, .slice b0 D.pend.length cap2, .int .i64 D.left] 26)
  have x0 := Bx.fresh D.size (.slice a0 D.secs.length cap) (.slice b0 D.pend.length cap2) D.left w
  unfold maxLen at hx
  have hx' : (x.size : Int) ≤ 9223372036854775807 := by omega
  rcases h with h | ⟨hc, h⟩ | ⟨hc, hs, h⟩
  · obtain ⟨r, hr⟩ : ∃ r, chk D = r := ⟨_, rfl⟩
    rw [hr] at h
    have hne : (r != 0) = true := by simpa using h
    have HR := Lib.hid hr
    clear hr h hx
    go_enter Try.func6, Try.ntmps6
    go_wp2_with fail
    ((with_reducible refine (great_no D _ _ (hv0.out.below hB (Nat.le_refl _)) h1 h2 h3).mono ?_); rintro e w1 ⟨rfl, hb1⟩)
    have B1 := hB.trans (hb1.mono hB.size)
    obtain ⟨q0, q1, q2, q3, g0, g1, g2, g3, qlt⟩ := x0.below hb1 x0.lt
    go_wp2_with fail
    ((with_reducible refine (check_any D hf _ _ (hv0.out.below B1 (Nat.le_refl _)) r HR.out).mono ?_); rintro e w2 ⟨rfl, hb2⟩)
    have B2 := B1.trans (hb2.mono B1.size)
    go_wp2_with fail
    ((with_reducible refine (awake_any _).mono ?_); rintro e w3 ⟨rfl, hb3⟩)
    go_wp2
    go_ret
    exact ⟨rfl, B2.trans (hb3.mono B2.size)⟩
  · have HC := Lib.hid hc
    have hp : (60 : Int) < x.size := by omega
    clear hc
    go_enter Try.func6, Try.ntmps6
    go_wp2_with fail
    ((with_reducible refine (great_no D _ _ (hv0.out.below hB (Nat.le_refl _)) h1 h2 h3).mono ?_); rintro e w1 ⟨rfl, hb1⟩)
    have B1 := hB.trans (hb1.mono hB.size)
    obtain ⟨q0, q1, q2, q3, g0, g1, g2, g3, qlt⟩ := x0.below hb1 x0.lt
    go_wp2_with fail
    ((with_reducible refine (check_any D hf _ _ (hv0.out.below B1 (Nat.le_refl _)) 0 HC.out).mono ?_); rintro e w2 ⟨rfl, hb2⟩)
    have B2 := B1.trans (hb2.mono B1.size)
    go_wp2_with fail
    ((with_reducible refine (awake_any _).mono ?_); rintro e w3 ⟨rfl, hb3⟩)
    go_wp2
    go_ret
    exact ⟨rfl, B2.trans (hb3.mono B2.size)⟩
  · have HC := Lib.hid hc
    have H0 := Lib.hid h
    have hp : ¬ (60 : Int) < x.size := by omega
    clear hc h
    go_enter Try.func6, Try.ntmps6
    go_wp2_with fail
    ((with_reducible refine (great_no D _ _ (hv0.out.below hB (Nat.le_refl _)) h1 h2 h3).mono ?_); rintro e w1 ⟨rfl, hb1⟩)
    have B1 := hB.trans (hb1.mono hB.size)
    have y0 := x0.below hb1 x0.lt
    have Y0 := Lib.hid y0
    obtain ⟨q0, q1, q2, q3, g0, g1, g2, g3, qlt⟩ := y0
    go_wp2_with fail
    ((with_reducible refine (check_any D hf _ _ (hv0.out.below B1 (Nat.le_refl _)) 0 HC.out).mono ?_); rintro e w2 ⟨rfl, hb2⟩)
    have B2 := B1.trans (hb2.mono B1.size)
    clear q0 q1 q2 q3 g0 g1 g2 g3 qlt
    obtain ⟨q0, q1, q2, q3, g0, g1, g2, g3, qlt⟩ := Y0.out.below hb2 Y0.out.lt
    rw [H0.out] at q3
    go_wp2_with fail
    ((with_reducible refine (awake_any _).mono ?_); rintro e w3 ⟨rfl, hb3⟩)
    go_wp2
    go_ret
    exact ⟨rfl, B2.trans (hb3.mono B2.size)⟩

theorem below_drewN {B : Nat} {w W : World} (h : Below B w W) (n : Nat) : Below B w (W.drewN n) := ⟨h.os, h.tape, h.output, h.size, h.block⟩
theorem Bx.drewN {N : Nat} {sz : Int} {vs vp : Value} {lf : Int} {W : World} (h : Bx N sz vs vp lf W) (n : Nat) : Bx N sz vs vp lf (W.drewN n) := ⟨h.c0, h.c1, h.c2, h.c3, h.f0, h.f1, h.f2, h.f3, h.lt⟩

set_option maxRecDepth 100000 in
set_option maxHeartbeats 4000000 in
theorem reads_bad (D : Dk) (hf : D.Fit) (hok : D.Ok) (v : Value) (w : World) (hv : IsDisk w v D) (h1 : D.secs.length ≤ 12) (h2 : D.pend.length ≤ 12) (h3 : D.size ≤ 40) (a c : Nat) (ha : a < 256) (hc : c < 256) (x : ByteArray) (hx : x.size ≤ 60) (hl : D.left ≠ 0) (hne : (x.size : Int) ≠ D.size) :
    Calls Try.prog 6 #[v, .int .u8 a, .int .u8 c, .string x] w fun e w' => e = .returned (.bool true) ∧ Below w.heap.size w w' := by
  have hv0 := Lib.hid hv
  obtain ⟨_, _, rfl, ⟨a0, cap, rfl, _, _, _⟩, ⟨b0, cap2, rfl, _, _, _⟩⟩ := hv
  have hB := (Below.refl w.heap.size w).alloc (Nat.le_refl _) (.cells #[.int .i64 D.size, .slice a0 D.secs.length cap, .slice b0 D.pend.length cap2, .int .i64 D.left] 26)
  have x0 := Bx.fresh D.size (.slice a0 D.secs.length cap) (.slice b0 D.pend.length cap2) D.left w
  have HC := Lib.hid ((chk_zero D).2 hok)
  have hp : ¬ (60 : Int) < x.size := by omega
  have hl0 : (D.left == 0) = false := by simpa using hl
  have hn1 := hok.l1
  have hn0 : ((D.secs.length : Int) == 0) = false := by simp; intro e; rw [e] at hn1; simp at hn1
  have hsz : (((x.size : Nat) : Int) == D.size) = false := by simpa using hne
  obtain ⟨k, hk⟩ : ∃ k, a % D.secs.length = k := ⟨_, rfl⟩
  obtain ⟨m, hm⟩ : ∃ m, c % D.secs.length = m := ⟨_, rfl⟩
  have hkl : k < D.secs.length := by rw [← hk]; exact Nat.mod_lt _ hn1
  have hml : m < D.secs.length := by rw [← hm]; exact Nat.mod_lt _ hn1
  have t1 : (a : Int).tmod (D.secs.length : Int) = (k : Int) := by rw [← hk]; exact (Int.ofNat_tmod a D.secs.length).symm
  have t2 : (c : Int).tmod (D.secs.length : Int) = (m : Int) := by rw [← hm]; exact (Int.ofNat_tmod c D.secs.length).symm
  have T1 := Lib.hid t1
  have T2 := Lib.hid t2
  have hcw : Hid (cw D k x = 11) := Lib.hid (by unfold cw; rw [if_neg (by omega), if_neg hne])
  clear hk hm t1 t2 hl hne
  go_enter Try.func6, Try.ntmps6
  go_wp2_with fail
  ((with_reducible refine (great_no D _ _ (hv0.out.below hB (Nat.le_refl _)) h1 h2 h3).mono ?_); rintro e w1 ⟨rfl, hb1⟩)
  have B1 := hB.trans (hb1.mono hB.size)
  have Y0 := Lib.hid (x0.below hb1 x0.lt)
  obtain ⟨q0, q1, q2, q3, g0, g1, g2, g3, qlt⟩ := Y0.out
  go_wp2_with fail
  ((with_reducible refine (check_any D hf _ _ (hv0.out.below B1 (Nat.le_refl _)) 0 HC.out).mono ?_); rintro e w2 ⟨rfl, hb2⟩)
  have B2 := B1.trans (hb2.mono B1.size)
  have Z0 := Lib.hid (Y0.out.below hb2 Y0.out.lt)
  clear q0 q1 q2 q3 g0 g1 g2 g3 qlt hb1 hb2 hB B1 Y0 x0
  obtain ⟨q0, q1, q2, q3, g0, g1, g2, g3, qlt⟩ := Z0.out
  go_upto_region 3 with fail
  have t1 := T1.out
  have t2 := T2.out
  go_quiet (fail)
  clear q0 q1 q2 q3 g0 g1 g2 g3 qlt t1 t2
  have B3 := below_drewN B2 nq
  have V0 := Lib.hid (Z0.out.drewN nq)
  generalize w2.drewN nq = w3 at B3 V0 ⊢
  obtain ⟨q0, q1, q2, q3, g0, g1, g2, g3, qlt⟩ := V0.out
  go_wp2_with fail
  ((with_reducible refine (read_good D hf hok _ _ (hv0.out.below B3 (Nat.le_refl _)) _ m rfl hml _ rfl).mono ?_); rintro e w4 ⟨rfl, hb4⟩)
  have B4 := B3.trans (hb4.mono B3.size)
  have V4 := Lib.hid (V0.out.below hb4 V0.out.lt)
  clear q0 q1 q2 q3 g0 g1 g2 g3 qlt hb4
  obtain ⟨q0, q1, q2, q3, g0, g1, g2, g3, qlt⟩ := V4.out
  go_wp2_with fail
  ((with_reducible refine (write_cw D hf hok _ _ (hv0.out.below B4 (Nat.le_refl _)) _ x (by unfold maxLen; omega) 11 hcw.out (by decide)).mono ?_); rintro e w5 ⟨v5, rfl, hz, _, hb5⟩)
  obtain ⟨_, _, rfl, ⟨a5, cap5, rfl, _, _, _⟩, ⟨b5, cap6, rfl, _, _, _⟩⟩ := hz
  have B5 := B4.trans (hb5.mono B4.size)
  have V5 := (V4.out.below hb5 V4.out.lt).alloc (.cells #[.int .i64 Dk.zero.size, .slice a5 Dk.zero.secs.length cap5, .slice b5 Dk.zero.pend.length cap6, .int .i64 Dk.zero.left] 26)
  have B6 := B5.alloc B5.size (.cells #[.int .i64 Dk.zero.size, .slice a5 Dk.zero.secs.length cap5, .slice b5 Dk.zero.pend.length cap6, .int .i64 Dk.zero.left] 26)
  clear q0 q1 q2 q3 g0 g1 g2 g3 qlt hb5
  obtain ⟨q0, q1, q2, q3, g0, g1, g2, g3, qlt⟩ := V5
  go_wp2_with fail
  ((with_reducible refine (awake_any _).mono ?_); rintro e w7 ⟨rfl, hb7⟩)
  go_wp2
  go_ret
  exact ⟨rfl, B6.trans (hb7.mono B6.size)⟩

set_option maxRecDepth 100000 in
set_option maxHeartbeats 8000000 in
theorem reads_main (D : Dk) (hf : D.Fit) (hok : D.Ok) (v : Value) (w : World) (hv : IsDisk w v D) (h1 : D.secs.length ≤ 12) (h2 : D.pend.length ≤ 12) (h3 : D.size ≤ 40) (a c : Nat) (ha : a < 256) (hc : c < 256) (x : ByteArray) (hx : x.size ≤ 60) (hl : D.left ≠ 0) (hhi : D.left ≤ 9223372036854775807) (hne : (x.size : Int) = D.size) :
    Calls Try.prog 6 #[v, .int .u8 a, .int .u8 c, .string x] w fun e w' => e = .returned (.bool true) ∧ Below w.heap.size w w' := by
  have hv0 := Lib.hid hv
  obtain ⟨_, _, rfl, ⟨a0, cap, rfl, _, _, _⟩, ⟨b0, cap2, rfl, _, _, _⟩⟩ := hv
  have hB := (Below.refl w.heap.size w).alloc (Nat.le_refl _) (.cells #[.int .i64 D.size, .slice a0 D.secs.length cap, .slice b0 D.pend.length cap2, .int .i64 D.left] 26)
  have x0 := Bx.fresh D.size (.slice a0 D.secs.length cap) (.slice b0 D.pend.length cap2) D.left w
  have HC := Lib.hid ((chk_zero D).2 hok)
  have hp : ¬ (60 : Int) < x.size := by omega
  have hl0 : (D.left == 0) = false := by simpa using hl
  have hn1 := hok.l1
  have hn0 : ((D.secs.length : Int) == 0) = false := by simp; intro e; rw [e] at hn1; simp at hn1
  have hsz : (((x.size : Nat) : Int) == D.size) = true := by simpa using hne
  obtain ⟨k, hk⟩ : ∃ k, a % D.secs.length = k := ⟨_, rfl⟩
  obtain ⟨m, hm⟩ : ∃ m, c % D.secs.length = m := ⟨_, rfl⟩
  have hkl : k < D.secs.length := by rw [← hk]; exact Nat.mod_lt _ hn1
  have hml : m < D.secs.length := by rw [← hm]; exact Nat.mod_lt _ hn1
  have t1 : (a : Int).tmod (D.secs.length : Int) = (k : Int) := by rw [← hk]; exact (Int.ofNat_tmod a D.secs.length).symm
  have t2 : (c : Int).tmod (D.secs.length : Int) = (m : Int) := by rw [← hm]; exact (Int.ofNat_tmod c D.secs.length).symm
  have T1 := Lib.hid t1
  have T2 := Lib.hid t2
  have hcw : Hid (cw D k x = 0) := Lib.hid (by unfold cw; rw [if_neg (by omega), if_pos hne])
  obtain ⟨lf, hlf⟩ : ∃ lf, lessI D.left = lf := ⟨_, rfl⟩
  have HLF := Lib.hid hlf
  have HL := Lib.hid hl
  -- the disk with the write, with Left -1, and what Sync makes of it
  obtain ⟨D2, hD2⟩ : ∃ D2 : Dk, (⟨D.size, D.secs, D.pend ++ [((k : Int), x)], lf⟩ : Dk) = D2 := ⟨_, rfl⟩
  obtain ⟨D3, hD3⟩ : ∃ D3 : Dk, (⟨D.size, D.secs, D.pend ++ [((k : Int), x)], -1⟩ : Dk) = D3 := ⟨_, rfl⟩
  have ok2 : D2.Ok := by rw [← hD2]; exact ok_write hok hcw.out (by rw [← hlf]; have := hok.left; unfold lessI; split <;> omega)
  have ok3 : D3.Ok := by rw [← hD3]; exact ok_write hok hcw.out (by omega)
  obtain ⟨z, hz⟩ : ∃ z : Nat, (z : Int) = D3.size := ⟨D3.size.toNat, by have := ok3.s1; omega⟩
  obtain ⟨D4, hD4⟩ : ∃ D4 : Dk, (⟨D3.size, settleL (fun _ => z) 0 D3.pend D3.secs, [], -1⟩ : Dk) = D4 := ⟨_, rfl⟩
  have ok4 : D4.Ok := by rw [← hD4]; exact ok_settle ok3 (fun _ => by rw [hz]; exact Int.le_refl _) (by omega)
  have k2 : k < D2.secs.length := by rw [← hD2]; exact hkl
  have m2 : m < D2.secs.length := by rw [← hD2]; exact hml
  have k3 : k < D3.secs.length := by rw [← hD3]; exact hkl
  have m3 : m < D3.secs.length := by rw [← hD3]; exact hml
  have k4 : k < D4.secs.length := by rw [← hD4]; show k < (settleL _ _ _ _).length; rw [settleL_length]; exact k3
  have m4 : m < D4.secs.length := by rw [← hD4]; show m < (settleL _ _ _ _).length; rw [settleL_length]; exact m3
  obtain ⟨old, hold⟩ : ∃ y, curAt m D.secs[m] D.pend = y := ⟨_, rfl⟩
  obtain ⟨t, ht⟩ : ∃ y, curAt m D2.secs[m] D2.pend = y := ⟨_, rfl⟩
  have r2 : curAt k D2.secs[k] D2.pend = x := by
    have : ∀ (E : Dk) (_ : (⟨D.size, D.secs, D.pend ++ [((k : Int), x)], lf⟩ : Dk) = E) (h : k < E.secs.length), curAt k E.secs[k] E.pend = x := by
      rintro E rfl h
      show curAt k _ (D.pend ++ [((k : Int), x)]) = x
      rw [curAt_snoc, if_pos rfl]
    exact this D2 hD2 k2
  have tm : (m = k → t = x) ∧ (m ≠ k → t = old) := by
    have : ∀ (E : Dk) (_ : (⟨D.size, D.secs, D.pend ++ [((k : Int), x)], lf⟩ : Dk) = E) (h : m < E.secs.length), curAt m E.secs[m] E.pend = if m = k then x else old := by
      rintro E rfl h
      show curAt m D.secs[m] (D.pend ++ [((k : Int), x)]) = _
      rw [curAt_snoc]
      by_cases e : m = k
      · rw [if_pos (by simp [e]), if_pos e]
      · rw [if_neg (by simp; omega), if_neg e, hold]
    have e := this D2 hD2 m2
    rw [ht] at e
    exact ⟨fun h => by rw [e, if_pos h], fun h => by rw [e, if_neg h]⟩
  have same : ∀ (j : Nat) (h2 : j < D2.secs.length) (h4 : j < D4.secs.length), curAt j D4.secs[j] D4.pend = curAt j D2.secs[j] D2.pend := by
    have key : ∀ (E3 E2 E4 : Dk) (_ : (⟨D.size, D.secs, D.pend ++ [((k : Int), x)], -1⟩ : Dk) = E3) (_ : (⟨D.size, D.secs, D.pend ++ [((k : Int), x)], lf⟩ : Dk) = E2) (_ : (⟨E3.size, settleL (fun _ => z) 0 E3.pend E3.secs, [], -1⟩ : Dk) = E4) (_ : E3.Ok) (_ : (z : Int) = E3.size) (j : Nat) (h2 : j < E2.secs.length) (h4 : j < E4.secs.length), curAt j E4.secs[j] E4.pend = curAt j E2.secs[j] E2.pend := by
      rintro E3 E2 E4 rfl rfl rfl o3 hz3 j j2 j4
      show (settleL (fun _ => z) 0 (D.pend ++ [((k : Int), x)]) D.secs)[j] = curAt j D.secs[j] (D.pend ++ [((k : Int), x)])
      exact settled_at o3 z hz3 j j2
    exact key D3 D2 D4 hD3 hD2 hD4 ok3 hz
  have r4 : curAt k D4.secs[k] D4.pend = x := (same k k2 k4).trans r2
  have q4 : curAt m D4.secs[m] D4.pend = t := (same m m2 m4).trans ht
  have e23 : ∀ W v, IsDisk W v D2 → ∀ vs vp, v = dv D2.size vs vp D2.left → IsDisk W (dv D3.size vs vp (-1)) D3 := by
    rw [← hD2, ← hD3]
    rintro W v ⟨vs, vp, e, i1, i2⟩ vs' vp' e'
    rw [e] at e'
    cases e'
    exact ⟨_, _, rfl, i1, i2⟩
  have sz3 : D3.size = D2.size := by rw [← hD2, ← hD3]
  have pl : D4.pend.length = 0 := by rw [← hD4]; rfl
  have lf3 : D3.left = -1 := by rw [← hD3]
  have HD2 := Lib.hid hD2
  have HD4 := Lib.hid hD4
  have HZ := Lib.hid hz
  have HOLD := Lib.hid hold
  have HT := Lib.hid ht
  have R2 := Lib.hid r2
  have TM := Lib.hid tm
  have R4 := Lib.hid r4
  have Q4 := Lib.hid q4
  have E23 := Lib.hid e23
  have SZ3 := Lib.hid sz3
  have PL := Lib.hid pl
  have LF3 := Lib.hid lf3
  clear hk hm t1 t2 hl hne hlf hD2 hD3 hD4 hz hold ht r2 tm r4 q4 e23 sz3 pl lf3 same
  go_enter Try.func6, Try.ntmps6
  go_wp2_with fail
  ((with_reducible refine (great_no D _ _ (hv0.out.below hB (Nat.le_refl _)) h1 h2 h3).mono ?_); rintro e w1 ⟨rfl, hb1⟩)
  have B1 := hB.trans (hb1.mono hB.size)
  have Y0 := Lib.hid (x0.below hb1 x0.lt)
  obtain ⟨q0, q1, q2, q3, g0, g1, g2, g3, qlt⟩ := Y0.out
  go_wp2_with fail
  ((with_reducible refine (check_any D hf _ _ (hv0.out.below B1 (Nat.le_refl _)) 0 HC.out).mono ?_); rintro e w2 ⟨rfl, hb2⟩)
  have B2 := B1.trans (hb2.mono B1.size)
  have Z0 := Lib.hid (Y0.out.below hb2 Y0.out.lt)
  clear q0 q1 q2 q3 g0 g1 g2 g3 qlt hb1 hb2 hB B1 Y0 x0
  obtain ⟨q0, q1, q2, q3, g0, g1, g2, g3, qlt⟩ := Z0.out
  go_upto_region 3 with fail
  have t1 := T1.out
  have t2 := T2.out
  go_quiet (fail)
  clear q0 q1 q2 q3 g0 g1 g2 g3 qlt t1 t2
  have B3 := below_drewN B2 nq
  have V0 := Lib.hid (Z0.out.drewN nq)
  generalize w2.drewN nq = w3 at B3 V0 ⊢
  obtain ⟨q0, q1, q2, q3, g0, g1, g2, g3, qlt⟩ := V0.out
  go_wp2_with fail
  ((with_reducible refine (read_good D hf hok _ _ (hv0.out.below B3 (Nat.le_refl _)) _ m rfl hml old HOLD.out).mono ?_); rintro e w4 ⟨rfl, hb4⟩)
  have B4 := B3.trans (hb4.mono B3.size)
  have V4 := Lib.hid (V0.out.below hb4 V0.out.lt)
  clear q0 q1 q2 q3 g0 g1 g2 g3 qlt hb4 V0 B3
  obtain ⟨q0, q1, q2, q3, g0, g1, g2, g3, qlt⟩ := V4.out
  go_wp2_with fail
  ((with_reducible refine (write_ok D hf hok _ _ (hv0.out.below B4 (Nat.le_refl _)) _ x (by unfold maxLen; omega) hcw.out HL.out hhi (by omega) lf HLF.out).mono ?_); rintro e w5 ⟨v5, rfl, d5, _, hb5⟩)
  rw [HD2.out] at d5
  have B5 := B4.trans (hb5.mono B4.size)
  have V5 := V4.out.below hb5 V4.out.lt
  have F5 := free_old d5 (w5.heap.size + 1)
  have D5 := Lib.hid d5
  obtain ⟨_, _, rfl, ⟨a5, cap5, rfl, _, _, _⟩, ⟨b5, cap6, rfl, _, _, _⟩⟩ := d5
  have B6 := B5.alloc B5.size (.cells #[.int .i64 D2.size, .slice a5 D2.secs.length cap5, .slice b5 D2.pend.length cap6, .int .i64 D2.left] 26)
  have V6 := V5.alloc (.cells #[.int .i64 D2.size, .slice a5 D2.secs.length cap5, .slice b5 D2.pend.length cap6, .int .i64 D2.left] 26)
  have X6 := Lib.hid (Bx.fresh D2.size (.slice a5 D2.secs.length cap5) (.slice b5 D2.pend.length cap6) D2.left w5)
  have Ba := (Below.refl w5.heap.size w5).alloc (Nat.le_refl _) (.cells #[.int .i64 D2.size, .slice a5 D2.secs.length cap5, .slice b5 D2.pend.length cap6, .int .i64 D2.left] 26)
  have F6 := Lib.hid (F5.below Ba (Nat.le_refl _))
  have lt5 := V5.lt
  have sB5 := B5.size
  clear q0 q1 q2 q3 g0 g1 g2 g3 qlt hb5 V4 V5 F5 Ba B4
  obtain ⟨q0, q1, q2, q3, g0, g1, g2, g3, qlt⟩ := V6
  obtain ⟨r0, r1, r2, r3, k0', k1', k2', k3', rlt⟩ := X6.out
  go_wp2_with fail
  ((with_reducible refine (read_good D2 ok2.fit ok2 _ _ F6.out.disk _ k rfl k2 x R2.out).mono ?_); rintro e w7 ⟨rfl, hb7⟩)
  have B7 := B6.trans (hb7.mono B6.size)
  have X7 := Lib.hid (X6.out.below hb7 X6.out.lt)
  have F7 := Lib.hid (F6.out.below hb7 (Nat.le_refl _))
  clear q0 q1 q2 q3 g0 g1 g2 g3 qlt r0 r1 r2 r3 k0' k1' k2' k3' rlt hb7 X6 F6 B6
  obtain ⟨r0, r1, r2, r3, k0', k1', k2', k3', rlt⟩ := X7.out
  go_wp2_with fail
  ((with_reducible refine (read_good D2 ok2.fit ok2 _ _ F7.out.disk _ m rfl m2 t HT.out).mono ?_); rintro e w8 ⟨rfl, hb8⟩)
  have B8 := B7.trans (hb8.mono B7.size)
  have X8 := Lib.hid (X7.out.below hb8 X7.out.lt)
  have F8 := Lib.hid (F7.out.below hb8 (Nat.le_refl _))
  clear r0 r1 r2 r3 k0' k1' k2' k3' rlt hb8 X7 F7 B7
  obtain ⟨r0, r1, r2, r3, k0', k1', k2', k3', rlt⟩ := X8.out
  have hmk : (((m : Nat) : Int) != ((k : Nat) : Int)) = false ∨ ((((m : Nat) : Int) != ((k : Nat) : Int)) = true ∧ t = old) := by
    by_cases e : m = k
    · exact .inl (by simp [e])
    · exact .inr ⟨by simp; omega, TM.out.2 e⟩
  rcases hmk with hmk | ⟨hmk, rfl⟩
  all_goals
    go_upto_region 15 with fail
    have F9 := Lib.hid (F8.out.set (N := w5.heap.size) (Nat.le_refl _) (Nat.lt_succ_self _) 3 (.int .i64 (-1)))
    have B9 := B8.setCell (p := ⟨w5.heap.size, 3, none⟩) sB5 (.int .i64 (-1))
    have X9 := X8.out.setL (-1)
    clear r0 r1 r2 r3 k0' k1' k2' k3' rlt X8 F8 B8
    generalize w8.setCell ⟨w5.heap.size, 3, none⟩ (.int .i64 (-1)) = w9 at F9 B9 X9 ⊢
    obtain ⟨r0, r1, r2, r3, k0', k1', k2', k3', rlt⟩ := X9
    have d9 := E23.out _ _ F9.out.disk _ _ rfl
    rw [SZ3.out] at d9
    go_wp2_with fail
    ((with_reducible refine (sync_ok D3 ok3.fit ok3 _ _ d9 (by rw [LF3.out]; decide) (by rw [LF3.out]; decide) (-1) (by rw [LF3.out]; decide) z HZ.out).mono ?_); rintro e wa ⟨va, rfl, fa, hba⟩)
    rw [HD4.out] at fa
    have da := Lib.hid fa.disk
    obtain ⟨_, _, rfl, ⟨aa, capa, rfl, _, _, _⟩, ⟨bb, capb, rfl, _, _, _⟩⟩ := fa.disk
    have Bz := B9.trans (hba.mono B9.size)
    have Bb := Bz.alloc Bz.size (.cells #[.int .i64 D4.size, .slice aa D4.secs.length capa, .slice bb D4.pend.length capb, .int .i64 D4.left] 26)
    have Xb := Lib.hid (Bx.fresh D4.size (.slice aa D4.secs.length capa) (.slice bb D4.pend.length capb) D4.left wa)
    have db := Lib.hid (da.out.below ((Below.refl wa.heap.size wa).alloc (Nat.le_refl _) (.cells #[.int .i64 D4.size, .slice aa D4.secs.length capa, .slice bb D4.pend.length capb, .int .i64 D4.left] 26)) (Nat.le_refl _))
    clear r0 r1 r2 r3 k0' k1' k2' k3' rlt hba da fa F9 d9
    obtain ⟨r0, r1, r2, r3, k0', k1', k2', k3', rlt⟩ := Xb.out
    go_wp2_with fail
    ((with_reducible refine (read_good D4 ok4.fit ok4 _ _ db.out _ k rfl k4 x R4.out).mono ?_); rintro e wc ⟨rfl, hbc⟩)
    have Bc := Bb.trans (hbc.mono Bb.size)
    have Xc := Lib.hid (Xb.out.below hbc Xb.out.lt)
    have dc := Lib.hid (db.out.below hbc (Nat.le_refl _))
    clear r0 r1 r2 r3 k0' k1' k2' k3' rlt hbc Xb db Bb
    obtain ⟨r0, r1, r2, r3, k0', k1', k2', k3', rlt⟩ := Xc.out
    go_wp2_with fail
    ((with_reducible refine (read_good D4 ok4.fit ok4 _ _ dc.out _ m rfl m4 _ Q4.out).mono ?_); rintro e wd ⟨rfl, hbd⟩)
    have Bd := Bc.trans (hbd.mono Bc.size)
    have Xd := Xc.out.below hbd Xc.out.lt
    clear r0 r1 r2 r3 k0' k1' k2' k3' rlt hbd Xc dc Bc
    obtain ⟨r0, r1, r2, r3, k0', k1', k2', k3', rlt⟩ := Xd
    rw [PL.out] at r2
    go_wp2_with fail
    ((with_reducible refine (awake_any _).mono ?_); rintro e we ⟨rfl, hbe⟩)
    go_wp2
    go_ret
    exact ⟨rfl, Bd.trans (hbe.mono Bd.size)⟩

theorem reads_any (D : Dk) (hf : D.Fit) (hhi : D.left ≤ 9223372036854775807) (v : Value) (w : World) (hv : IsDisk w v D) (a c : Nat) (ha : a < 256) (hc : c < 256) (x : ByteArray) (hx : x.size ≤ maxLen) :
    Calls Try.prog 6 #[v, .int .u8 a, .int .u8 c, .string x] w fun e w' => e = .returned (.bool true) ∧ Below w.heap.size w w' := by
  by_cases hg : 12 < D.secs.length ∨ 12 < D.pend.length ∨ 40 < D.size
  · exact reads_great D v w hv hg a c x
  by_cases h0 : chk D = 0
  · by_cases hs : 60 < x.size
    · exact reads_out D hf v w hv (by omega) (by omega) (by omega) a c x hx (.inr (.inl ⟨h0, hs⟩))
    · by_cases hl : D.left = 0
      · exact reads_out D hf v w hv (by omega) (by omega) (by omega) a c x hx (.inr (.inr ⟨h0, by omega, hl⟩))
      · by_cases hz : (x.size : Int) = D.size
        · exact reads_main D hf ((chk_zero D).1 h0) v w hv (by omega) (by omega) (by omega) a c ha hc x (by omega) hl hhi hz
        · exact reads_bad D hf ((chk_zero D).1 h0) v w hv (by omega) (by omega) (by omega) a c ha hc x (by omega) hl hz
  · exact reads_out D hf v w hv (by omega) (by omega) (by omega) a c x hx (.inl h0)

set_option maxRecDepth 100000 in
theorem reads_lifted (os : Os) (started : os.Started) (H : Type) (enc : TypeId × Value → H) :
    ReturnsInHanded {} Try.checked os 6 .any (Rows.diskReadsSpec.pre6 enc Try.prog Try.f6 Rows.diskReadsRow.domain false) (Rows.diskReadsSpec.post enc Try.prog Try.f6 false true false false) := by
  refine returnsInHanded_of_change (C := Try.checked) ownK started (by kernel_rfl) Try.func6
    (ChangeSpec.witness6 (enc := enc) (C := Try.checked) false ⟨#[], #[dv 0 (.slice none 0 0) (.slice none 0 0) 0, .int .u8 0, .int .u8 0, .string ⟨#[]⟩], []⟩ 8 (by kernel_rfl) (by kernel_rfl) (by kernel_rfl) (by kernel_rfl)) ?_
  intro W base args ds gs before hval0 hW hcnd _
  have hval : ∀ (j : Nat) t v, Try.f6.params[j]? = some t → args[j]? = some v → Value.okWide Try.prog W .any base t v := hval0
  have hW' := hW
  obtain ⟨p, q, hA0, hV, rfl, hfz, hnd⟩ := hW
  have hA : DataW.TrodAll enc Try.prog W 0 (fun _ => true) true Try.f6.params.toList args.toList ds p := hA0
  rw [Try.params6] at hA hval
  obtain ⟨v0, v1, v2, v3, d0, d1, d2, d3, p0, p1, p2, p3, rfl, rfl, rfl, h0, h1, h2, h3⟩ := trodAll_four hA
  obtain ⟨rfl, rfl⟩ := trodVars_none hV
  have k0 := h0
  have lt0 : ∀ x ∈ p0, x.block < W.heap.size := by obtain ⟨m, hm⟩ := k0; exact DataW.trod_lt m _ _ _ hm
  obtain ⟨D, hv, hf, hl⟩ := open_disk (hval 0 26 v0 rfl rfl) h0
  obtain ⟨z1, rfl, rfl, rfl, w1⟩ := open_int Try.underlying5 (hval 1 5 v1 rfl rfl) h1
  obtain ⟨z2, rfl, rfl, rfl, w2⟩ := open_int Try.underlying5 (hval 2 5 v2 rfl rfl) h2
  obtain ⟨s, rfl, rfl, rfl, w3⟩ := open_string Try.underlying9 (hval 3 9 v3 rfl rfl) h3
  have b1 := u8_in w1
  have b2 := u8_in w2
  obtain ⟨a, rfl⟩ := Int.eq_ofNat_of_zero_le b1.1
  obtain ⟨c, rfl⟩ := Int.eq_ofNat_of_zero_le b2.1
  clear hA0 hval0
  refine (reads_any D hf hl v0 W hv a c (by omega) (by omega) s (by omega)).mono fun e W' ⟨he, bel⟩ => ?_
  subst he
  exact ⟨_, rfl, _, _, _, [], _, [], hW', trodAll_mk1 (shut_bool Try.underlying4 _), (trodAll_cons_mk (Below.trod laidOut (by kernel_rfl) (of_decide_eq_true (by kernel_rfl)) k0 bel lt0) (trodAll_cons_mk (shut_int Try.underlying5 w1) (trodAll_cons_mk (shut_int Try.underlying5 w2) (trodAll_cons_mk (shut_string Try.underlying9 w3) trodAll_mk0)))), rfl, bel.frame _, fun h => by cases h⟩

theorem reads_holds : Rows.DiskReadsSaid :=
  OpenClaim.holds_of_wide 6 Try.f6 rfl rfl rfl rfl rfl rfl rfl ⟨rfl, rfl, rfl, rfl, rfl⟩ rfl rfl rfl rfl rfl (by kernel_rfl) Try.func6 (by kernel_rfl)
    (of_decide_eq_true (by kernel_rfl)) (by unfold Func.isWrapper; rw [if_neg (of_decide_eq_false (by kernel_rfl))]; exact ⟨rfl, rfl⟩)
    (fun os started H enc _ => reads_lifted os started H enc)
#print axioms reads_holds
end Go.Proofs.Ytgdfdelggihceaa
