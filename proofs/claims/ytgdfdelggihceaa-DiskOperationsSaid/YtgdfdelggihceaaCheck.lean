/- Check, checkWrite, power, Clip and Great, at this translation. -/
import Derived.Test.YtgdfdelggihceaaWords
namespace Go.Proofs.Ytgdfdelggihceaa
open Go.RowKit

theorem maxLen_i : (maxLen : Int) = 9223372036854775807 := by simp [maxLen]

set_option maxHeartbeats 1000000 in
theorem cw_any (D : Dk) (a b : Option Addr) (cap cap2 : Nat) (s : Int) (x : ByteArray) (_hx : x.size ≤ maxLen) (_hn : D.secs.length ≤ maxLen) (r : Int) (hr : cw D s x = r) (w : World) :
    Calls Try.prog 33 #[dv D.size (.slice a D.secs.length cap) (.slice b D.pend.length cap2) D.left, .agg #[.int .i64 s, .string x]] w fun e w' => e = .returned (.int .i64 r) ∧ Below w.heap.size w w' := by
  have hB := ((Below.refl w.heap.size w).alloc (Nat.le_refl _) (.cells #[.int .i64 D.size, .slice a D.secs.length cap, .slice b D.pend.length cap2, .int .i64 D.left] 26)).alloc (by simp) (.cells #[.int .i64 s, .string x] 44)
  unfold maxLen at _hx _hn
  unfold cw at hr
  by_cases h1 : s < 0
  · rw [if_pos (.inl h1)] at hr
    subst hr
    go_enter Try.func33, Try.ntmps33
    go_wp2
    go_ret
    exact ⟨rfl, hB⟩
  by_cases h2 : (D.secs.length : Int) ≤ s
  · rw [if_pos (.inr h2)] at hr
    subst hr
    go_enter Try.func33, Try.ntmps33
    go_wp2
    go_ret
    exact ⟨rfl, hB⟩
  rw [if_neg (by omega)] at hr
  by_cases h3 : (x.size : Int) = D.size
  · rw [if_pos h3] at hr
    have t3 : (((x.size : Nat) : Int) != D.size) = false := by simp [h3]
    clear h3
    subst hr
    go_enter Try.func33, Try.ntmps33
    go_wp2
    go_ret
    exact ⟨rfl, hB⟩
  · rw [if_neg h3] at hr
    have t3 : (((x.size : Nat) : Int) != D.size) = true := by simp [h3]
    clear h3
    subst hr
    go_enter Try.func33, Try.ntmps33
    go_wp2
    go_ret
    exact ⟨rfl, hB⟩

set_option maxHeartbeats 2000000 in
theorem check_range (D : Dk) (a b : Option Addr) (cap cap2 : Nat) (hn : D.secs.length ≤ maxLen) (h : D.size < 1 ∨ 512 < D.size ∨ D.secs.length < 1 ∨ 1000 < D.secs.length) (w : World) :
    Calls Try.prog 22 #[dv D.size (.slice a D.secs.length cap) (.slice b D.pend.length cap2) D.left] w fun e w' => e = .returned (.int .i64 2) ∧ Below w.heap.size w w' := by
  have hB := (Below.refl w.heap.size w).alloc (Nat.le_refl _) (.cells #[.int .i64 D.size, .slice a D.secs.length cap, .slice b D.pend.length cap2, .int .i64 D.left] 26)
  unfold maxLen at hn
  by_cases h1 : D.size < 1
  · clear h
    go_enter Try.func22, Try.ntmps22
    go_wp2
    go_ret
    exact ⟨rfl, hB⟩
  by_cases h2 : 512 < D.size
  · clear h
    go_enter Try.func22, Try.ntmps22
    go_wp2
    go_ret
    exact ⟨rfl, hB⟩
  by_cases h3 : (D.secs.length : Int) < 1
  · clear h
    go_enter Try.func22, Try.ntmps22
    go_wp2
    go_ret
    exact ⟨rfl, hB⟩
  have h4 : 1000 < (D.secs.length : Int) := by omega
  clear h
  go_enter Try.func22, Try.ntmps22
  go_wp2
  go_ret
  exact ⟨rfl, hB⟩

set_option maxHeartbeats 2000000 in
theorem check_loops (D : Dk) (vs vp : Value) (hs : ∀ x ∈ D.secs, x.size ≤ maxLen) (hp : ∀ p ∈ D.pend, p.2.size ≤ maxLen) (s1 : ¬ D.size < 1) (s2 : ¬ 512 < D.size) (l1 : ¬ D.secs.length < 1) (l2 : ¬ 1000 < D.secs.length)
    (r : Int) (hr : chkS D D.secs = r) (w : World) (i1 : IsStrs w vs D.secs) (i2 : IsWs w vp D.pend) :
    Calls Try.prog 22 #[dv D.size vs vp D.left] w fun e w' => e = .returned (.int .i64 r) ∧ Below w.heap.size w w' := by
  obtain ⟨a, cap, rfl, hn, hcap, hc⟩ := i1
  obtain ⟨b, cap2, rfl, hm, hcap2, hc2⟩ := i2
  unfold maxLen at hn hm
  have b0 := Bx.fresh D.size (.slice a D.secs.length cap) (.slice b D.pend.length cap2) D.left w
  have hB := (Below.refl w.heap.size w).alloc (Nat.le_refl _) (.cells #[.int .i64 D.size, .slice a D.secs.length cap, .slice b D.pend.length cap2, .int .i64 D.left] 26)
  have s1' : ¬ D.size < 1 := s1
  have l1' : ¬ (D.secs.length : Int) < 1 := by omega
  have l2' : ¬ 1000 < (D.secs.length : Int) := by omega
  have HC := Lib.hid hc
  have HC2 := Lib.hid hc2
  have HS := Lib.hid hs
  have HP := Lib.hid hp
  have HR := Lib.hid hr
  have B0 := Lib.hid b0
  clear hc hc2 hs hp hr b0 l1 l2
  go_enter Try.func22, Try.ntmps22
  go_wp2
  go_loop [31] (fun s31 => ∃ j : Nat, j ≤ D.secs.length ∧ s31 = .int .i64 j ∧ Hid (chkS D (D.secs.drop j) = r)) (fun i => D.secs.length - (intOf i).toNat)
  case atStart => exact ⟨0, Nat.zero_le _, rfl, HR⟩
  case round =>
    obtain ⟨j, hj, rfl, hrr⟩ := hrel
    by_cases hlt : j < D.secs.length
    · obtain ⟨b1, o1, rfl, hb1, hcell⟩ := HC.out.resolve_left (by intro e; rw [e] at hlt; simp at hlt)
      have p0 := (hB.cell (p := ⟨b1, o1 + j, none⟩) hb1).trans (hcell j hlt)
      have hR := hrr.out
      rw [List.drop_eq_getElem_cons hlt, chkS] at hR
      have hx := HS.out _ (List.getElem_mem hlt)
      unfold maxLen at hx
      generalize D.secs[j] = x at p0 hR hx
      by_cases h3 : (x.size : Int) = D.size
      · rw [if_pos h3] at hR
        have t3 : (((x.size : Nat) : Int) != D.size) = false := by simp [h3]
        have HR2 := Lib.hid hR
        clear h3 hR hrr hcell
        go_wp2
        go_round
        case rel => exact ⟨j + 1, by omega, by go_num, HR2⟩
        case measure => simp [intOf]; omega
      · rw [if_neg h3] at hR
        have t3 : (((x.size : Nat) : Int) != D.size) = true := by simp [h3]
        clear h3 hrr hcell
        subst hR
        go_wp2
        go_ret
        exact ⟨rfl, hB⟩
    · have hR := hrr.out
      rw [List.drop_eq_nil_of_le (by omega), chkS] at hR
      have HR2 := Lib.hid hR
      clear hR hrr
      go_wp2
      go_loopw [44] (fun s44 wr => ∃ j : Nat, j ≤ D.pend.length ∧ s44 = .int .i64 j ∧ Hid (chkP D (D.pend.drop j) = r) ∧ Hid (Bx w.heap.size D.size (.slice a D.secs.length cap) (.slice b D.pend.length cap2) D.left wr) ∧ Below w.heap.size w wr) (fun i _ => D.pend.length - (intOf i).toNat)
      case atStart => exact ⟨0, Nat.zero_le _, rfl, HR2, B0, hB⟩
      case round =>
        obtain ⟨k, hk, rfl, hrr, hbx, hBr⟩ := hrel
        obtain ⟨q0, q1, q2, q3, g0, g1, g2, g3, qlt⟩ := hbx.out
        by_cases hlt2 : k < D.pend.length
        · obtain ⟨b1, o1, rfl, hb1, hcell⟩ := HC2.out.resolve_left (by intro e; rw [e] at hlt2; simp at hlt2)
          obtain ⟨hc1, hc2⟩ := hcell k hlt2
          have p0 := (hBr.cell (p := ⟨b1, o1 + k * 2, none⟩) hb1).trans hc1
          have p1 := (hBr.cell (p := ⟨b1, o1 + k * 2 + 1, none⟩) hb1).trans hc2
          have hR := hrr.out
          rw [List.drop_eq_getElem_cons hlt2, chkP] at hR
          have hx := HP.out _ (List.getElem_mem hlt2)
          generalize D.pend[k] = p at p0 p1 hR hx
          obtain ⟨s, x⟩ := p
          simp only at p0 p1 hR hx
          obtain ⟨c, hcw⟩ : ∃ c, cw D s x = c := ⟨_, rfl⟩
          rw [hcw] at hR
          have HX := Lib.hid hx
          have HCW := Lib.hid hcw
          clear hcell hc1 hc2 hrr hx hcw
          have hBa := hBr.alloc hBr.size (.cells #[.int .i64 s, .string x] 44)
          by_cases h0 : c = 0
          · rw [if_pos h0] at hR
            have HR3 := Lib.hid hR
            subst h0
            clear hR
            go_wp2_with fail
            ((with_reducible refine (cw_any D _ _ _ _ s x HX.out (by unfold maxLen; omega) 0 HCW.out _).mono ?_); rintro e w1 ⟨rfl, hb1'⟩)
            go_wp2
            go_roundw
            case rel => exact ⟨k + 1, by omega, by go_num, HR3, Lib.hid ((hbx.out.alloc _).below hb1' (by simp; omega)), hBa.trans (hb1'.mono hBa.size)⟩
            case measure => simp [intOf]; omega
          · rw [if_neg h0] at hR
            have hne : (c != 0) = true := by simpa using h0
            subst hR
            clear h0
            go_wp2_with fail
            ((with_reducible refine (cw_any D _ _ _ _ s x HX.out (by unfold maxLen; omega) c HCW.out _).mono ?_); rintro e w1 ⟨rfl, hb1'⟩)
            go_wp2
            go_ret
            exact ⟨rfl, hBa.trans (hb1'.mono hBa.size)⟩
        · have hR := hrr.out
          rw [List.drop_eq_nil_of_le (by omega), chkP] at hR
          clear hrr
          by_cases hl : D.left < -1
          · rw [if_pos hl] at hR
            subst hR
            go_wp2
            go_ret
            exact ⟨rfl, hBr⟩
          · rw [if_neg hl] at hR
            subst hR
            go_wp2
            go_ret
            exact ⟨rfl, hBr⟩

/-- Strings of possible lengths. -/
structure Dk.Fit (D : Dk) : Prop where
  secs : ∀ x ∈ D.secs, x.size ≤ maxLen
  pend : ∀ p ∈ D.pend, p.2.size ≤ maxLen
theorem check_any (D : Dk) (hf : D.Fit) (v : Value) (w : World) (hv : IsDisk w v D) (r : Int) (hr : chk D = r) :
    Calls Try.prog 22 #[v] w fun e w' => e = .returned (.int .i64 r) ∧ Below w.heap.size w w' := by
  obtain ⟨vs, vp, rfl, i1, i2⟩ := hv
  unfold chk at hr
  by_cases h : D.size < 1 ∨ 512 < D.size ∨ D.secs.length < 1 ∨ 1000 < D.secs.length
  · rw [if_pos h] at hr
    subst hr
    obtain ⟨a, cap, rfl, hn, _, _⟩ := i1
    obtain ⟨b, cap2, rfl, _, _, _⟩ := i2
    exact check_range D a b cap cap2 hn h w
  · rw [if_neg h] at hr
    exact check_loops D vs vp hf.secs hf.pend (by omega) (by omega) (by omega) (by omega) r hr w i1 i2
end Go.Proofs.Ytgdfdelggihceaa
