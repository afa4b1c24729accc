/- The reference's Check, pick and Cut. -/
import Derived.Test.YtgdfdelggihceaaRefNew
import Derived.Test.YtgdfdelggihceaaCut
import Derived.Test.YtgdfdelggihceaaLawReads
import Derived.Deep.QuietTactic
namespace Go.Proofs.Ytgdfdelggihceaa
open Go.RowKit

set_option maxHeartbeats 2000000 in
theorem refCheck_range (D : Dk) (a b : Option Addr) (cap cap2 : Nat) (hn : D.secs.length ≤ maxLen) (h : D.size < 1 ∨ 512 < D.size ∨ D.secs.length < 1 ∨ 1000 < D.secs.length) (w : World) :
    Calls Try.prog 23 #[dv D.size (.slice a D.secs.length cap) (.slice b D.pend.length cap2) D.left] w fun e w' => e = .returned (.int .i64 2) ∧ Below w.heap.size w w' := by
  have hB := (Below.refl w.heap.size w).alloc (Nat.le_refl _) (.cells #[.int .i64 D.size, .slice a D.secs.length cap, .slice b D.pend.length cap2, .int .i64 D.left] 26)
  unfold maxLen at hn
  by_cases h1 : D.size < 1
  · clear h
    go_enter Try.func23, Try.ntmps23
    go_wp2
    go_ret
    exact ⟨rfl, hB⟩
  by_cases h2 : 512 < D.size
  · clear h
    go_enter Try.func23, Try.ntmps23
    go_wp2
    go_ret
    exact ⟨rfl, hB⟩
  by_cases h3 : (D.secs.length : Int) < 1
  · clear h
    go_enter Try.func23, Try.ntmps23
    go_wp2
    go_ret
    exact ⟨rfl, hB⟩
  have h4 : 1000 < (D.secs.length : Int) := by omega
  clear h
  go_enter Try.func23, Try.ntmps23
  go_wp2
  go_ret
  exact ⟨rfl, hB⟩

set_option maxHeartbeats 2000000 in
theorem refCheck_loops (D : Dk) (vs vp : Value) (hs : ∀ x ∈ D.secs, x.size ≤ maxLen) (hp : ∀ p ∈ D.pend, p.2.size ≤ maxLen) (s1 : ¬ D.size < 1) (s2 : ¬ 512 < D.size) (l1 : ¬ D.secs.length < 1) (l2 : ¬ 1000 < D.secs.length)
    (r : Int) (hr : chkS D D.secs = r) (w : World) (i1 : IsStrs w vs D.secs) (i2 : IsWs w vp D.pend) :
    Calls Try.prog 23 #[dv D.size vs vp D.left] w fun e w' => e = .returned (.int .i64 r) ∧ Below w.heap.size w w' := by
  obtain ⟨a, cap, rfl, hn, hcap, hc⟩ := i1
  obtain ⟨b, cap2, rfl, hm, hcap2, hc2⟩ := i2
  unfold maxLen at hn hm
  have b0 := Bx.fresh D.size (.slice a D.secs.length cap) (.slice b D.pend.length cap2) D.left w
  have hB := (Below.refl w.heap.size w).alloc (Nat.le_refl _) (.cells #[.int .i64 D.size, .slice a D.secs.length cap, .slice b D.pend.length cap2, .int .i64 D.left] 26)
  have s1' : ¬ D.size < 1 := s1
  have l1' : ¬ (D.secs.length : Int) < 1 := by omega
  have l2' : ¬ 1000 < (D.secs.length : Int) := by omega
  have HC := Lib.hid hc
  have HC2 := Lib.hid hc2
  have HS := Lib.hid hs
  have HP := Lib.hid hp
  have HR := Lib.hid hr
  have B0 := Lib.hid b0
  clear hc hc2 hs hp hr b0 l1 l2
  go_enter Try.func23, Try.ntmps23
  go_wp2
  go_loopw [3] (fun s3 wr => ∃ j : Nat, j ≤ D.secs.length ∧ s3 = .int .i64 j ∧ Hid (chkS D (D.secs.drop j) = r) ∧ Hid (Bx w.heap.size D.size (.slice a D.secs.length cap) (.slice b D.pend.length cap2) D.left wr) ∧ Below w.heap.size w wr) (fun i _ => D.secs.length - (intOf i).toNat)
  case atStart => exact ⟨0, Nat.zero_le _, rfl, HR, B0, hB⟩
  case round =>
    obtain ⟨j, hj, rfl, hrr, hbx, hBr⟩ := hrel
    obtain ⟨q0, q1, q2, q3, g0, g1, g2, g3, qlt⟩ := hbx.out
    by_cases hlt : j < D.secs.length
    · obtain ⟨b1, o1, rfl, hb1, hcell⟩ := HC.out.resolve_left (by intro e; rw [e] at hlt; simp at hlt)
      have p0 := (hBr.cell (p := ⟨b1, o1 + j, none⟩) hb1).trans (hcell j hlt)
      have hR := hrr.out
      rw [List.drop_eq_getElem_cons hlt, chkS] at hR
      have hx := HS.out _ (List.getElem_mem hlt)
      unfold maxLen at hx
      generalize D.secs[j] = x at p0 hR hx
      by_cases h3 : (x.size : Int) = D.size
      · rw [if_pos h3] at hR
        have t3 : (((x.size : Nat) : Int) != D.size) = false := by simp [h3]
        have HR2 := Lib.hid hR
        clear h3 hR hrr hcell
        go_upto_region 6 with fail
        go_quiet (fail)
        have K2 := Lib.hid (hbx.out.drewN nq)
        have B2 := below_drewN hBr nq
        clear q0 q1 q2 q3 g0 g1 g2 g3 qlt p0 t3
        go_wp2
        go_roundw
        case rel => exact ⟨j + 1, by omega, by go_num, HR2, K2, B2⟩
        case measure => simp [intOf]; omega
      · rw [if_neg h3] at hR
        have t3 : (((x.size : Nat) : Int) != D.size) = true := by simp [h3]
        clear h3 hrr hcell
        subst hR
        go_upto_region 6 with fail
        go_quiet (fail)
        have B2 := below_drewN hBr nq
        clear q0 q1 q2 q3 g0 g1 g2 g3 qlt p0 t3
        go_wp2
        go_ret
        exact ⟨rfl, B2⟩
    · have hR := hrr.out
      rw [List.drop_eq_nil_of_le (by omega), chkS] at hR
      have HR2 := Lib.hid hR
      clear hR hrr
      go_wp2
      clear q0 q1 q2 q3 g0 g1 g2 g3 qlt
      go_loopw [4, 5] (fun s4 _ wr => ∃ j : Nat, j ≤ D.pend.length ∧ s4 = .int .i64 j ∧ Hid (chkP D (D.pend.drop j) = r) ∧ Hid (Bx w.heap.size D.size (.slice a D.secs.length cap) (.slice b D.pend.length cap2) D.left wr) ∧ Below w.heap.size w wr) (fun i _ _ => D.pend.length - (intOf i).toNat)
      case atStart => exact ⟨0, Nat.zero_le _, rfl, HR2, hbx, hBr⟩
      case round =>
        obtain ⟨k, hk, rfl, hrr, hbx, hBr⟩ := hrel
        obtain ⟨q0, q1, q2, q3, g0, g1, g2, g3, qlt⟩ := hbx.out
        by_cases hlt2 : k < D.pend.length
        · obtain ⟨b1, o1, rfl, hb1, hcell⟩ := HC2.out.resolve_left (by intro e; rw [e] at hlt2; simp at hlt2)
          obtain ⟨hc1, hc2⟩ := hcell k hlt2
          have p0 := (hBr.cell (p := ⟨b1, o1 + k * 2, none⟩) hb1).trans hc1
          have p1 := (hBr.cell (p := ⟨b1, o1 + k * 2 + 1, none⟩) hb1).trans hc2
          have hR := hrr.out
          rw [List.drop_eq_getElem_cons hlt2, chkP] at hR
          have hx := HP.out _ (List.getElem_mem hlt2)
          unfold maxLen at hx
          generalize D.pend[k] = p at p0 p1 hR hx
          obtain ⟨s, x⟩ := p
          simp only at p0 p1 hR hx
          have hBa := hBr.alloc hBr.size (.cells #[.int .i64 s, .string x] 44)
          have Ka := Lib.hid (hbx.out.alloc (.cells #[.int .i64 s, .string x] 44))
          obtain ⟨cc, hcw⟩ : ∃ c, cw D s x = c := ⟨_, rfl⟩
          rw [hcw] at hR
          unfold cw at hcw
          have hs3 : s < 0 ∨ (¬ s < 0 ∧ (D.secs.length : Int) ≤ s) ∨ (¬ s < 0 ∧ ¬ (D.secs.length : Int) ≤ s) := by omega
          rcases hs3 with h1 | ⟨h1, h2⟩ | ⟨h1, h2⟩
          · rw [if_pos (Or.inl h1)] at hcw
            subst hcw
            rw [if_neg (by decide)] at hR
            clear hcell hc1 hc2 hrr
            subst hR
            go_wp2
            go_ret
            exact ⟨rfl, hBa⟩
          · rw [if_pos (Or.inr h2)] at hcw
            subst hcw
            rw [if_neg (by decide)] at hR
            clear hcell hc1 hc2 hrr
            subst hR
            go_wp2
            go_ret
            exact ⟨rfl, hBa⟩
          · rw [if_neg (by omega)] at hcw
            by_cases h3 : (x.size : Int) = D.size
            · rw [if_pos h3] at hcw
              subst hcw
              rw [if_pos rfl] at hR
              have t3 : (((x.size : Nat) : Int) != D.size) = false := by simp [h3]
              have HR3 := Lib.hid hR
              clear h3 hR hrr hcell hc1 hc2
              go_wp2
              go_roundw
              case rel => exact ⟨k + 1, by omega, by go_num, HR3, Ka, hBa⟩
              case measure => simp [intOf]; omega
            · rw [if_neg h3] at hcw
              subst hcw
              rw [if_neg (by decide)] at hR
              have t3 : (((x.size : Nat) : Int) != D.size) = true := by simp [h3]
              clear h3 hrr hcell hc1 hc2
              subst hR
              go_wp2
              go_ret
              exact ⟨rfl, hBa⟩
        · have hR := hrr.out
          rw [List.drop_eq_nil_of_le (by omega), chkP] at hR
          clear hrr
          by_cases hl : D.left < -1
          · rw [if_pos hl] at hR
            subst hR
            go_wp2
            go_ret
            exact ⟨rfl, hBr⟩
          · rw [if_neg hl] at hR
            subst hR
            go_wp2
            go_ret
            exact ⟨rfl, hBr⟩

theorem refCheck_any (D : Dk) (hf : D.Fit) (v : Value) (w : World) (hv : IsDisk w v D) (r : Int) (hr : chk D = r) :
    Calls Try.prog 23 #[v] w fun e w' => e = .returned (.int .i64 r) ∧ Below w.heap.size w w' := by
  obtain ⟨vs, vp, rfl, i1, i2⟩ := hv
  unfold chk at hr
  by_cases h : D.size < 1 ∨ 512 < D.size ∨ D.secs.length < 1 ∨ 1000 < D.secs.length
  · rw [if_pos h] at hr
    subst hr
    obtain ⟨a, cap, rfl, hn, _, _⟩ := i1
    obtain ⟨b, cap2, rfl, _, _, _⟩ := i2
    exact refCheck_range D a b cap cap2 hn h w
  · rw [if_neg h] at hr
    exact refCheck_loops D vs vp hf.secs hf.pend (by omega) (by omega) (by omega) (by omega) r hr w i1 i2

theorem refPick_any (x sz : Int) (s1 : 1 ≤ sz) (s2 : sz ≤ 512) (r : Nat) (hr : (x.tmod (sz + 1)).natAbs = r) (w : World) :
    Calls Try.prog 40 #[.int .i64 x, .int .i64 sz] w fun e w' => e = .returned (.int .i64 r) ∧ w' = w := by
  have hb := Int.natAbs_tmod x (sz + 1)
  have hm := Nat.mod_lt x.natAbs (show 0 < (sz + 1).natAbs by omega)
  rw [← hb] at hm
  have e1 : IntKind.i64.wrap (sz + 1) = sz + 1 := IntWalk.i64_in _ (by omega)
  have e2 : sz + 1 ≠ 0 := by omega
  have e3 : ((sz + 1) == 0) = false := by simpa using e2
  obtain ⟨y, hy⟩ : ∃ y, x.tmod (sz + 1) = y := ⟨_, rfl⟩
  rw [hy] at hm hb hr
  have HY := Lib.hid hy
  have HR := Lib.hid hr
  have y1 : -512 ≤ y := by omega
  have y2 : y ≤ 512 := by omega
  clear hb hm hr
  by_cases hneg : y < 0
  · have en : IntKind.i64.wrap (-y) = -y := IntWalk.i64_in _ (by omega)
    go_enter Try.func40, Try.ntmps40
    go_wp2
    go_ret
    have e : -y = (r : Int) := by have := HR.out; omega
    exact ⟨by show Ending.returned (.int .i64 (-y)) = _; rw [e], rfl⟩
  · go_enter Try.func40, Try.ntmps40
    go_wp2
    go_ret
    have e : y = (r : Int) := by have := HR.out; omega
    exact ⟨by show Ending.returned (.int .i64 y) = _; rw [e], rfl⟩

theorem own_cellS {W : World} {B g n cap : Nat} {L : List ByteArray} (h : W.ownsRow B 9 1 (.slice (some ⟨g, 0, none⟩) n cap) n (rowS L)) (j : Nat) (hj : j < n) (hl : j < L.length) : W.cell? ⟨g, j, none⟩ = some (.string L[j]) := by
  rw [h.cellAt j (by omega), rowS_get L j hl]

theorem own_put {W : World} {B g n cap : Nat} {L : List ByteArray} (h : W.ownsRow B 9 1 (.slice (some ⟨g, 0, none⟩) n cap) n (rowS L)) (j : Nat) (x : ByteArray) : (W.setCell ⟨g, j, none⟩ (.string x)).ownsRow B 9 1 (.slice (some ⟨g, 0, none⟩) n cap) n (rowS (L.set j x)) := by
  have := h.stored j (.string x)
  rw [show rowS (L.set j x) = (rowS L).set j (.string x) by simp [rowS, List.map_set]]
  exact this.1

set_option maxHeartbeats 4000000 in
theorem refCut_ok (D : Dk) (hf : D.Fit) (hok : D.Ok) (hp : D.pend.length ≤ 100000) (v vP : Value) (P : List Int) (w : World) (hv : IsDisk w v D) (hP : IsInts w vP P) :
    Calls Try.prog 25 #[v, vP] w fun e w' => ∃ v', e = .returned v' ∧ IsDisk w' v' ⟨D.size, settleL (pk P D.size) 0 D.pend D.secs, [], -1⟩ ∧ Below w.heap.size w w' := by
  have hv0 := Lib.hid hv
  obtain ⟨_, _, rfl, i1, ⟨b, cap2, rfl, hm, hcap2, hcW⟩⟩ := hv
  have HW := Lib.hid hcW
  have l1 := hok.l1
  have l2 := hok.l2
  have hs2 := hok.s2
  have hs1 := hok.s1
  have I1 := Lib.hid i1
  obtain ⟨a, cap, rfl, hln, hcap, _⟩ := i1
  obtain ⟨ad, rfl, _⟩ := strs_lie I1.out l1
  obtain ⟨aP, capP, rfl, hlP, hcapP, hcP⟩ := hP
  have HPP := Lib.hid hcP
  unfold maxLen at hm hlP hln
  have hB := ((Below.refl w.heap.size w).alloc (Nat.le_refl _) (.cells #[.int .i64 D.size, .slice (some ad) D.secs.length cap, .slice b D.pend.length cap2, .int .i64 D.left] 26)).alloc (by simp) (.cells #[.int .i64 0, .slice none 0 0, .slice none 0 0, .int .i64 0] 26)
  have x0 := (Bx.fresh D.size (.slice (some ad) D.secs.length cap) (.slice b D.pend.length cap2) D.left w).alloc (.cells #[.int .i64 0, .slice none 0 0, .slice none 0 0, .int .i64 0] 26)
  have x1 := Bx.fresh 0 (.slice none 0 0) (.slice none 0 0) 0 (w.alloc (.cells #[.int .i64 D.size, .slice (some ad) D.secs.length cap, .slice b D.pend.length cap2, .int .i64 D.left] 26))
  rw [World.size_alloc] at x1
  clear hcW hcP
  obtain ⟨i0, hi, hz0, hz1, hz2⟩ := info_parts info9
  go_enter Try.func25, Try.ntmps25
  go_wp2_with fail
  ((with_reducible refine (refCheck_any D hf _ _ (hv0.out.below hB (Nat.le_refl _)) 0 ((chk_zero D).2 hok)).mono ?_); rintro e w1 ⟨rfl, hb1⟩)
  have B1 := hB.trans (hb1.mono hB.size)
  have X0 := Lib.hid (x0.below hb1 x0.lt)
  have X1 := Lib.hid (x1.below hb1 x1.lt)
  have lt2 : w.heap.size + 2 ≤ w1.heap.size := by have := X1.out.lt; omega
  have I2 := Lib.hid (I1.out.below (B1.alloc (by omega) (.cells #[] 9)) (Nat.le_refl _))
  obtain ⟨_, e2, lies⟩ := strs_lie I2.out l1
  cases e2
  have LIES := Lib.hid lies
  clear x0 x1 hb1 hB lies
  obtain ⟨q0, q1, q2, q3, g0, g1, g2, g3, qlt⟩ := X0.out.alloc (.cells #[] 9)
  go_wp2_with (at_builtin; refine wpList_append_own _ rfl _ _ 23 rfl w1.heap.size 9 i0 (.string ⟨#[]⟩) 1 16 Try.underlying23 hi hz0 hz1 hz2 rfl (by decide) _ 0 _ rfl (World.ownsRow_lit w1 #[] 0 (Nat.le_refl _) (Nat.zero_le _) rfl) ad D.secs.length cap (rowS D.secs) rfl ?c0 ?c1 ?c2 ?c3 ?c4 ?c5 ?_)
  case c0 => rw [rowS_length, Nat.mul_one]
  case c1 => exact LIES.out
  case c2 => exact rowS_one _
  case c3 => unfold maxLen; omega
  case c4 => omega
  case c5 => simp
  intro v3 w3 hown hgrow _
  have hown' : w3.ownsRow w1.heap.size 9 1 v3 D.secs.length (rowS D.secs) := by simpa using hown
  have BG := (Below.refl w1.heap.size (w1.alloc (.cells #[] 9))).grown hgrow (by simp) (fun k hk => by simp [Value.ownBlock] at hk; omega)
  have B3 := (B1.alloc (by omega) (.cells #[] 9)).trans (BG.mono (by omega))
  have Y0 := Lib.hid ((X0.out.alloc (.cells #[] 9)).below BG X0.out.lt)
  have Y1 := Lib.hid ((X1.out.alloc (.cells #[] 9)).below BG X1.out.lt)
  obtain ⟨m, hmm⟩ : ∃ m, D.secs.length = m + 1 := ⟨D.secs.length - 1, by omega⟩
  rw [hmm] at hown'
  obtain ⟨g, capg, rfl⟩ := ownsRow_succ hown'
  rw [← hmm] at hown' ⊢
  have OW := Lib.hid hown'
  have gB : w1.heap.size ≤ g := (hown'.lt g rfl).1
  clear hown hown' hgrow BG X0 X1 I2 LIES q0 q1 q2 q3 g0 g1 g2 g3 qlt hmm
  go_wp2
  go_loopw [6, 7, 8] (fun s6 _ _ wr => ∃ (j : Nat) (cur : List ByteArray), j ≤ D.pend.length ∧ s6 = .int .i64 j ∧ Hid (cur.length = D.secs.length) ∧ Hid (∀ x ∈ cur, (x.size : Int) = D.size) ∧ Hid (settleL (pk P D.size) j (D.pend.drop j) cur = settleL (pk P D.size) 0 D.pend D.secs) ∧ Hid (wr.ownsRow w1.heap.size 9 1 (.slice (some ⟨g, 0, none⟩) D.secs.length capg) D.secs.length (rowS cur)) ∧
    Hid (Bx w.heap.size D.size (.slice (some ad) D.secs.length cap) (.slice b D.pend.length cap2) D.left wr) ∧ Hid (Bx (w.heap.size + 1) 0 (.slice none 0 0) (.slice none 0 0) 0 wr) ∧ Below w.heap.size w wr) (fun i _ _ _ => D.pend.length - (intOf i).toNat)
  case atStart => exact ⟨0, D.secs, Nat.zero_le _, rfl, rfl, Lib.hid hok.secs, rfl, OW, Y0, Y1, B3⟩
  case round =>
    obtain ⟨j, cur, hj, rfl, hcl, hcz, hset, hO, hY0, hY1, hBr⟩ := hrel
    obtain ⟨q0, q1, q2, q3, g0, g1, g2, g3, qlt⟩ := hY0.out
    by_cases hlt : j < D.pend.length
    · obtain ⟨b1, o1, rfl, hb1, hcell⟩ := HW.out.resolve_left (by intro e; rw [e] at hlt; simp at hlt)
      obtain ⟨hc1, hc2⟩ := hcell j hlt
      have p0 := (hBr.cell (p := ⟨b1, o1 + j * 2, none⟩) hb1).trans hc1
      have p1 := (hBr.cell (p := ⟨b1, o1 + j * 2 + 1, none⟩) hb1).trans hc2
      have hS := hset.out
      obtain ⟨v1, v2, v3⟩ := hok.pend _ (List.getElem_mem hlt)
      rw [List.drop_eq_getElem_cons hlt, settleL] at hS
      generalize D.pend[j] = q at p0 p1 hS v1 v2 v3
      obtain ⟨s, x⟩ := q
      simp only at p0 p1 hS v1 v2 v3
      obtain ⟨sn, rfl⟩ := Int.eq_ofNat_of_zero_le v1
      have hsn : sn < cur.length := by rw [hcl.out]; omega
      rw [Int.toNat_natCast, getD_at _ _ hsn] at hS
      have hkj := pk_le P D.size hs1 j
      have hys := hcz.out _ (List.getElem_mem hsn)
      have cs := own_cellS hO.out sn (by omega) hsn
      have fs := hO.out.frozenAt sn
      generalize cur[sn] = y at cs hS hys
      have HSS := Lib.hid hS
      obtain ⟨kj, hkj2⟩ : ∃ k, pk P D.size j = k := ⟨_, rfl⟩
      rw [hkj2] at hkj
      have HKJ := Lib.hid hkj2
      have hkx : kj ≤ x.size := by omega
      have hky : kj ≤ y.size := by omega
      have hxb : x.size ≤ 512 := by omega
      have hyb : y.size ≤ 512 := by omega
      have hxy : Hid ((x.size : Int) = D.size ∧ (y.size : Int) = D.size) := Lib.hid ⟨v3, hys⟩
      have hsl : (sn : Int) < D.secs.length := v2
      have hsl2 : sn < D.secs.length := by omega
      have szr := hBr.size
      have gR := (hO.out.lt g rfl).2
      have n0 : Hid ((wr.alloc (.cells #[.int .i64 sn, .string x] 44)).cell? ⟨wr.heap.size, 0, none⟩ = some (.int .i64 sn)) := Lib.hid (by simp [World.cell?_alloc_new])
      have n1 : Hid ((wr.alloc (.cells #[.int .i64 sn, .string x] 44)).cell? ⟨wr.heap.size, 1, none⟩ = some (.string x)) := Lib.hid (by simp [World.cell?_alloc_new])
      have O5 := Lib.hid (hO.out.alloc (.cells #[.int .i64 sn, .string x] 44))
      have K0 := Lib.hid (hY0.out.alloc (.cells #[.int .i64 sn, .string x] 44))
      have K1 := Lib.hid (hY1.out.alloc (.cells #[.int .i64 sn, .string x] 44))
      have B5 := hBr.alloc hBr.size (.cells #[.int .i64 sn, .string x] 44)
      have cs5 : Hid ((wr.alloc (.cells #[.int .i64 sn, .string x] 44)).cell? ⟨g, sn, none⟩ = some (.string y)) := Lib.hid ((((Below.refl _ wr).alloc (Nat.le_refl _) (.cells #[.int .i64 sn, .string x] 44)).cell (p := ⟨g, sn, none⟩) gR).trans cs)
      have fs5 : Hid ((wr.alloc (.cells #[.int .i64 sn, .string x] 44)).frozen? ⟨g, sn, none⟩ = false) := Lib.hid (O5.out.frozenAt sn)
      clear hcell hc1 hc2 hset hS hkj2 hkj v3 hys v1 v2 hsn cs fs hO hY0 hY1 hBr
      by_cases hjl : j < P.length
      · obtain ⟨bP, oP, rfl, hbP, hcellP⟩ := HPP.out.resolve_left (by intro e; rw [e] at hjl; simp at hjl)
        have pp := (B5.cell (p := ⟨bP, oP + j, none⟩) hbP).trans (hcellP j hjl)
        have hpk := HKJ.out
        rw [pk_in _ _ _ hjl] at hpk
        generalize P[j] = pj at pp hpk
        have HPK := Lib.hid hpk
        have PP := Lib.hid pp
        clear hcellP hpk pp
        go_upto_region 10 with fail
        generalize wr.alloc (.cells #[.int .i64 sn, .string x] 44) = w5 at n0 n1 O5 K0 K1 B5 cs5 fs5 PP ⊢
        have s2 : w5.drew.cell? ⟨bP, oP + j, none⟩ = some (.int .i64 pj) ∧ w5.drew.cell? ⟨w.heap.size, 0, none⟩ = some (.int .i64 D.size) := ⟨PP.out, K0.out.c0⟩
        clear q0 q1 q2 q3 g0 g1 g2 g3 qlt p0 p1
        go_region_held3 (fun V => V.cell? ⟨bP, oP + j, none⟩ = some (.int .i64 pj) ∧ V.cell? ⟨w.heap.size, 0, none⟩ = some (.int .i64 D.size)) (first | with_reducible exact s2)
          (first | (go_at_call 40; (with_reducible refine (refPick_any pj D.size hs1 hs2 kj HPK.out _).mono ?_); rintro e w' ⟨rfl, rfl⟩))
        have O6 : Hid (w5.drew.ownsRow w1.heap.size 9 1 (.slice (some ⟨g, 0, none⟩) D.secs.length capg) D.secs.length (rowS cur)) := Lib.hid O5.out
        have K6 := Lib.hid K0.out.drew
        have K7 := Lib.hid K1.out.drew
        have B6 := B5.drew
        have m0 : w5.drew.cell? ⟨wr.heap.size, 0, none⟩ = some (.int .i64 sn) := n0.out
        have m1 : w5.drew.cell? ⟨wr.heap.size, 1, none⟩ = some (.string x) := n1.out
        have m2 : w5.drew.cell? ⟨g, sn, none⟩ = some (.string y) := cs5.out
        have m3 : w5.drew.frozen? ⟨g, sn, none⟩ = false := fs5.out
        clear s2 O5 K0 K1 B5 n0 n1 cs5 fs5 PP
        go_upto_region 11 with fail
        generalize w5.drew = w6 at O6 K6 K7 B6 m0 m1 m2 m3 ⊢
        go_region
        all_goals go_wp2
        all_goals go_roundw
        all_goals first
          | exact ⟨j + 1, cur.set sn (tear kj x y), by omega, by go_num, Lib.hid (by rw [List.length_set]; exact hcl.out), Lib.hid (fun z hz => by
              rcases List.mem_or_eq_of_mem_set hz with hz | rfl
              · exact hcz.out z hz
              · rw [tear_size _ _ _ hkx (by have := hxy.out.1; have := hxy.out.2; omega)]; exact hxy.out.1), Lib.hid (by rw [← HSS.out, HKJ.out]), Lib.hid (own_put (show w6.drew.ownsRow w1.heap.size 9 1 (.slice (some ⟨g, 0, none⟩) D.secs.length capg) D.secs.length (rowS cur) from O6.out) sn (tear kj x y)), Lib.hid (K6.out.drew.other (by omega) sn _), Lib.hid (K7.out.drew.other (by omega) sn _), B6.drew.setCell (p := ⟨g, sn, none⟩) (show w.heap.size ≤ g by omega) _⟩
          | (simp [intOf]; omega)
      · have hpk := HKJ.out
        rw [pk_out _ _ _ (show P.length ≤ j by omega)] at hpk
        subst hpk
        have hjl' : (P.length : Int) ≤ (j : Int) := by omega
        go_upto_region 11 with fail
        generalize wr.alloc (.cells #[.int .i64 sn, .string x] 44) = w6 at n0 n1 O5 K0 K1 B5 cs5 fs5 ⊢
        clear q0 q1 q2 q3 g0 g1 g2 g3 qlt p0 p1
        have m0 := n0.out
        have m1 := n1.out
        have m2 := cs5.out
        have m3 := fs5.out
        go_region
        all_goals go_wp2
        all_goals go_roundw
        all_goals first
          | exact ⟨j + 1, cur.set sn y, by omega, by go_num, Lib.hid (by rw [List.length_set]; exact hcl.out), Lib.hid (fun z hz => by
              rcases List.mem_or_eq_of_mem_set hz with hz | rfl
              · exact hcz.out z hz
              · exact hxy.out.2), Lib.hid (by rw [← HSS.out, HKJ.out, tear_none]), Lib.hid (own_put (show w6.drew.ownsRow w1.heap.size 9 1 (.slice (some ⟨g, 0, none⟩) D.secs.length capg) D.secs.length (rowS cur) from O5.out) sn y), Lib.hid (K0.out.drew.other (by omega) sn _), Lib.hid (K1.out.drew.other (by omega) sn _), B5.drew.setCell (p := ⟨g, sn, none⟩) (show w.heap.size ≤ g by omega) _⟩
          | (simp [intOf]; omega)
    · have hS := hset.out
      rw [List.drop_eq_nil_of_le (by omega), settleL] at hS
      obtain ⟨r0, r1, r2, r3, k0, k1, k2, k3, rlt⟩ := hY1.out
      have HSS := Lib.hid hS
      clear hset hS hY0 hY1
      have SB := below_set4 hBr (g := w.heap.size + 1) (by omega) (.int .i64 D.size) (.slice (some ⟨g, 0, none⟩) D.secs.length capg) (.slice none 0 0) (.int .i64 (-1))
      have NB := Lib.hid (own_setS (own_setS (own_setS (own_setS hO.out (N := w.heap.size + 1) (by omega) 0 (.int .i64 D.size)) (N := w.heap.size + 1) (by omega) 1 (.slice (some ⟨g, 0, none⟩) D.secs.length capg)) (N := w.heap.size + 1) (by omega) 2 (.slice none 0 0)) (N := w.heap.size + 1) (by omega) 3 (.int .i64 (-1)))
      go_wp2
      exact bodyPost_ret (v := dv D.size (.slice (some ⟨g, 0, none⟩) D.secs.length capg) (.slice none 0 0) (-1)) (by simp [results, Try.results25, go_sem, r0, r1, r2, r3, World.cell?_setCell_other, World.cell?_setCell_same']) rfl ⟨_, rfl, (by
        have h := own_strs (L := cur) NB.out hcl.out (by unfold maxLen; omega)
        rw [HSS.out] at h
        exact ⟨_, _, rfl, h, isWs_nil _⟩), SB⟩

set_option maxHeartbeats 1000000 in
theorem refCut_bad (D : Dk) (hf : D.Fit) (c : Int) (hc : chk D = c) (h0 : c ≠ 0) (v vP : Value) (P : List Int) (w : World) (hv : IsDisk w v D) (hP : IsInts w vP P) :
    Calls Try.prog 25 #[v, vP] w fun e w' => ∃ v', e = .returned v' ∧ IsDisk w' v' Dk.zero ∧ Below w.heap.size w w' := by
  have hv0 := Lib.hid hv
  obtain ⟨aP, capP, rfl, _, _, _⟩ := hP
  obtain ⟨_, _, rfl, ⟨a, cap, rfl, hln, hcap, _⟩, ⟨b, cap2, rfl, hm, hcap2, _⟩⟩ := hv
  have hB := ((Below.refl w.heap.size w).alloc (Nat.le_refl _) (.cells #[.int .i64 D.size, .slice a D.secs.length cap, .slice b D.pend.length cap2, .int .i64 D.left] 26)).alloc (by simp) (.cells #[.int .i64 0, .slice none 0 0, .slice none 0 0, .int .i64 0] 26)
  have x1 := Bx.fresh 0 (.slice none 0 0) (.slice none 0 0) 0 (w.alloc (.cells #[.int .i64 D.size, .slice a D.secs.length cap, .slice b D.pend.length cap2, .int .i64 D.left] 26))
  rw [World.size_alloc] at x1
  have hne : (c != 0) = true := by simpa using h0
  have HC := Lib.hid hc
  clear hc h0
  go_enter Try.func25, Try.ntmps25
  go_wp2_with fail
  ((with_reducible refine (refCheck_any D hf _ _ (hv0.out.below hB (Nat.le_refl _)) c HC.out).mono ?_); rintro e w1 ⟨rfl, hb1⟩)
  have B1 := hB.trans (hb1.mono hB.size)
  obtain ⟨q0, q1, q2, q3, g0, g1, g2, g3, qlt⟩ := x1.below hb1 x1.lt
  go_wp2
  exact bodyPost_ret (v := dv 0 (.slice none 0 0) (.slice none 0 0) 0) (by simp [results, Try.results25, go_sem, q0, q1, q2, q3, World.cell?_setCell_other, World.cell?_setCell_same']) rfl ⟨_, rfl, isDisk_zero _, below_set4 B1 (by omega) _ _ _ _⟩
end Go.Proofs.Ytgdfdelggihceaa
