/- The reference's commit, at this translation. -/
import Derived.Test.YtiaahjoldahlnaaOnly
namespace Go.Proofs.Ytiaahjoldahlnaa
open Go.RowKit Go.Great
attribute [local go_sem] eq_arr

set_option maxRecDepth 100000 in
set_option maxHeartbeats 8000000 in
theorem refCommit_any (k : Int) (d : BA) (ve : Value) (t1 t2 : Nat) (L : List Dig) (vp : Value) (au : BA) (ti : Int) (ms : BA) (w : World) (h : IsDigs w vp L) (hau : au.size ≤ maxLen) (hms : ms.size ≤ maxLen) (r : Int)
    (hr : (if t1 = 0 ∧ t2 = 0 then 1 else if 8 < L.length then 4 else if parsFrom L 0 ≠ 0 then parsFrom L 0 else chkLate au ti ms) = r) :
    Calls Try.prog 47 #[.agg #[.int .i64 k, .string d, ve, .int .u64 t1, .int .u64 t2, vp, .string au, .int .i64 ti, .string ms]] w fun e w' => e = .returned (.int .i64 r) ∧ Below w.heap.size w w' := by
  have HD := Lib.hid h
  obtain ⟨a, cap, rfl, hn, hcp, hc⟩ := h
  have HC := Lib.hid hc
  clear hc
  have HAU := Lib.hid hau
  unfold maxLen at hn hms hau
  have h0 := Bo.fresh w k d ve t1 t2 (.slice a L.length cap) au ti ms
  by_cases hz : t1 = 0 ∧ t2 = 0
  · rw [if_pos hz] at hr
    have HZ := Lib.hid (show decide ((t1, t2) = ((0, 0) : Dig)) = true by simpa using hz)
    clear hz
    subst hr
    go_enter Try.func47, Try.ntmps47
    go_wp2_with fail
    ((with_reducible refine (zero_any t1 t2 _ true HZ.out).mono ?_); rintro e w1 ⟨rfl, hb1⟩)
    have hb := (h0.on hb1).b
    clear h0 hb1
    go_wp2
    go_ret
    exact ⟨rfl, hb⟩
  rw [if_neg hz] at hr
  have HZ := Lib.hid (show decide ((t1, t2) = ((0, 0) : Dig)) = false by simpa using hz)
  clear hz
  by_cases h8 : 8 < L.length
  · rw [if_pos h8] at hr
    subst hr
    go_enter Try.func47, Try.ntmps47
    go_wp2_with fail
    ((with_reducible refine (zero_any t1 t2 _ false HZ.out).mono ?_); rintro e w1 ⟨rfl, hb1⟩)
    obtain ⟨z0, z1, z2, z3, z4, z5, z6, z7, z8, zl, zb⟩ := h0.on hb1
    clear h0 hb1
    go_wp2
    go_ret
    exact ⟨rfl, zb⟩
  rw [if_neg h8] at hr
  have HR := Lib.hid (show (if parsFrom L 0 ≠ 0 then parsFrom L 0 else chkLate au ti ms) = r from hr)
  clear hr
  go_enter Try.func47, Try.ntmps47
  go_wp2_with fail
  ((with_reducible refine (zero_any t1 t2 _ false HZ.out).mono ?_); rintro e w1 ⟨rfl, hb1⟩)
  have h1 := h0.on hb1
  have cc5 := h1.c5
  have H0 := Lib.hid h1
  clear h0 hb1 h1
  go_wp2
  clear cc5
  go_loopw [3] (fun s3 wr => ∃ j : Nat, j ≤ L.length ∧ s3 = .int .i64 j ∧ Hid ((if parsFrom L j ≠ 0 then parsFrom L j else chkLate au ti ms) = r) ∧ Bo w k d ve t1 t2 (.slice a L.length cap) au ti ms wr) (fun i _ => L.length - (intOf i).toNat)
  case atStart => exact ⟨0, Nat.zero_le _, rfl, HR, H0.out⟩
  case round =>
    obtain ⟨j, hj, rfl, HJ, hA⟩ := hrel
    have cc5 := hA.c5
    by_cases hlt : j < L.length
    · obtain ⟨b1, o1, rfl, hb1, hcell⟩ := HC.out.resolve_left (by intro e; rw [e] at hlt; simp at hlt)
      have HCELL := Lib.hid hcell
      have p0 := (hA.b.cell (p := ⟨b1, o1 + j * 2, none⟩) hb1).trans (hcell j hlt).1
      have p1 := (hA.b.cell (p := ⟨b1, o1 + j * 2 + 1, none⟩) hb1).trans (hcell j hlt).2
      obtain ⟨q, hq⟩ : ∃ q, L[j] = q := ⟨_, rfl⟩
      have P1 := Lib.hid (fun (e : q = (0, 0)) => pars_zero hlt (hq.trans e))
      have P2 := Lib.hid (fun (e : q ≠ (0, 0)) (m : q ∈ L.take j) => pars_old hlt (by rw [hq]; exact e) (by rw [hq]; exact m))
      have P3 := Lib.hid (fun (e : q ≠ (0, 0)) (m : q ∉ L.take j) => pars_new hlt (by rw [hq]; exact e) (by rw [hq]; exact m))
      rw [hq] at p0 p1
      have HQ0 := Lib.hid (show World.cell? w ⟨b1, o1 + j * 2, none⟩ = some (.int .u64 q.1) by rw [← hq]; exact (hcell j hlt).1)
      have HQ1 := Lib.hid (show World.cell? w ⟨b1, o1 + j * 2 + 1, none⟩ = some (.int .u64 q.2) by rw [← hq]; exact (hcell j hlt).2)
      clear hq hcell
      obtain ⟨q1, q2⟩ := q
      simp only at p0 p1
      cases hqz : decide ((q1, q2) = ((0, 0) : Dig)) with
      | true =>
        have hr := HJ.out
        rw [P1.out (of_decide_eq_true hqz)] at hr
        simp at hr
        subst hr
        have HQ := Lib.hid hqz
        clear P1 P2 P3 hqz
        go_wp2_with fail
        ((with_reducible refine (zero_any q1 q2 _ true HQ.out).mono ?_); rintro e w2 ⟨rfl, hb2⟩)
        have hb := (hA.on hb2).b
        go_wp2
        go_ret
        exact ⟨rfl, hb⟩
      | false =>
        have HQ := Lib.hid hqz
        have HNE := Lib.hid (of_decide_eq_false hqz)
        clear hqz
        go_wp2_with fail
        ((with_reducible refine (zero_any q1 q2 _ false HQ.out).mono ?_); rintro e w2 ⟨rfl, hb2⟩)
        have hA2 := hA.on hb2
        have HA2 := Lib.hid hA2
        clear hA p0 p1 cc5 hb2 hA2
        go_wp2
        go_loopw [4] (fun s4 wr2 => ∃ i : Nat, i ≤ j ∧ s4 = .int .i64 i ∧ Hid ((q1, q2) ∉ L.take i) ∧ Bo w k d ve t1 t2 (.slice (some ⟨b1, o1, none⟩) L.length cap) au ti ms wr2) (fun i _ => j - (intOf i).toNat)
        case atStart => exact ⟨0, Nat.zero_le _, rfl, Lib.hid (by simp), HA2.out⟩
        case round =>
          obtain ⟨i, hi, rfl, HI, hA3⟩ := hrel
          have cc5 := hA3.c5
          by_cases hij : i < j
          · have hil : i < L.length := by omega
            have p0 := (hA3.b.cell (p := ⟨b1, o1 + j * 2, none⟩) hb1).trans HQ0.out
            have p1 := (hA3.b.cell (p := ⟨b1, o1 + j * 2 + 1, none⟩) hb1).trans HQ1.out
            have s0 := (hA3.b.cell (p := ⟨b1, o1 + i * 2, none⟩) hb1).trans (HCELL.out i hil).1
            have s1 := (hA3.b.cell (p := ⟨b1, o1 + i * 2 + 1, none⟩) hb1).trans (HCELL.out i hil).2
            have HT := Lib.hid (show L.take (i + 1) = L.take i ++ [L[i]] from by rw [List.take_succ_eq_append_getElem hil])
            have HM := Lib.hid (show L[i] ∈ L.take j from List.mem_take_iff_getElem.2 ⟨i, by omega, rfl⟩)
            obtain ⟨y, hy⟩ : ∃ y, L[i] = y := ⟨_, rfl⟩
            rw [hy] at s0 s1 HT HM
            clear hy
            obtain ⟨y1, y2⟩ := y
            simp only at s0 s1
            go_wp2_with fail
            go_quiet (fail)
            go_wp2
            · rename_i he
              have hr := HJ.out
              have e : (y1, y2) = ((q1, q2) : Dig) := by
                obtain ⟨e1, e2⟩ := he
                simp only [beq_iff_eq, Int.ofNat_inj] at e1 e2
                rw [e1, e2]
              rw [P2.out HNE.out (e ▸ HM.out)] at hr
              simp at hr
              subst hr
              go_ret
              exact ⟨rfl, below_drewN hA3.b _⟩
            · rename_i he
              have hne : ¬ ((q1, q2) : Dig) = (y1, y2) := by
                intro e
                simp only [Prod.mk.injEq] at e
                obtain ⟨rfl, rfl⟩ := e
                simp at he
              go_roundw
              case rel => exact ⟨i + 1, by omega, by go_num, Lib.hid (by rw [HT.out]; simp [HI.out, hne]), hA3.drewN nq⟩
              case measure => simp [intOf]; omega
          · have hr := HJ.out
            have hij2 : i = j := by omega
            rw [P3.out HNE.out (hij2 ▸ HI.out)] at hr
            have HR2 := Lib.hid hr
            clear hr hij2
            go_wp2
            go_roundw
            case rel => exact ⟨j + 1, by omega, by go_num, HR2, hA3⟩
            case measure => simp [intOf]; omega
    · have hr := HJ.out
      rw [pars_end (by omega)] at hr
      simp only [ne_eq, not_true_eq_false, if_false] at hr
      have cc6 := hA.c6
      have cc7 := hA.c7
      have cc8 := hA.c8
      have hb := hA.b
      clear HJ hA
      unfold chkLate at hr
      cases hnm : isName au with
      | false =>
        rw [hnm, if_pos rfl] at hr
        subst hr
        have HN := Lib.hid hnm
        clear hnm
        go_wp2_with fail
        ((with_reducible refine (refName_any au _ HAU.out false HN.out).mono ?_); rintro e w1 ⟨rfl, rfl⟩)
        go_wp2
        go_ret
        exact ⟨rfl, hb⟩
      | true =>
        rw [hnm, if_neg (by simp)] at hr
        have HN := Lib.hid hnm
        clear hnm
        by_cases h1 : ti < 0
        · rw [if_pos (.inl h1)] at hr
          subst hr
          go_wp2_with fail
          ((with_reducible refine (refName_any au _ HAU.out true HN.out).mono ?_); rintro e w1 ⟨rfl, rfl⟩)
          go_wp2
          go_ret
          exact ⟨rfl, hb⟩
        by_cases h2 : 1099511627776 < ti
        · rw [if_pos (.inr h2)] at hr
          subst hr
          go_wp2_with fail
          ((with_reducible refine (refName_any au _ HAU.out true HN.out).mono ?_); rintro e w1 ⟨rfl, rfl⟩)
          go_wp2
          go_ret
          exact ⟨rfl, hb⟩
        rw [if_neg (by omega)] at hr
        by_cases h3 : 200 < ms.size
        · rw [if_pos h3] at hr
          subst hr
          go_wp2_with fail
          ((with_reducible refine (refName_any au _ HAU.out true HN.out).mono ?_); rintro e w1 ⟨rfl, rfl⟩)
          go_wp2
          go_ret
          exact ⟨rfl, hb⟩
        · rw [if_neg h3] at hr
          subst hr
          go_wp2_with fail
          ((with_reducible refine (refName_any au _ HAU.out true HN.out).mono ?_); rintro e w1 ⟨rfl, rfl⟩)
          go_wp2
          go_ret
          exact ⟨rfl, hb⟩
end Go.Proofs.Ytiaahjoldahlnaa
