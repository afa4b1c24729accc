/- The reference's zero and entries, at this translation. -/
import Derived.Test.YtiaahjoldahlnaaRefNames
import Derived.Test.YtiaahjoldahlnaaCommit
namespace Go.Proofs.Ytiaahjoldahlnaa
open Go.RowKit Go.Great
attribute [local go_sem] eq_arr

set_option maxHeartbeats 1000000 in
theorem zero_any (d1 d2 : Nat) (w : World) (q : Bool) (hq : decide ((d1, d2) = ((0, 0) : Dig)) = q) :
    Calls Try.prog 72 #[.agg #[.int .u64 d1, .int .u64 d2]] w fun e w' => e = .returned (.bool q) ∧ Below w.heap.size w w' := by
  have hb := (Below.refl w.heap.size w).alloc (Nat.le_refl _) (.cells #[.int .u64 d1, .int .u64 d2] 25)
  by_cases h1 : d1 = 0
  · subst h1
    by_cases h2 : d2 = 0
    · subst h2
      obtain rfl : q = true := by rw [← hq]; simp
      clear hq
      go_enter Try.func72, Try.ntmps72
      go_wp2
      go_ret
      exact ⟨rfl, hb⟩
    · obtain rfl : q = false := by rw [← hq]; simp [h2]
      have e2 : (((d2 : Nat) : Int) == 0) = false := by simp; omega
      clear hq h2
      go_enter Try.func72, Try.ntmps72
      go_wp2
      go_ret
      exact ⟨rfl, hb⟩
  · obtain rfl : q = false := by rw [← hq]; simp [h1]
    have e1 : (((d1 : Nat) : Int) == 0) = false := by simp; omega
    clear hq h1
    go_enter Try.func72, Try.ntmps72
    go_wp2
    go_ret
    exact ⟨rfl, hb⟩

set_option maxHeartbeats 4000000 in
theorem refEnts_any (L : List Ent) (v : Value) (w : World) (h : IsEnts w v L) (hf : ∀ x ∈ L, x.name.size ≤ maxLen) (r : Int) (hr : chkEnts L = r) :
    Calls Try.prog 46 #[v] w fun e w' => e = .returned (.int .i64 r) ∧ Below w.heap.size w w' := by
  obtain ⟨a, cap, rfl, hn, _, hc⟩ := h
  unfold maxLen at hn
  have HC := Lib.hid hc
  have HF := Lib.hid hf
  clear hc hf
  unfold chkEnts at hr
  by_cases hlen : 200 < L.length
  · rw [if_pos hlen] at hr
    subst hr
    go_enter Try.func46, Try.ntmps46
    go_wp2
    go_ret
    exact ⟨rfl, Below.refl _ _⟩
  rw [if_neg hlen] at hr
  have HR : Hid (entsFrom (prv L 0) (L.drop 0) = r) := Lib.hid hr
  clear hr
  go_enter Try.func46, Try.ntmps46
  go_wp2
  go_loopw [3] (fun s10 wr => ∃ j : Nat, j ≤ L.length ∧ s10 = .int .i64 j ∧ Hid (entsFrom (prv L j) (L.drop j) = r) ∧ Below w.heap.size w wr) (fun i _ => L.length - (intOf i).toNat)
  case atStart => exact ⟨0, Nat.zero_le _, rfl, HR, Below.refl _ _⟩
  case round =>
    obtain ⟨j, hj, rfl, HJ, hBr⟩ := hrel
    by_cases hlt : j < L.length
    · obtain ⟨b1, o1, rfl, hb1, hcell⟩ := HC.out.resolve_left (by intro e; rw [e] at hlt; simp at hlt)
      obtain ⟨p0, p1, p2, p3⟩ := (hcell j hlt).below hBr hb1
      have hx := HF.out _ (List.getElem_mem hlt)
      by_cases hj0 : j = 0
      · subst hj0
        rw [ents_zero (by omega)] at HJ
        obtain ⟨x, hx0⟩ : ∃ x, L[0] = x := ⟨_, rfl⟩
        rw [hx0] at p0 p1 p2 p3 hx HJ
        rw [Nat.zero_mul, Nat.add_zero] at p0 p1 p2 p3
        simp only [Int.natCast_zero]
        obtain ⟨nm, dir, d1, d2⟩ := x
        simp only at p0 p1 p2 p3 hx HJ
        clear hx0 hcell
        cases hnm : isName nm with
        | false =>
          rw [hnm, if_pos rfl] at HJ
          obtain rfl := HJ.out
          have HN := Lib.hid hnm
          clear hnm HJ
          go_wp2_with fail
          ((with_reducible refine (refName_any nm _ hx false HN.out).mono ?_); rintro e w1 ⟨rfl, rfl⟩)
          go_wp2
          go_ret
          exact ⟨rfl, hBr⟩
        | true =>
          rw [hnm, if_neg (by simp)] at HJ
          have HN := Lib.hid hnm
          clear hnm
          cases hz : decide ((d1, d2) = ((0, 0) : Dig)) with
          | true =>
            rw [if_pos (of_decide_eq_true hz)] at HJ
            obtain rfl := HJ.out
            have HZ := Lib.hid hz
            clear HJ hz
            go_wp2_with fail
            ((with_reducible refine (refName_any nm _ hx true HN.out).mono ?_); rintro e w1 ⟨rfl, rfl⟩)
            go_wp2_with fail
            go_quiet (fail)
            go_wp2_with fail
            ((with_reducible refine (zero_any d1 d2 _ true HZ.out).mono ?_); rintro e w1 ⟨rfl, hb1⟩)
            have hb := below_drewN hBr nq
            go_wp2
            go_ret
            exact ⟨rfl, hb.trans (hb1.mono hb.size)⟩
          | false =>
            rw [if_neg (of_decide_eq_false hz)] at HJ
            have HZ := Lib.hid hz
            clear hz
            go_wp2_with fail
            ((with_reducible refine (refName_any nm _ hx true HN.out).mono ?_); rintro e w1 ⟨rfl, rfl⟩)
            go_wp2_with fail
            go_quiet (fail)
            go_wp2_with fail
            ((with_reducible refine (zero_any d1 d2 _ false HZ.out).mono ?_); rintro e w1 ⟨rfl, hb1⟩)
            have hb := below_drewN hBr nq
            go_wp2
            go_roundw
            case rel => exact ⟨1, by omega, by go_num, HJ, hb.trans (hb1.mono hb.size)⟩
            case measure => simp [intOf]; omega
      · obtain ⟨j, rfl⟩ : ∃ i, j = i + 1 := ⟨j - 1, by omega⟩
        clear hj0
        have hlt1 : (j : Int) + 1 < (L.length : Int) := by omega
        have hnn : ¬ (j : Int) + 1 < 0 := by omega
        have htn : ((j : Int) + 1).toNat = j + 1 := by omega
        have wj : IntKind.i64.wrap (j : Int) = j := IntWalk.i64_in _ (by omega)
        obtain ⟨q0, _, _, _⟩ := (hcell j (by omega)).below hBr hb1
        rw [ents_succ hlt] at HJ
        obtain ⟨x, hx0⟩ : ∃ x, L[j + 1] = x := ⟨_, rfl⟩
        obtain ⟨y, hy0⟩ : ∃ y, L[j].name = y := ⟨_, rfl⟩
        rw [hx0, hy0] at HJ
        rw [hx0] at p0 p1 p2 p3 hx
        rw [hy0] at q0
        obtain ⟨nm, dir, d1, d2⟩ := x
        simp only at p0 p1 p2 p3 hx HJ
        clear hx0 hy0 hcell
        cases hnm : isName nm with
        | false =>
          rw [hnm, if_pos rfl] at HJ
          obtain rfl := HJ.out
          have HN := Lib.hid hnm
          clear hnm HJ
          go_wp2_with fail
          ((with_reducible refine (refName_any nm _ hx false HN.out).mono ?_); rintro e w1 ⟨rfl, rfl⟩)
          go_wp2
          go_ret
          exact ⟨rfl, hBr⟩
        | true =>
          rw [hnm, if_neg (by simp)] at HJ
          have HN := Lib.hid hnm
          clear hnm
          cases hl : bl y nm with
          | false =>
            rw [hl, if_pos rfl] at HJ
            obtain rfl := HJ.out
            have hl : Op.bytesLess y.toList nm.toList = false := hl
            clear HJ
            go_wp2_with fail
            ((with_reducible refine (refName_any nm _ hx true HN.out).mono ?_); rintro e w1 ⟨rfl, rfl⟩)
            go_wp2_with fail
            go_quiet (fail)
            go_wp2
            go_ret
            exact ⟨rfl, below_drewN hBr nq⟩
          | true =>
            rw [hl, if_neg (by simp)] at HJ
            have hl : Op.bytesLess y.toList nm.toList = true := hl
            cases hz : decide ((d1, d2) = ((0, 0) : Dig)) with
            | true =>
              rw [if_pos (of_decide_eq_true hz)] at HJ
              obtain rfl := HJ.out
              have HZ := Lib.hid hz
              clear HJ hz
              go_wp2_with fail
              ((with_reducible refine (refName_any nm _ hx true HN.out).mono ?_); rintro e w1 ⟨rfl, rfl⟩)
              go_wp2_with fail
              go_quiet (fail)
              go_wp2_with fail
              ((with_reducible refine (zero_any d1 d2 _ true HZ.out).mono ?_); rintro e w1 ⟨rfl, hb1⟩)
              have hb := below_drewN hBr nq
              go_wp2
              go_ret
              exact ⟨rfl, hb.trans (hb1.mono hb.size)⟩
            | false =>
              rw [if_neg (of_decide_eq_false hz)] at HJ
              have HZ := Lib.hid hz
              clear hz
              go_wp2_with fail
              ((with_reducible refine (refName_any nm _ hx true HN.out).mono ?_); rintro e w1 ⟨rfl, rfl⟩)
              go_wp2_with fail
              go_quiet (fail)
              go_wp2_with fail
              ((with_reducible refine (zero_any d1 d2 _ false HZ.out).mono ?_); rintro e w1 ⟨rfl, hb1⟩)
              have hb := below_drewN hBr nq
              go_wp2
              go_roundw
              case rel => exact ⟨j + 2, by omega, by go_num, HJ, hb.trans (hb1.mono hb.size)⟩
              case measure => simp [intOf]; omega
    · have HJ := HJ.out
      rw [ents_end (by omega)] at HJ
      subst HJ
      go_wp2
      go_ret
      exact ⟨rfl, hBr⟩
end Go.Proofs.Ytiaahjoldahlnaa
