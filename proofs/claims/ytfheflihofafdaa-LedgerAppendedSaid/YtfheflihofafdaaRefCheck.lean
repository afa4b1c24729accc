/- The reference's Check of a ledger, at this translation. -/
import Derived.Test.YtfheflihofafdaaCheck
import Derived.BigQuiet
import Derived.Deep.QuietTactic
namespace Go.Proofs.Ytfheflihofafdaa
open Go.RowKit Go.Great Pt Tr

/-- The time ahead of a record. -/
def prvT (L : List Rec) (j : Nat) : Int := if h : 0 < j ∧ j - 1 < L.length then (L[j - 1]'h.2).time else 0
theorem prvT_succ (L : List Rec) (j : Nat) (h : j < L.length) : prvT L (j + 1) = L[j].time := by
  unfold prvT
  rw [dif_pos ⟨by omega, by simpa using h⟩]
  rfl
theorem okR_time {r : Rec} (h : okR r = true) : 0 ≤ r.time := by
  simp only [okR, Bool.and_eq_true, decide_eq_true_eq] at h
  exact h.1.1.1.1

set_option maxRecDepth 100000 in
set_option maxHeartbeats 4000000 in
theorem refCheck_any (L : List Rec) (v : Value) (w : World) (h : IsRecs w v L) (hf : ∀ x ∈ L, x.Fit) (r : Int) (hr : chkL L = r) :
    Calls Try.prog 15 #[.agg #[v]] w fun e w' => e = .returned (.int .i64 r) ∧ Below w.heap.size w w' := by
  obtain ⟨a, cap, rfl, hn, _, hc⟩ := h
  unfold maxLen at hn
  have HC := Lib.hid hc
  have HF := Lib.hid hf
  clear hc hf
  unfold chkL at hr
  by_cases hlen : 10000 < L.length
  · rw [if_pos hlen] at hr
    subst hr
    go_enter Try.func15, Try.ntmps15
    go_wp2
    go_ret
    exact ⟨rfl, bla (Below.refl _ _) _⟩
  rw [if_neg hlen] at hr
  have HR : Hid (chkFrom (prvT L 0) (L.drop 0) = r) := Lib.hid hr
  clear hr
  have hlen' : ¬ (10000 : Int) < L.length := by omega
  have c0 : (w.alloc (.cells #[.slice a L.length cap] 24)).cell? ⟨w.heap.size, 0, none⟩ = some (.slice a L.length cap) := by simp [World.cell?_alloc_new]
  go_enter Try.func15, Try.ntmps15
  go_wp2
  go_loopw [3] (fun s3 wr => ∃ j : Nat, j ≤ L.length ∧ s3 = .int .i64 j ∧ Hid (chkFrom (prvT L j) (L.drop j) = r) ∧ Below w.heap.size w wr ∧ wr.cell? ⟨w.heap.size, 0, none⟩ = some (.slice a L.length cap) ∧ w.heap.size < wr.heap.size) (fun i _ => L.length - (intOf i).toNat)
  case atStart => exact ⟨0, Nat.zero_le _, rfl, HR, bla (Below.refl _ _) _, c0, by simp⟩
  case round =>
    obtain ⟨j, hj, rfl, HJ, hBr, hbox, hsz⟩ := hrel
    clear c0
    by_cases hlt : j < L.length
    · obtain ⟨b1, o1, rfl, hb1, hcell⟩ := HC.out.resolve_left (by intro e; rw [e] at hlt; simp at hlt)
      obtain ⟨p0, p1, p2, p3⟩ := (hcell j hlt).below hBr hb1
      have HX := Lib.hid (HF.out _ (List.getElem_mem hlt))
      have HS := Lib.hid (chk_step L j hlt (prvT L j))
      have HP := Lib.hid (prvT_succ L j hlt)
      obtain ⟨x, hx0⟩ : ∃ x, L[j] = x := ⟨_, rfl⟩
      rw [hx0] at p0 p1 p2 p3 HX HS HP
      obtain ⟨t, n1, n2, n3⟩ := x
      simp only at p0 p1 p2 p3
      cases hv : okR ⟨t, n1, n2, n3⟩ with
      | false =>
        have e : r = 1 := by rw [← HJ.out, HS.out, hv]; simp
        subst e
        clear hcell hx0
        go_wp2_with fail
        ((with_reducible refine (refValid_any ⟨t, n1, n2, n3⟩ _ HX.out false hv).mono ?_); rintro e w1 ⟨rfl, hb⟩)
        go_wp2
        go_ret
        exact ⟨rfl, bl hBr hb⟩
      | true =>
        have h0 := Lib.hid (okR_time hv)
        have HV := Lib.hid hv
        clear hv
        go_wp2_with fail
        ((with_reducible refine (refValid_any ⟨t, n1, n2, n3⟩ _ HX.out true HV.out).mono ?_); rintro e w1 ⟨rfl, hb⟩)
        have hbox1 : w1.cell? ⟨w.heap.size, 0, none⟩ = some (.slice (some ⟨b1, o1, none⟩) L.length cap) := (hb.cell (p := ⟨w.heap.size, 0, none⟩) hsz).trans hbox
        have hB1 := bl hBr hb
        have hs1 : w.heap.size < w1.heap.size := Nat.lt_of_lt_of_le hsz hb.size
        obtain ⟨q0, q1, q2, q3⟩ : RecAt w1 b1 (o1 + j * 4) ⟨t, n1, n2, n3⟩ := by
          have h := (hcell j hlt).below hB1 hb1
          rw [hx0] at h
          exact h
        simp only at q0
        clear p0 p1 p2 p3 hbox q1 q2 q3
        by_cases hj0 : j = 0
        · subst hj0
          clear hx0 hcell
          rw [Nat.zero_mul, Nat.add_zero] at q0
          have HN : Hid (chkFrom t (L.drop 1) = r) := Lib.hid (by
            rw [← HJ.out, HS.out, HV.out, if_neg (by simp), if_neg (show ¬ t < prvT L 0 by have := h0.out; simp [prvT]; omega)])
          simp only [Int.natCast_zero]
          go_wp2
          go_quiet (fail)
          go_wp2
          go_roundw
          case rel => exact ⟨1, hlt, by go_num, Lib.hid (by rw [HP.out]; exact HN.out), by first | exact hB1 | exact ⟨hB1.os, hB1.tape, hB1.output, hB1.size, hB1.block⟩, by first | exact hbox1 | simpa using hbox1, by first | exact hs1 | simpa using hs1⟩
          case measure => simp [intOf]; omega
        · obtain ⟨k, rfl⟩ : ∃ k, j = k + 1 := ⟨j - 1, by omega⟩
          obtain ⟨s0, _, _, _⟩ := (hcell k (by omega)).below hB1 hb1
          have hpk := prvT_succ L k (by omega)
          obtain ⟨y, hy⟩ : ∃ y, L[k].time = y := ⟨_, rfl⟩
          rw [hy] at s0 hpk
          clear hx0 hcell hy
          have ek : (((k + 1 : Nat) : Int)) - 1 = (k : Int) := by omega
          have gk : (0 : Int) < ((k + 1 : Nat) : Int) := by omega
          by_cases ht : t < y
          · have e : r = 10 := by rw [← HJ.out, HS.out, HV.out, hpk]; simp [ht]
            subst e
            clear hpk
            go_wp2
            go_quiet (fail)
            go_wp2
            go_ret
            exact ⟨rfl, by first | exact hB1 | exact ⟨hB1.os, hB1.tape, hB1.output, hB1.size, hB1.block⟩⟩
          · have HN : Hid (chkFrom t (L.drop (k + 1 + 1)) = r) := Lib.hid (by
              rw [← HJ.out, HS.out, HV.out, hpk, if_neg (by simp), if_neg (show ¬ t < y by omega)])
            clear hpk
            go_wp2
            go_quiet (fail)
            go_wp2
            go_roundw
            case rel => exact ⟨k + 1 + 1, hlt, by go_num, Lib.hid (by rw [HP.out]; exact HN.out), by first | exact hB1 | exact ⟨hB1.os, hB1.tape, hB1.output, hB1.size, hB1.block⟩, by first | exact hbox1 | simpa using hbox1, by first | exact hs1 | simpa using hs1⟩
            case measure => simp [intOf]; omega
    · have e : r = 0 := by rw [← HJ.out, chk_end L j (by omega)]
      subst e
      go_wp2
      go_ret
      exact ⟨rfl, hBr⟩
end Go.Proofs.Ytfheflihofafdaa
