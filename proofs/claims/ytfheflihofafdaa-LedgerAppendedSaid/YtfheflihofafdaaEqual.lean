/- slices.Equal at digests, at this translation. -/
import Derived.Test.YtfheflihofafdaaOpen
namespace Go.Proofs.Ytfheflihofafdaa
open Go.RowKit Go.Great Pt Tr

theorem neq_arr (a b c d : Int) (w : World) : (binOp .neq 40 (.agg #[.int .u64 a, .int .u64 b]) (.agg #[.int .u64 c, .int .u64 d])).run Try.prog w = .ok (.bool (!(a == c && b == d))) w := by
  rw [run_neq_struct, eq_arr]
  rfl
attribute [local go_sem] eq_arr
attribute [local go_sem 2000] neq_arr
set_option maxRecDepth 100000 in
set_option maxHeartbeats 4000000 in
theorem equal_len (a b : Option Addr) (n m c d : Nat) (h : n ≠ m) (w : World) :
    Calls Try.prog 23 #[.slice a n c, .slice b m d] w fun e w' => e = .returned (.bool false) ∧ Below w.heap.size w w' := by
  have e : ((n : Int) != (m : Int)) = true := by simp; omega
  clear h
  go_enter Try.func23, Try.ntmps23
  go_wp2
  go_ret
  exact ⟨rfl, Below.refl _ _⟩
set_option maxRecDepth 100000 in
set_option maxHeartbeats 4000000 in
theorem equal_any (L M : List Dig) (u v : Value) (w : World) (hu : IsDigs w u L) (hv : IsDigs w v M) :
    Calls Try.prog 23 #[u, v] w fun e w' => e = .returned (.bool (decide (L = M))) ∧ Below w.heap.size w w' := by
  by_cases hlen : ¬ L.length = M.length
  · obtain ⟨a, c, rfl, h1, _⟩ := hu
    obtain ⟨b, d, rfl, h2, _⟩ := hv
    have : decide (L = M) = false := by simp; intro e; exact hlen (by rw [e])
    rw [this]
    exact equal_len a b _ _ c d hlen w
  have hlen := Classical.not_not.1 hlen
  obtain ⟨a, c, rfl, hlc, h1, hL⟩ := hu
  obtain ⟨b, d, rfl, hmd, h2, hM⟩ := hv
  have HL := Lib.hid hL
  have HM := Lib.hid hM
  have HE := Lib.hid hlen
  obtain ⟨q, hq⟩ : ∃ q, decide (L = M) = q := ⟨_, rfl⟩
  rw [hq]
  have HQ := Lib.hid hq
  clear hq hL hM
  rw [← hlen] at hmd ⊢
  clear hlen
  unfold maxLen at h1 h2
  go_enter Try.func23, Try.ntmps23
  go_wp2
  go_loopw [13] (fun i wr => ∃ k : Nat, k ≤ L.length ∧ i = .int .i64 k ∧ Hid (L.take k = M.take k) ∧ Below w.heap.size w wr) (fun i _ => L.length - (intOf i).toNat)
  case atStart => exact ⟨0, Nat.zero_le _, rfl, Lib.hid rfl, Below.refl _ _⟩
  case round =>
    obtain ⟨k, hk, rfl, HT, hBr⟩ := hrel
    by_cases hlt : k < L.length
    · have hltM : k < M.length := by rw [← HE.out]; exact hlt
      obtain ⟨b1, o1, rfl, hb1, hc1⟩ := HL.out.resolve_left (by intro e; rw [e] at hlt; simp at hlt)
      obtain ⟨b2, o2, rfl, hb2, hc2⟩ := HM.out.resolve_left (by intro e; rw [e] at hltM; simp at hltM)
      obtain ⟨p0, p1⟩ := hc1 k L[k] (List.getElem?_eq_getElem hlt)
      obtain ⟨q0, q1⟩ := hc2 k M[k] (List.getElem?_eq_getElem hltM)
      have p0 := (hBr.cell (p := ⟨b1, o1 + k * 2, none⟩) hb1).trans p0
      have p1 := (hBr.cell (p := ⟨b1, o1 + k * 2 + 1, none⟩) hb1).trans p1
      have q0 := (hBr.cell (p := ⟨b2, o2 + k * 2, none⟩) hb2).trans q0
      have q1 := (hBr.cell (p := ⟨b2, o2 + k * 2 + 1, none⟩) hb2).trans q1
      clear hc1 hc2
      have HS := Lib.hid (show L.take (k + 1) = L.take k ++ [L[k]] from List.take_succ_eq_append_getElem hlt)
      have HS2 := Lib.hid (show M.take (k + 1) = M.take k ++ [M[k]] from List.take_succ_eq_append_getElem hltM)
      have HX : Hid (L = M → L[k] = M[k]) := Lib.hid fun e => by subst e; rfl
      generalize L[k] = x at *
      generalize M[k] = y at *
      have hD := dig_eqB x y
      obtain ⟨x0, x1⟩ := x
      obtain ⟨y0, y1⟩ := y
      simp only at p0 p1 q0 q1 hD
      have z1 : (0 : Int) ≤ (k : Int) := by omega
      have z2 : (k : Int) < (L.length : Int) := by omega
      cases hxy : decide ((x0, x1) = (y0, y1)) with
      | true =>
        rw [hxy] at hD
        have HXY := Lib.hid hxy
        clear hxy
        go_wp2_with fail
        go_quiet (fail)
        go_wp2
        go_roundw
        case rel => exact ⟨k + 1, by omega, by go_num, Lib.hid (by rw [HS.out, HS2.out, HT.out, of_decide_eq_true HXY.out]), blN hBr _⟩
        case measure => simp [intOf]; omega
      | false =>
        rw [hxy] at hD
        have e : q = false := by
          rw [← HQ.out]
          simp only [decide_eq_false_iff_not]
          intro e
          exact of_decide_eq_false hxy (HX.out e)
        subst e
        clear hxy
        go_wp2_with fail
        go_quiet (fail)
        go_wp2
        go_ret
        exact ⟨rfl, blN hBr _⟩
    · have e : q = true := by
        rw [← HQ.out]
        have h := HT.out
        rw [List.take_of_length_le (by omega), List.take_of_length_le (by rw [← HE.out]; omega)] at h
        simp [h]
      subst e
      go_wp2
      go_ret
      exact ⟨rfl, hBr⟩
end Go.Proofs.Ytfheflihofafdaa
