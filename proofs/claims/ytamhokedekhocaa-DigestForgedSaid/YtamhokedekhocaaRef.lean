/- The reference implementation's Of, Compare, bytes, Node and Pair, and the program's bytesOf and Pair, at this translation. -/
import Derived.Test.YtamhokedekhocaaOrder
namespace Go.Proofs.Ytamhokedekhocaa
open Go.RowKit
attribute [local go_sem] eq_arr

set_option maxHeartbeats 400000 in
theorem refOf_any (s : ByteArray) (w : World) (hs0 : s.size ≤ maxLen) :
    Calls Try.prog 12 #[.string s] w fun e w' => e = .returned (.agg #[.int .u64 (of0 s.data.toList), .int .u64 (of1 s.data.toList)]) ∧ Below w.heap.size w w' := by
  unfold maxLen at hs0
  go_enter Try.func12, Try.ntmps12
  go_wp2
  go_loop [3, 4, 5] (fun a b i => ∃ k : Nat, k ≤ s.size ∧ i = .int .i64 k ∧ a = .int .u64 (hs g1 (s.data.toList.take k)) ∧ b = .int .u64 (hs g2 (s.data.toList.take k))) (fun _ _ i => s.size - (intOf i).toNat)
  case atStart => exact ⟨0, Nat.zero_le _, rfl, rfl, rfl⟩
  case round =>
    obtain ⟨k, hk, rfl, rfl, rfl⟩ := hrel
    by_cases hlt : k < s.size
    · have h1 := hs_snoc g1 (s.data.toList.take k) s[k]
      have h2 := hs_snoc g2 (s.data.toList.take k) s[k]
      rw [← take_snoc s k hlt] at h1 h2
      have H1 := Lib.hid h1
      have H2 := Lib.hid h2
      clear h1 h2
      go_wp2
      go_round
      case rel => exact ⟨k + 1, by omega, by go_num, by rw [H1.out]; rfl, by rw [H2.out]; rfl⟩
      case measure => simp [intOf]; omega
    · have hks : s.data.toList.take k = s.data.toList := List.take_of_length_le (by simp; omega)
      rw [hks]
      clear hks
      by_cases hz : hs g1 s.data.toList = 0 ∧ hs g2 s.data.toList = 0
      · have e1 : of1 s.data.toList = 1 := by unfold of1; rw [if_pos hz]
        have t1 : (hs g1 s.data.toList == 0) = true := by simp [hz.1]
        have t2 : (hs g2 s.data.toList == 0) = true := by simp [hz.2]
        have E1 := Lib.hid e1
        clear e1 hz
        go_wp2
        exact bodyPost_ret (v := .agg #[.int .u64 (hs g1 s.data.toList), .int .u64 1]) (by simp [results, Try.results12, go_sem]) rfl ⟨by rw [E1.out]; rfl, bla (Below.refl _ _) _⟩
      · have e1 : of1 s.data.toList = hs g2 s.data.toList := by unfold of1; rw [if_neg hz]
        have E1 := Lib.hid e1
        clear e1
        cases t1 : (hs g1 s.data.toList == 0)
        · clear hz
          go_wp2
          exact bodyPost_ret (v := .agg #[.int .u64 (hs g1 s.data.toList), .int .u64 (hs g2 s.data.toList)]) (by simp [results, Try.results12, go_sem]) rfl ⟨by rw [E1.out]; rfl, bla (Below.refl _ _) _⟩
        · have t2 : (hs g2 s.data.toList == 0) = false := by
            have : hs g1 s.data.toList = 0 := by simpa using t1
            simpa [this] using hz
          clear hz
          go_wp2
          exact bodyPost_ret (v := .agg #[.int .u64 (hs g1 s.data.toList), .int .u64 (hs g2 s.data.toList)]) (by simp [results, Try.results12, go_sem]) rfl ⟨by rw [E1.out]; rfl, bla (Below.refl _ _) _⟩

theorem blN {B : Nat} {a b : World} (h : Below B a b) (n : Nat) : Below B a (b.drewN n) := ⟨h.os, h.tape, h.output, h.size, h.block⟩
theorem Held.drewN {w W : World} {a0 a1 b0 b1 : Int} (h : Held w a0 a1 b0 b1 W) (n : Nat) : Held w a0 a1 b0 b1 (W.drewN n) := ⟨h.1, h.2.1, blN h.2.2 n⟩
theorem orI_of (a0 a1 b0 b1 : Int) : orI (cmpI a0 b0) (cmpI a1 b1) = if a0 < b0 then -1 else if b0 < a0 then 1 else if a1 < b1 then -1 else if b1 < a1 then 1 else 0 := by
  unfold orI cmpI
  by_cases c1 : a0 < b0
  · simp [c1]
  · by_cases c2 : b0 < a0
    · simp [c1, c2]
    · simp [c1, c2]

set_option maxHeartbeats 1000000 in
theorem refCompare_any (a0 a1 b0 b1 : Int) (w : World) :
    Calls Try.prog 14 #[.agg #[.int .u64 a0, .int .u64 a1], .agg #[.int .u64 b0, .int .u64 b1]] w fun e w' => e = .returned (.int .i64 (orI (cmpI a0 b0) (cmpI a1 b1))) ∧ Below w.heap.size w w' := by
  have HE := Lib.hid (orI_of a0 a1 b0 b1)
  go_enter Try.func14, Try.ntmps14
  go_wp2
  go_loopw [5] (fun i wr => (i = .int .i64 0 ∨ (i = .int .i64 1 ∧ ¬ a0 < b0 ∧ ¬ b0 < a0) ∨ (i = .int .i64 2 ∧ (¬ a0 < b0 ∧ ¬ b0 < a0) ∧ ¬ a1 < b1 ∧ ¬ b1 < a1)) ∧ Held w a0 a1 b0 b1 wr) (fun i _ => (2 - intOf i).toNat)
  case atStart =>
    refine ⟨.inl rfl, ?_, by simp, bla (bla (Below.refl _ _) _) _⟩
    go_simp
  case round =>
    obtain ⟨hi, ⟨⟨c1, c2, c3, c4⟩, hz, hB⟩⟩ := hrel
    have hH : Held w a0 a1 b0 b1 wr := ⟨⟨c1, c2, c3, c4⟩, hz, hB⟩
    obtain rfl | ⟨rfl, hx, hy⟩ | ⟨rfl, ⟨hx, hy⟩, hx2, hy2⟩ := hi
    · by_cases k1 : a0 < b0
      · go_wp2
        go_quiet (fail)
        go_wp2
        go_ret
        exact ⟨ret_int (by rw [HE.out, if_pos k1]), by first | exact blN hB _ | exact blN (blN hB _) _ | exact hB⟩
      · have d1 : decide (a0 < b0) = false := by simpa using k1
        go_wp2
        go_quiet (fail)
        go_wp2
        by_cases k2 : b0 < a0
        · go_quiet (fail)
          go_wp2
          go_ret
          exact ⟨ret_int (by rw [HE.out, if_neg (show ¬ a0 < b0 by omega), if_pos k2]), by first | exact blN hB _ | exact blN (blN hB _) _ | exact hB⟩
        · have d2 : decide (b0 < a0) = false := by simpa using k2
          go_quiet (fail)
          go_wp2
          go_roundw
          case rel => exact ⟨.inr (.inl ⟨rfl, by omega, by omega⟩), by first | exact hH.drewN _ | exact (hH.drewN _).drewN _⟩
          case measure => simp [intOf]
    · by_cases k1 : a1 < b1
      · go_wp2
        go_quiet (fail)
        go_wp2
        go_ret
        exact ⟨ret_int (by rw [HE.out, if_neg (show ¬ a0 < b0 by omega), if_neg (show ¬ b0 < a0 by omega), if_pos k1]), by first | exact blN hB _ | exact blN (blN hB _) _ | exact hB⟩
      · have d1 : decide (a1 < b1) = false := by simpa using k1
        go_wp2
        go_quiet (fail)
        go_wp2
        by_cases k2 : b1 < a1
        · go_quiet (fail)
          go_wp2
          go_ret
          exact ⟨ret_int (by rw [HE.out, if_neg (show ¬ a0 < b0 by omega), if_neg (show ¬ b0 < a0 by omega), if_neg (show ¬ a1 < b1 by omega), if_pos k2]), by first | exact blN hB _ | exact blN (blN hB _) _ | exact hB⟩
        · have d2 : decide (b1 < a1) = false := by simpa using k2
          go_quiet (fail)
          go_wp2
          go_roundw
          case rel => exact ⟨.inr (.inr ⟨rfl, ⟨by omega, by omega⟩, by omega, by omega⟩), by first | exact hH.drewN _ | exact (hH.drewN _).drewN _⟩
          case measure => simp [intOf]
    · go_wp2
      go_ret
      exact ⟨ret_int (by rw [HE.out, if_neg (show ¬ a0 < b0 by omega), if_neg (show ¬ b0 < a0 by omega), if_neg (show ¬ a1 < b1 by omega), if_neg (show ¬ b1 < a1 by omega)]), by first | exact blN hB _ | exact blN (blN hB _) _ | exact hB⟩
end Go.Proofs.Ytamhokedekhocaa
