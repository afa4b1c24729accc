/- digest.Format returns the thirty-two hexadecimal digits of its two numbers, at this translation. -/
import Derived.Test.YtamhokedekhocaaBuild
import Derived.Test.YtamhokedekhocaaShelf
import Derived.Test.YtamhokedekhocaaMath
import Derived.Lib.Hide
namespace Go.Proofs.Ytamhokedekhocaa
open Go.RowKit
theorem lit_get (k : Nat) (h : k < 16) (h' : k < (ByteArray.mk #[48, 49, 50, 51, 52, 53, 54, 55, 56, 57, 97, 98, 99, 100, 101, 102]).size) :
    (ByteArray.mk #[48, 49, 50, 51, 52, 53, 54, 55, 56, 57, 97, 98, 99, 100, 101, 102])[k]'h' = hx k := by
  revert k
  decide
theorem byteCells_snoc (l : List UInt8) (c : UInt8) : Lib.byteCells (l ++ [c]) = Lib.byteCells l ++ [.int .u8 c.toNat] := by
  simp [Lib.byteCells]

theorem and_facts (n j : Nat) (hn : n < 2 ^ 64) : bits .and .u64 ((n : Int) / 2 ^ (60 - 4 * j)) 15 = ((n / 2 ^ (60 - 4 * j) % 16 : Nat) : Int) := by
  have := u64_and15 (n / 2 ^ (60 - 4 * j)) (Nat.lt_of_le_of_lt (Nat.div_le_self _ _) hn)
  rw [← this]
  congr 1

set_option maxHeartbeats 1000000 in
theorem format_any (n0 n1 : Nat) (hn0 : n0 < 2 ^ 64) (hn1 : n1 < 2 ^ 64) (w : World) :
    Calls Try.prog 19 #[.agg #[.int .u64 n0, .int .u64 n1]] w fun e w' => e = .returned (.string ⟨(fmtW 16 n0 ++ fmtW 16 n1).toArray⟩) ∧ Below w.heap.size w w' := by
  have i0 : ∀ w, (Instr.index 24 (.agg #[.int .u64 n0, .int .u64 n1]) (.int .i64 0)).run Try.prog w = .ok (.int .u64 n0) w := fun _ => by kernel_rfl
  have i1 : ∀ w, (Instr.index 24 (.agg #[.int .u64 n0, .int .u64 n1]) (.int .i64 1)).run Try.prog w = .ok (.int .u64 n1) w := fun _ => by kernel_rfl
  go_enter Try.func19, Try.ntmps19
  go_wp2
  go_loopw [8] (fun i wr => ((i = .int .i64 0 ∧ Lib.IsBuilder 60 5 (w.heap.size + 1) (w.heap.size + 1) (Lib.byteCells []) wr) ∨ (i = .int .i64 1 ∧ Lib.IsBuilder 60 5 (w.heap.size + 1) (w.heap.size + 1) (Lib.byteCells (fmtW 16 n0)) wr) ∨
      (i = .int .i64 2 ∧ Lib.IsBuilder 60 5 (w.heap.size + 1) (w.heap.size + 1) (Lib.byteCells (fmtW 16 n0 ++ fmtW 16 n1)) wr)) ∧ w.heap.size + 2 ≤ wr.heap.size ∧ Below w.heap.size w wr) (fun i _ => (2 - intOf i).toNat)
  case atStart =>
    refine ⟨.inl ⟨rfl, ?_⟩, by simp, ?_⟩
    · have := Lib.fresh_isBuilder 60 5 (w.alloc (.cells #[.int .u64 n0, .int .u64 n1] 24))
      rw [World.size_alloc] at this
      exact this
    · exact ((Below.refl _ _).alloc (Nat.le_refl _) _).alloc (by simp) _
  case round =>
    obtain ⟨⟨rfl, hb⟩ | ⟨rfl, hb⟩ | ⟨rfl, hb⟩, hz, hB⟩ := hrel
    · go_wp2
      go_loopw [6] (fun i wr => ∃ j : Nat, j ≤ 16 ∧ i = .int .i64 (60 - 4 * j : Int) ∧ Lib.IsBuilder 60 5 (w.heap.size + 1) (w.heap.size + 1) (Lib.byteCells (fmtW j (n0 / 16 ^ (16 - j)))) wr ∧ w.heap.size + 2 ≤ wr.heap.size ∧ Below w.heap.size w wr) (fun i _ => (intOf i + 4).toNat)
      case atStart => exact ⟨0, by omega, rfl, hb, hz, hB⟩
      case round =>
        obtain ⟨j, hj, rfl, hb, hz, hB⟩ := hrel
        by_cases hlt : j < 16
        · have hm := and_facts n0 j hn0
          have hs := fmtW_step n0 j hlt
          have hm0 : 0 ≤ bits .and .u64 ((n0 : Int) / 2 ^ (60 - 4 * j)) 15 := by rw [hm]; omega
          have hm1 : bits .and .u64 ((n0 : Int) / 2 ^ (60 - 4 * j)) 15 < 16 := by rw [hm]; omega
          have HM := Lib.hid hm
          have HS := Lib.hid hs
          clear hm hs
          go_wp2_with fail
          refine (writeByte_any _ _ _ _ wr hb (by simp [Lib.byteCells, fmtW_length]; omega) ?_).mono ?_
          · omega
          · rintro e w2 ⟨rfl, hb2, hB2⟩
            have hlit := lit_get (bits .and .u64 ((n0 : Int) / 2 ^ (60 - 4 * j)) 15).toNat (by omega) (Nat.lt_of_lt_of_le (by omega) (Nat.le_refl 16))
            rw [hlit, HM.out, Int.toNat_natCast, ← byteCells_snoc, ← HS.out] at hb2
            clear hlit
            have hz2 := hB2.size
            go_wp2
            go_roundw
            case rel => exact ⟨j + 1, by omega, by go_num, .inr hb2, by omega, hB.trans (hB2.mono (by omega))⟩
            case measure => simp [intOf]; omega
        · obtain rfl : j = 16 := by omega
          go_wp2
          go_roundw
          case rel => exact ⟨.inr (.inl ⟨rfl, by simpa using hb⟩), hz, hB⟩
          case measure => simp [intOf]
    · go_wp2
      go_loopw [6] (fun i wr => ∃ j : Nat, j ≤ 16 ∧ i = .int .i64 (60 - 4 * j : Int) ∧ Lib.IsBuilder 60 5 (w.heap.size + 1) (w.heap.size + 1) (Lib.byteCells (fmtW 16 n0 ++ fmtW j (n1 / 16 ^ (16 - j)))) wr ∧ w.heap.size + 2 ≤ wr.heap.size ∧ Below w.heap.size w wr) (fun i _ => (intOf i + 4).toNat)
      case atStart => exact ⟨0, by omega, rfl, by simpa [fmtW] using hb, hz, hB⟩
      case round =>
        obtain ⟨j, hj, rfl, hb, hz, hB⟩ := hrel
        by_cases hlt : j < 16
        · have hm := and_facts n1 j hn1
          have hs := fmtW_step n1 j hlt
          have hm0 : 0 ≤ bits .and .u64 ((n1 : Int) / 2 ^ (60 - 4 * j)) 15 := by rw [hm]; omega
          have hm1 : bits .and .u64 ((n1 : Int) / 2 ^ (60 - 4 * j)) 15 < 16 := by rw [hm]; omega
          have HM := Lib.hid hm
          have HS := Lib.hid hs
          clear hm hs
          go_wp2_with fail
          refine (writeByte_any _ _ _ _ wr hb (by simp [Lib.byteCells, fmtW_length]; omega) ?_).mono ?_
          · omega
          · rintro e w2 ⟨rfl, hb2, hB2⟩
            have hlit := lit_get (bits .and .u64 ((n1 : Int) / 2 ^ (60 - 4 * j)) 15).toNat (by omega) (Nat.lt_of_lt_of_le (by omega) (Nat.le_refl 16))
            rw [hlit, HM.out, Int.toNat_natCast, ← byteCells_snoc, List.append_assoc, ← HS.out] at hb2
            clear hlit
            have hz2 := hB2.size
            go_wp2
            go_roundw
            case rel => exact ⟨j + 1, by omega, by go_num, .inr hb2, by omega, hB.trans (hB2.mono (by omega))⟩
            case measure => simp [intOf]; omega
        · obtain rfl : j = 16 := by omega
          go_wp2
          go_roundw
          case rel => exact ⟨.inr (.inr ⟨rfl, by simpa using hb⟩), hz, hB⟩
          case measure => simp [intOf]
    · go_wp2_with fail
      refine (Try.Builder_String_any _ _ _ wr hb (by omega)).mono ?_
      rintro e w2 ⟨rfl, hB2⟩
      go_wp2
      go_ret
      exact ⟨rfl, hB.trans (hB2.mono (by omega))⟩
end Go.Proofs.Ytamhokedekhocaa
