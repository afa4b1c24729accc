/- parts.Big and Digest: the bytes of a digest, at this translation. -/
import Derived.Test.YtiaahjoldahlnaaWords
import Derived.Laws.IdiomStrings
import Derived.Laws.MakeOwn
namespace Go.Proofs.Ytiaahjoldahlnaa
open Go.RowKit Go.Great

/-- A byte of a number. -/
def bt (n k : Nat) : UInt8 := UInt8.ofNat (n / 256 ^ k % 256)
theorem bt_val (n k : Nat) : (((bt n k).toNat : Nat) : Int) = ((n / 256 ^ k % 256 : Nat) : Int) := by
  have : (bt n k).toNat = n / 256 ^ k % 256 := by unfold bt; rw [UInt8.toNat_ofNat']; omega
  rw [this]
/-- The eight bytes of a number, the most significant one first. -/
def by8 (n : Nat) : List UInt8 := [bt n 7, bt n 6, bt n 5, bt n 4, bt n 3, bt n 2, bt n 1, bt n 0]
theorem by8_len (n : Nat) : (by8 n).length = 8 := rfl
theorem div256 (n k : Nat) : ((n / 256 ^ k : Nat) : Int) / 256 = ((n / 256 ^ (k + 1) : Nat) : Int) := by
  rw [Nat.pow_succ, ← Nat.div_div_eq_div_mul]; omega
theorem mod256 (n k : Nat) : ((n / 256 ^ k : Nat) : Int) % 256 = ((n / 256 ^ k % 256 : Nat) : Int) := by omega

theorem info5 : (Try.prog.info? 5).map (fun i => (i.zero, i.size, i.bytes)) = some (some (.int .u8 0), 1, 1) := by kernel_rfl
theorem info5_parts : ∃ i, Try.prog.info? 5 = some i ∧ i.zero = some (.int .u8 0) ∧ i.size = 1 ∧ i.bytes = 1 := by
  have h := info5
  cases hi : Try.prog.info? 5 with
  | none => rw [hi] at h; simp at h
  | some i =>
    rw [hi] at h
    simp at h
    exact ⟨i, rfl, h.1, h.2.1, h.2.2⟩
theorem run_mk8 (W : World) : (Instr.makeSlice 69 (.int .i64 8) (.int .i64 8)).run Try.prog W = .ok (.slice (some ⟨W.heap.size, 0, none⟩) 8 8) (W.alloc (.cells #[.int .u8 0, .int .u8 0, .int .u8 0, .int .u8 0, .int .u8 0, .int .u8 0, .int .u8 0, .int .u8 0] 5)) := by
  obtain ⟨i0, hi, hz0, hz1, hz2⟩ := info5_parts
  have h := run_make (P := Try.prog) W 69 5 i0 (.int .u8 0) Try.underlying69 hi hz0 .i64 .i64 8 8 (by omega) (Int.le_refl _) (by rw [hz2]; omega) (by omega)
  rw [hz1] at h
  have e : madeCells (Value.int IntKind.u8 0).cells (Int.toNat 8 * 1) = #[.int .u8 0, .int .u8 0, .int .u8 0, .int .u8 0, .int .u8 0, .int .u8 0, .int .u8 0, .int .u8 0] := by kernel_rfl
  rw [e] at h
  exact h
theorem run_mk16 (W : World) : (Instr.makeSlice 69 (.int .i64 16) (.int .i64 16)).run Try.prog W = .ok (.slice (some ⟨W.heap.size, 0, none⟩) 16 16) (W.alloc (.cells #[.int .u8 0, .int .u8 0, .int .u8 0, .int .u8 0, .int .u8 0, .int .u8 0, .int .u8 0, .int .u8 0, .int .u8 0, .int .u8 0, .int .u8 0, .int .u8 0, .int .u8 0, .int .u8 0, .int .u8 0, .int .u8 0] 5)) := by
  obtain ⟨i0, hi, hz0, hz1, hz2⟩ := info5_parts
  have h := run_make (P := Try.prog) W 69 5 i0 (.int .u8 0) Try.underlying69 hi hz0 .i64 .i64 16 16 (by omega) (Int.le_refl _) (by rw [hz2]; omega) (by omega)
  rw [hz1] at h
  have e : madeCells (Value.int IntKind.u8 0).cells (Int.toNat 16 * 1) = #[.int .u8 0, .int .u8 0, .int .u8 0, .int .u8 0, .int .u8 0, .int .u8 0, .int .u8 0, .int .u8 0, .int .u8 0, .int .u8 0, .int .u8 0, .int .u8 0, .int .u8 0, .int .u8 0, .int .u8 0, .int .u8 0] := by kernel_rfl
  rw [e] at h
  exact h

/-- The rounds of Big. -/
def BigAt (n : Nat) (w : World) (s0 s11 : Value) (wr : World) : Prop :=
  (s0 = .int .u64 ((n / 256 ^ 0 : Nat) : Int) ∧ s11 = .int .i64 0 ∧ wr = w.alloc (.cells #[.int .u8 0, .int .u8 0, .int .u8 0, .int .u8 0, .int .u8 0, .int .u8 0, .int .u8 0, .int .u8 0] 5)) ∨ (s0 = .int .u64 ((n / 256 ^ 1 : Nat) : Int) ∧ s11 = .int .i64 1 ∧ wr = w.alloc (.cells #[.int .u8 0, .int .u8 0, .int .u8 0, .int .u8 0, .int .u8 0, .int .u8 0, .int .u8 0, .int .u8 ((n / 256 ^ 0 % 256 : Nat) : Int)] 5)) ∨ (s0 = .int .u64 ((n / 256 ^ 2 : Nat) : Int) ∧ s11 = .int .i64 2 ∧ wr = w.alloc (.cells #[.int .u8 0, .int .u8 0, .int .u8 0, .int .u8 0, .int .u8 0, .int .u8 0, .int .u8 ((n / 256 ^ 1 % 256 : Nat) : Int), .int .u8 ((n / 256 ^ 0 % 256 : Nat) : Int)] 5)) ∨ (s0 = .int .u64 ((n / 256 ^ 3 : Nat) : Int) ∧ s11 = .int .i64 3 ∧ wr = w.alloc (.cells #[.int .u8 0, .int .u8 0, .int .u8 0, .int .u8 0, .int .u8 0, .int .u8 ((n / 256 ^ 2 % 256 : Nat) : Int), .int .u8 ((n / 256 ^ 1 % 256 : Nat) : Int), .int .u8 ((n / 256 ^ 0 % 256 : Nat) : Int)] 5)) ∨ (s0 = .int .u64 ((n / 256 ^ 4 : Nat) : Int) ∧ s11 = .int .i64 4 ∧ wr = w.alloc (.cells #[.int .u8 0, .int .u8 0, .int .u8 0, .int .u8 0, .int .u8 ((n / 256 ^ 3 % 256 : Nat) : Int), .int .u8 ((n / 256 ^ 2 % 256 : Nat) : Int), .int .u8 ((n / 256 ^ 1 % 256 : Nat) : Int), .int .u8 ((n / 256 ^ 0 % 256 : Nat) : Int)] 5)) ∨ (s0 = .int .u64 ((n / 256 ^ 5 : Nat) : Int) ∧ s11 = .int .i64 5 ∧ wr = w.alloc (.cells #[.int .u8 0, .int .u8 0, .int .u8 0, .int .u8 ((n / 256 ^ 4 % 256 : Nat) : Int), .int .u8 ((n / 256 ^ 3 % 256 : Nat) : Int), .int .u8 ((n / 256 ^ 2 % 256 : Nat) : Int), .int .u8 ((n / 256 ^ 1 % 256 : Nat) : Int), .int .u8 ((n / 256 ^ 0 % 256 : Nat) : Int)] 5)) ∨ (s0 = .int .u64 ((n / 256 ^ 6 : Nat) : Int) ∧ s11 = .int .i64 6 ∧ wr = w.alloc (.cells #[.int .u8 0, .int .u8 0, .int .u8 ((n / 256 ^ 5 % 256 : Nat) : Int), .int .u8 ((n / 256 ^ 4 % 256 : Nat) : Int), .int .u8 ((n / 256 ^ 3 % 256 : Nat) : Int), .int .u8 ((n / 256 ^ 2 % 256 : Nat) : Int), .int .u8 ((n / 256 ^ 1 % 256 : Nat) : Int), .int .u8 ((n / 256 ^ 0 % 256 : Nat) : Int)] 5)) ∨ (s0 = .int .u64 ((n / 256 ^ 7 : Nat) : Int) ∧ s11 = .int .i64 7 ∧ wr = w.alloc (.cells #[.int .u8 0, .int .u8 ((n / 256 ^ 6 % 256 : Nat) : Int), .int .u8 ((n / 256 ^ 5 % 256 : Nat) : Int), .int .u8 ((n / 256 ^ 4 % 256 : Nat) : Int), .int .u8 ((n / 256 ^ 3 % 256 : Nat) : Int), .int .u8 ((n / 256 ^ 2 % 256 : Nat) : Int), .int .u8 ((n / 256 ^ 1 % 256 : Nat) : Int), .int .u8 ((n / 256 ^ 0 % 256 : Nat) : Int)] 5)) ∨ (s0 = .int .u64 ((n / 256 ^ 8 : Nat) : Int) ∧ s11 = .int .i64 8 ∧ wr = w.alloc (.cells #[.int .u8 ((n / 256 ^ 7 % 256 : Nat) : Int), .int .u8 ((n / 256 ^ 6 % 256 : Nat) : Int), .int .u8 ((n / 256 ^ 5 % 256 : Nat) : Int), .int .u8 ((n / 256 ^ 4 % 256 : Nat) : Int), .int .u8 ((n / 256 ^ 3 % 256 : Nat) : Int), .int .u8 ((n / 256 ^ 2 % 256 : Nat) : Int), .int .u8 ((n / 256 ^ 1 % 256 : Nat) : Int), .int .u8 ((n / 256 ^ 0 % 256 : Nat) : Int)] 5))
theorem eight (j : Nat) (h : j < 8) : j = 0 ∨ j = 1 ∨ j = 2 ∨ j = 3 ∨ j = 4 ∨ j = 5 ∨ j = 6 ∨ j = 7 := by omega

set_option maxRecDepth 100000 in
set_option maxHeartbeats 4000000 in
theorem big_any (n : Nat) (w : World) :
    Calls Try.prog 78 #[.int .u64 n, .int .i64 8] w fun e w' => e = .returned (.string ⟨(by8 n).toArray⟩) ∧ Below w.heap.size w w' := by
  have hmk := run_mk8 w
  have hb : ∀ c, Below w.heap.size w (w.alloc (.cells c 5)) := fun c => (Below.refl _ _).alloc (Nat.le_refl _) _
  go_enter Try.func78, Try.ntmps78
  go_wp2
  go_loopw [0, 11] (fun s0 s11 wr => BigAt n w s0 s11 wr) (fun _ i _ => 8 - (intOf i).toNat)
  case atStart => exact .inl ⟨by simp, rfl, rfl⟩
  case round =>
    rcases hrel with ⟨rfl, rfl, rfl⟩ | ⟨rfl, rfl, rfl⟩ | ⟨rfl, rfl, rfl⟩ | ⟨rfl, rfl, rfl⟩ | ⟨rfl, rfl, rfl⟩ | ⟨rfl, rfl, rfl⟩ | ⟨rfl, rfl, rfl⟩ | ⟨rfl, rfl, rfl⟩ | ⟨rfl, rfl, hW⟩
    · go_wp2
      go_roundw
      case rel => exact .inr (.inl ⟨by simp <;> omega, rfl, by simp⟩)
      case measure => simp [intOf]
    · go_wp2
      go_roundw
      case rel => exact .inr (.inr (.inl ⟨by simp <;> omega, rfl, by simp⟩))
      case measure => simp [intOf]
    · go_wp2
      go_roundw
      case rel => exact .inr (.inr (.inr (.inl ⟨by simp <;> omega, rfl, by simp⟩)))
      case measure => simp [intOf]
    · go_wp2
      go_roundw
      case rel => exact .inr (.inr (.inr (.inr (.inl ⟨by simp <;> omega, rfl, by simp⟩))))
      case measure => simp [intOf]
    · go_wp2
      go_roundw
      case rel => exact .inr (.inr (.inr (.inr (.inr (.inl ⟨by simp <;> omega, rfl, by simp⟩)))))
      case measure => simp [intOf]
    · go_wp2
      go_roundw
      case rel => exact .inr (.inr (.inr (.inr (.inr (.inr (.inl ⟨by simp <;> omega, rfl, by simp⟩))))))
      case measure => simp [intOf]
    · go_wp2
      go_roundw
      case rel => exact .inr (.inr (.inr (.inr (.inr (.inr (.inr (.inl ⟨by simp <;> omega, rfl, by simp⟩)))))))
      case measure => simp [intOf]
    · go_wp2
      go_roundw
      case rel => exact .inr (.inr (.inr (.inr (.inr (.inr (.inr (.inr (⟨by simp <;> omega, rfl, by simp⟩))))))))
      case measure => simp [intOf]
    · have hB : Below w.heap.size w wr := hW ▸ hb _
      have hcv := run_convert_bytes_back (P := Try.prog) wr 69 9 5 ⟨w.heap.size, 0, none⟩ 8 (by8 n) Try.underlying69 Try.underlying5 Try.underlying9 (fun j hj => by
        have hj8 : j < 8 := hj
        rw [hW]
        rcases eight j hj8 with rfl | rfl | rfl | rfl | rfl | rfl | rfl | rfl <;> simp [by8, bt_val, World.cell?_alloc_new, Addr.add])
      rw [by8_len] at hcv
      clear hW
      go_wp2
      go_ret
      exact ⟨rfl, hB⟩
end Go.Proofs.Ytiaahjoldahlnaa
