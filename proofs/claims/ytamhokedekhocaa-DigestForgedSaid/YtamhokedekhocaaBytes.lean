/- The program's bytesOf and the reference's bytes: the sixteen bytes of a digest, at this translation. -/
import Derived.Test.YtamhokedekhocaaRef
import Derived.Maps.AppendAt
import Derived.RangeFuncBox
import Derived.Laws.IdiomStrings
namespace Go.Proofs.Ytamhokedekhocaa
open Go.RowKit
attribute [local go_sem] eq_arr

/-- The last w digits in base 256, the most significant one first. -/
def byW : Nat → Nat → List UInt8
  | 0, _ => []
  | w + 1, n => byW w (n / 256) ++ [UInt8.ofNat (n % 256)]
theorem byW_length (w n : Nat) : (byW w n).length = w := by
  induction w generalizing n with
  | zero => rfl
  | succ w ih => simp [byW, ih]
theorem byW_step (n j : Nat) (hj : j < 8) : byW (j + 1) (n / 256 ^ (8 - (j + 1))) = byW j (n / 256 ^ (8 - j)) ++ [UInt8.ofNat (n / 2 ^ (56 - 8 * j) % 256)] := by
  have e1 : (256 : Nat) ^ (8 - j) = 256 ^ (8 - (j + 1)) * 256 := by
    rw [show 8 - j = (8 - (j + 1)) + 1 from by omega, Nat.pow_succ]
  have e2 : (2 : Nat) ^ (56 - 8 * j) = 256 ^ (8 - (j + 1)) := by
    rw [show (256 : Nat) = 2 ^ 8 from rfl, ← Nat.pow_mul]; congr 1; omega
  rw [byW, e2, e1, Nat.div_div_eq_div_mul]
theorem byte_val (m : Nat) : (((UInt8.ofNat (m % 256)).toNat : Nat) : Int) = ((m % 256 : Nat) : Int) := by
  have : (UInt8.ofNat (m % 256)).toNat = m % 256 := by
    rw [UInt8.toNat_ofNat']; omega
  rw [this]
theorem u8_wrap (n j : Nat) : (n : Int) / 2 ^ j % 256 = (((UInt8.ofNat (n / 2 ^ j % 256)).toNat : Nat) : Int) := by
  rw [byte_val]
  have : ((n : Int) / 2 ^ j) = ((n / 2 ^ j : Nat) : Int) := by
    rw [Int.natCast_ediv]; simp
  rw [this]; omega
/-- What the call's own slice of bytes holds. -/
def Own (w : World) (v : Value) (l : List UInt8) (wr : World) : Prop := wr.ownsRow (w.heap.size + 1) 5 1 v l.length (Lib.byteCells l)
theorem Own.of {w : World} {v : Value} {l : List UInt8} {wr : World} {n : Nat} (h : wr.ownsRow (w.heap.size + 1) 5 1 v n (Lib.byteCells l)) (hn : l.length = n) : Own w v l wr := by
  subst hn; exact h
theorem byteCells_get (l : List UInt8) (j : Nat) (hj : j < l.length) : (Lib.byteCells l)[j]? = some (.int .u8 (l[j].toNat : Int)) := by
  unfold Lib.byteCells
  rw [List.getElem?_map, List.getElem?_eq_getElem hj]; rfl
theorem Own.row {w : World} {v : Value} {l : List UInt8} {wr : World} (h : Own w v l wr) (n : Nat) (hn : l.length = n) : wr.ownsRow (w.heap.size + 1) 5 1 v n (Lib.byteCells l) := by
  subst hn; exact h

set_option maxHeartbeats 1000000 in
theorem bytesOf_any (n0 n1 : Nat) (w : World) :
    Calls Try.prog 35 #[.agg #[.int .u64 n0, .int .u64 n1]] w fun e w' => e = .returned (.string ⟨(byW 8 n0 ++ byW 8 n1).toArray⟩) ∧ Below w.heap.size w w' := by
  obtain ⟨i0, hi, hz0, hz1, hz2⟩ := info_parts info5
  have x0 : ∀ w, (Instr.index 24 (.agg #[.int .u64 n0, .int .u64 n1]) (.int .i64 0)).run Try.prog w = .ok (.int .u64 n0) w := fun _ => by kernel_rfl
  have x1 : ∀ w, (Instr.index 24 (.agg #[.int .u64 n0, .int .u64 n1]) (.int .i64 1)).run Try.prog w = .ok (.int .u64 n1) w := fun _ => by kernel_rfl
  go_enter Try.func35, Try.ntmps35
  go_wp2
  go_loopw [3, 8] (fun v i wr => ((i = .int .i64 0 ∧ Own w v [] wr) ∨ (i = .int .i64 1 ∧ Own w v (byW 8 n0) wr) ∨ (i = .int .i64 2 ∧ Own w v (byW 8 n0 ++ byW 8 n1) wr)) ∧ w.heap.size + 1 ≤ wr.heap.size ∧ Below w.heap.size w wr) (fun _ i _ => (2 - intOf i).toNat)
  case atStart => exact ⟨.inl ⟨rfl, World.ownsRow_nil _ _ _ _⟩, by simp, bla (Below.refl _ _) _⟩
  case round =>
    obtain ⟨⟨rfl, ho⟩ | ⟨rfl, ho⟩ | ⟨rfl, ho⟩, hz, hB⟩ := hrel
    · go_wp2
      go_loopw [3, 6] (fun v i wr => ∃ j : Nat, j ≤ 8 ∧ i = .int .i64 (56 - 8 * j : Int) ∧ Own w v (byW j (n0 / 256 ^ (8 - j))) wr ∧ w.heap.size + 1 ≤ wr.heap.size ∧ Below w.heap.size w wr) (fun _ i _ => (intOf i + 8).toNat)
      case atStart => exact ⟨0, by omega, rfl, by simpa [Own, byW, byW_length] using ho, hz, hB⟩
      case round =>
        obtain ⟨j, hj, rfl, ho, hz, hB⟩ := hrel
        by_cases hlt : j < 8
        · have hs := byW_step n0 j hlt
          have hc := u8_wrap n0 (56 - 8 * j)
          have HS := Lib.hid hs
          have HC := Lib.hid hc
          clear hs hc
          have hown := ho.row j (by simp [byW_length])
          go_wp2_with (at_builtin; refine wpList_append_own _ rfl _ _ 58 rfl (w.heap.size + 1) 5 i0 (.int .u8 0) 1 1 Try.underlying58 hi hz0 hz1 hz2 rfl (by decide) _ _ _ rfl (hown.alloc _) ⟨wr.heap.size, 0, none⟩ 1 1 [.int .u8 ((n0 : Int) / 2 ^ (56 - 8 * j) % 256)] rfl rfl ?c1 ?c2 ?c3 ?c4 ?c5 ?_)
          case c1 => exact cell_one_new _ _ _
          case c2 => intro u hu; simp at hu; subst hu; rfl
          case c3 => unfold maxLen; omega
          case c4 => omega
          case c5 => simp; omega
          intro v' w1 hown' hgrow _
          rw [HC.out, ← byteCells_snoc, ← HS.out] at hown'
          have ho' : Own w v' _ w1 := Own.of hown' (by simp [byW_length])
          have hz' := hgrow.size
          have hB' := (hB.alloc hB.size (.cells #[.int .u8 ((n0 : Int) / 2 ^ (56 - 8 * j) % 256)] 5)).grown hgrow (by simp; omega) (fun k hk => by have := (hown.lt k hk).1; omega)
          rw [World.size_alloc] at hz'
          clear hown hown' hgrow
          go_wp2
          go_roundw
          case rel => exact ⟨j + 1, by omega, by go_num, ho', by omega, hB'⟩
          case measure => simp [intOf]; omega
        · obtain rfl : j = 8 := by omega
          go_wp2
          go_roundw
          case rel => exact ⟨.inr (.inl ⟨rfl, by simpa using ho⟩), hz, hB⟩
          case measure => simp [intOf]
    · go_wp2
      go_loopw [3, 6] (fun v i wr => ∃ j : Nat, j ≤ 8 ∧ i = .int .i64 (56 - 8 * j : Int) ∧ Own w v (byW 8 n0 ++ byW j (n1 / 256 ^ (8 - j))) wr ∧ w.heap.size + 1 ≤ wr.heap.size ∧ Below w.heap.size w wr) (fun _ i _ => (intOf i + 8).toNat)
      case atStart => exact ⟨0, by omega, rfl, by simpa [Own, byW, byW_length] using ho, hz, hB⟩
      case round =>
        obtain ⟨j, hj, rfl, ho, hz, hB⟩ := hrel
        by_cases hlt : j < 8
        · have hs := byW_step n1 j hlt
          have hc := u8_wrap n1 (56 - 8 * j)
          have HS := Lib.hid hs
          have HC := Lib.hid hc
          clear hs hc
          have hown := ho.row (8 + j) (by simp [byW_length])
          go_wp2_with (at_builtin; refine wpList_append_own _ rfl _ _ 58 rfl (w.heap.size + 1) 5 i0 (.int .u8 0) 1 1 Try.underlying58 hi hz0 hz1 hz2 rfl (by decide) _ _ _ rfl (hown.alloc _) ⟨wr.heap.size, 0, none⟩ 1 1 [.int .u8 ((n1 : Int) / 2 ^ (56 - 8 * j) % 256)] rfl rfl ?c1 ?c2 ?c3 ?c4 ?c5 ?_)
          case c1 => exact cell_one_new _ _ _
          case c2 => intro u hu; simp at hu; subst hu; rfl
          case c3 => unfold maxLen; omega
          case c4 => omega
          case c5 => simp; omega
          intro v' w1 hown' hgrow _
          rw [HC.out, ← byteCells_snoc, List.append_assoc, ← HS.out] at hown'
          have ho' : Own w v' _ w1 := Own.of hown' (by simp [byW_length]; omega)
          have hz' := hgrow.size
          have hB' := (hB.alloc hB.size (.cells #[.int .u8 ((n1 : Int) / 2 ^ (56 - 8 * j) % 256)] 5)).grown hgrow (by simp; omega) (fun k hk => by have := (hown.lt k hk).1; omega)
          rw [World.size_alloc] at hz'
          clear hown hown' hgrow
          go_wp2
          go_roundw
          case rel => exact ⟨j + 1, by omega, by go_num, ho', by omega, hB'⟩
          case measure => simp [intOf]; omega
        · obtain rfl : j = 8 := by omega
          go_wp2
          go_roundw
          case rel => exact ⟨.inr (.inr ⟨rfl, by simpa using ho⟩), hz, hB⟩
          case measure => simp [intOf]
    · have hown := ho.row 16 (by simp [byW_length])
      obtain ⟨g, cap, rfl⟩ := ownsRow_succ hown
      have hcv := run_convert_bytes_back (P := Try.prog) wr 58 9 5 ⟨g, 0, none⟩ cap (byW 8 n0 ++ byW 8 n1) Try.underlying58 Try.underlying5 Try.underlying9 (fun j hj => by
        have := hown.cells rfl j (.int .u8 ((byW 8 n0 ++ byW 8 n1)[j].toNat : Int)) (byteCells_get _ j hj)
        exact this)
      rw [show (byW 8 n0 ++ byW 8 n1).length = 16 from by simp [byW_length]] at hcv
      go_wp2
      go_ret
      exact ⟨rfl, hB⟩
end Go.Proofs.Ytamhokedekhocaa
