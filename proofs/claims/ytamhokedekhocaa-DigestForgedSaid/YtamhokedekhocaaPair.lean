/- The reference's bytes, Node and Pair, and the program's Pair, at this translation. -/
import Derived.Test.YtamhokedekhocaaBytes
import Derived.Deep.RegionHeld3
import Derived.BigQuiet
namespace Go.Proofs.Ytamhokedekhocaa
open Go.RowKit
attribute [local go_sem] eq_arr

set_option maxHeartbeats 1000000 in
theorem refBytes_any (n0 n1 : Nat) (w : World) :
    Calls Try.prog 41 #[.agg #[.int .u64 n0, .int .u64 n1]] w fun e w' => e = .returned (.string ⟨(byW 8 n0 ++ byW 8 n1).toArray⟩) ∧ Below w.heap.size w w' := by
  obtain ⟨i0, hi, hz0, hz1, hz2⟩ := info_parts info5
  go_enter Try.func41, Try.ntmps41
  go_wp2
  go_loopw [3, 4] (fun v i wr => ((∃ j : Nat, j < 8 ∧ i = .int .i64 j ∧ Own w v (byW j (n0 / 256 ^ (8 - j))) wr) ∨ (∃ j : Nat, j ≤ 8 ∧ i = .int .i64 (8 + j : Int) ∧ Own w v (byW 8 n0 ++ byW j (n1 / 256 ^ (8 - j))) wr)) ∧ Two wr w.heap.size n0 n1 ∧ w.heap.size + 1 ≤ wr.heap.size ∧ Below w.heap.size w wr) (fun _ i _ => (16 - intOf i).toNat)
  case atStart =>
    refine ⟨.inl ⟨0, by omega, rfl, ?_⟩, (Two.fresh w n0 n1 24).alloc (by simp) _, by simp, bla (bla (Below.refl _ _) _) _⟩
    have := World.ownsRow_made (base := w.heap.size + 1) (e := 5) (size := 1) (w.alloc (.cells #[.int .u64 n0, .int .u64 n1] 24)) #[] 0 (by simp) (Nat.zero_le _) rfl
    rw [World.size_alloc] at this
    exact this
  case round =>
    obtain ⟨⟨j, hlt, rfl, ho⟩ | ⟨j, hj, rfl, ho⟩, hT, hz, hB⟩ := hrel
    · obtain ⟨a0, a1, f0, f1⟩ := hT
      have hT : Two wr w.heap.size n0 n1 := ⟨a0, a1, f0, f1⟩
      have hs := byW_step n0 j hlt
      have hc := u8_wrap n0 (56 - 8 * j)
      have hq : ((j : Nat) : Int) / 8 = 0 := by omega
      have hr : ((j : Nat) : Int) % 8 = j := by omega
      have he : ((56 : Int) - 8 * (j : Int)).toNat = 56 - 8 * j := by omega
      have hp0 : (0 : Int) ≤ 56 - 8 * (j : Int) := by omega
      have hp1 : (56 : Int) - 8 * (j : Int) ≤ 64 := by omega
      have HS := Lib.hid hs
      have HC := Lib.hid hc
      clear hs hc
      have hown := ho.row j (by simp [byW_length])
      go_wp2_with (at_builtin; refine wpList_append_own _ rfl _ _ 58 rfl (w.heap.size + 1) 5 i0 (.int .u8 0) 1 1 Try.underlying58 hi hz0 hz1 hz2 rfl (by decide) _ _ _ rfl (hown.alloc _) ⟨wr.heap.size, 0, none⟩ 1 1 [.int .u8 ((n0 : Int) / 2 ^ (56 - 8 * j) % 256)] rfl rfl ?c1 ?c2 ?c3 ?c4 ?c5 ?_)
      case c1 => exact cell_one_new _ _ _
      case c2 => intro u hu; simp at hu; subst hu; rfl
      case c3 => unfold maxLen; omega
      case c4 => omega
      case c5 => simp; omega
      intro v' w1 hown' hgrow _
      rw [HC.out, ← byteCells_snoc, ← HS.out] at hown'
      have ho' : Own w v' _ w1 := Own.of hown' (by simp [byW_length])
      have hz' := hgrow.size
      have hB' := (hB.alloc hB.size (.cells #[.int .u8 ((n0 : Int) / 2 ^ (56 - 8 * j) % 256)] 5)).grown hgrow (by simp; omega) (fun k hk => by have := (hown.lt k hk).1; omega)
      have hT' : Two w1 w.heap.size n0 n1 := (hT.alloc (by omega) (.cells #[.int .u8 ((n0 : Int) / 2 ^ (56 - 8 * j) % 256)] 5)).below (B := w.heap.size + 1) ((Below.refl _ _).grown hgrow (by simp; omega) (fun k hk => by have := (hown.lt k hk).1; omega)) (by omega)
      rw [World.size_alloc] at hz'
      clear hown hown' hgrow hq hr he
      go_wp2
      go_roundw
      case rel =>
        refine ⟨?_, hT', by omega, hB'⟩
        rcases Nat.lt_or_ge (j + 1) 8 with h | h
        · exact .inl ⟨j + 1, h, by go_num, ho'⟩
        · obtain rfl : j = 7 := by omega
          exact .inr ⟨0, by omega, rfl, by simpa [byW] using ho'⟩
      case measure => simp [intOf]; omega
    · obtain ⟨a0, a1, f0, f1⟩ := hT
      have hT : Two wr w.heap.size n0 n1 := ⟨a0, a1, f0, f1⟩
      by_cases hlt : j < 8
      · have hs := byW_step n1 j hlt
        have hc := u8_wrap n1 (56 - 8 * j)
        have hq : ((8 : Int) + (j : Nat) : Int) / 8 = 1 := by omega
        have hr : ((8 : Int) + (j : Nat) : Int) % 8 = j := by omega
        have he : ((56 : Int) - 8 * (j : Int)).toNat = 56 - 8 * j := by omega
        have hp0 : (0 : Int) ≤ 56 - 8 * (j : Int) := by omega
        have hp1 : (56 : Int) - 8 * (j : Int) ≤ 64 := by omega
        have HS := Lib.hid hs
        have HC := Lib.hid hc
        clear hs hc
        have hown := ho.row (8 + j) (by simp [byW_length])
        go_wp2_with (at_builtin; refine wpList_append_own _ rfl _ _ 58 rfl (w.heap.size + 1) 5 i0 (.int .u8 0) 1 1 Try.underlying58 hi hz0 hz1 hz2 rfl (by decide) _ _ _ rfl (hown.alloc _) ⟨wr.heap.size, 0, none⟩ 1 1 [.int .u8 ((n1 : Int) / 2 ^ (56 - 8 * j) % 256)] rfl rfl ?c1 ?c2 ?c3 ?c4 ?c5 ?_)
        case c1 => exact cell_one_new _ _ _
        case c2 => intro u hu; simp at hu; subst hu; rfl
        case c3 => unfold maxLen; omega
        case c4 => omega
        case c5 => simp; omega
        intro v' w1 hown' hgrow _
        rw [HC.out, ← byteCells_snoc, List.append_assoc, ← HS.out] at hown'
        have ho' : Own w v' _ w1 := Own.of hown' (by simp [byW_length]; omega)
        have hz' := hgrow.size
        have hB' := (hB.alloc hB.size (.cells #[.int .u8 ((n1 : Int) / 2 ^ (56 - 8 * j) % 256)] 5)).grown hgrow (by simp; omega) (fun k hk => by have := (hown.lt k hk).1; omega)
        have hT' : Two w1 w.heap.size n0 n1 := (hT.alloc (by omega) (.cells #[.int .u8 ((n1 : Int) / 2 ^ (56 - 8 * j) % 256)] 5)).below (B := w.heap.size + 1) ((Below.refl _ _).grown hgrow (by simp; omega) (fun k hk => by have := (hown.lt k hk).1; omega)) (by omega)
        rw [World.size_alloc] at hz'
        clear hown hown' hgrow hq hr he
        go_wp2
        go_roundw
        case rel => exact ⟨.inr ⟨j + 1, by omega, by go_num, ho'⟩, hT', by omega, hB'⟩
        case measure => simp [intOf]; omega
      · obtain rfl : j = 8 := by omega
        have hown := ho.row 16 (by simp [byW_length])
        obtain ⟨g, cap, rfl⟩ := ownsRow_succ hown
        have hcv := run_convert_bytes_back (P := Try.prog) wr 58 9 5 ⟨g, 0, none⟩ cap (byW 8 n0 ++ byW 8 n1) Try.underlying58 Try.underlying5 Try.underlying9 (fun j hj => by
          have := hown.cells rfl j (.int .u8 ((byW 8 n0 ++ byW 8 n1)[j].toNat : Int)) (by have := byteCells_get _ j hj; simpa using this)
          exact this)
        rw [show (byW 8 n0 ++ byW 8 n1).length = 16 from by simp [byW_length]] at hcv
        go_wp2
        go_ret
        exact ⟨rfl, hB⟩

/-- The sixteen bytes of a digest. -/
def byS (n0 n1 : Nat) : ByteArray := ⟨(byW 8 n0 ++ byW 8 n1).toArray⟩
/-- What is hashed for two subtrees. -/
def nodeS (a0 a1 b0 b1 : Nat) : ByteArray := ByteArray.mk #[1] ++ byS a0 a1 ++ byS b0 b1
theorem byS_size (n0 n1 : Nat) : (byS n0 n1).size = 16 := by
  show (byW 8 n0 ++ byW 8 n1).toArray.size = 16
  simp [byW_length]
theorem byS_of (n0 n1 : Nat) (w : World) : Calls Try.prog 35 #[.agg #[.int .u64 n0, .int .u64 n1]] w fun e w' => e = .returned (.string (byS n0 n1)) ∧ Below w.heap.size w w' := bytesOf_any n0 n1 w
theorem byS_ref (n0 n1 : Nat) (w : World) : Calls Try.prog 41 #[.agg #[.int .u64 n0, .int .u64 n1]] w fun e w' => e = .returned (.string (byS n0 n1)) ∧ Below w.heap.size w w' := refBytes_any n0 n1 w
set_option maxHeartbeats 1000000 in
theorem refNode_any (a0 a1 b0 b1 : Nat) (w : World) :
    Calls Try.prog 36 #[.agg #[.int .u64 a0, .int .u64 a1], .agg #[.int .u64 b0, .int .u64 b1]] w fun e w' => e = .returned (.string (nodeS a0 a1 b0 b1)) ∧ Below w.heap.size w w' := by
  have z0 := byS_size a0 a1
  have z1 := byS_size b0 b1
  go_enter Try.func36, Try.ntmps36
  go_wp2
  have start : Held w a0 a1 b0 b1 ((w.alloc (.cells #[.int .u64 a0, .int .u64 a1] 24)).alloc (.cells #[.int .u64 b0, .int .u64 b1] 24)).drew := by
    refine ⟨?_, by simp, (bla (bla (Below.refl _ _) _) _).drew⟩
    go_simp
  go_region_held3 (fun w' => (w'.cell? ⟨w.heap.size, 0, none⟩ = some (.int .u64 a0) ∧ w'.cell? ⟨w.heap.size, 1, none⟩ = some (.int .u64 a1) ∧ w'.cell? ⟨w.heap.size + 1, 0, none⟩ = some (.int .u64 b0) ∧ w'.cell? ⟨w.heap.size + 1, 1, none⟩ = some (.int .u64 b1)) ∧
    w.heap.size + 2 ≤ w'.heap.size ∧ Below w.heap.size w w') (first | exact hh | exact start)
    (first | (go_at_call 41; refine (byS_ref _ _ _).mono ?_; rintro e w' ⟨rfl, hb⟩; have hh := Held.on (by first | exact hh | exact start) hb; clear hb))
  go_wp2
  go_ret
  exact ⟨rfl, hh.2.2⟩
/-- What Pair's two boxes and its result's cells hold, in a later world. -/
structure Held3 (w : World) (a0 a1 b0 b1 : Int) (w' : World) : Prop where
  held : Held w a0 a1 b0 b1 w'
  res : Two w' (w.heap.size + 2) 0 0
  size : w.heap.size + 2 < w'.heap.size
theorem Held3.on {w W W' : World} {a0 a1 b0 b1 : Int} (h : Held3 w a0 a1 b0 b1 W) (hB : Below W.heap.size W W') : Held3 w a0 a1 b0 b1 W' :=
  ⟨h.held.on hB, h.res.below hB h.size, Nat.lt_of_lt_of_le h.size hB.size⟩
theorem Held.cells {w W : World} {a0 a1 b0 b1 : Int} (h : Held w a0 a1 b0 b1 W) (b o : Nat) (hb : w.heap.size + 2 ≤ b) (v : Value) : Held w a0 a1 b0 b1 (W.setCell ⟨b, o, none⟩ v) := by
  obtain ⟨⟨c1, c2, c3, c4⟩, hz, hB⟩ := h
  refine ⟨⟨(World.cell?_setCell_other W _ _ _ ?_).trans c1, (World.cell?_setCell_other W _ _ _ ?_).trans c2, (World.cell?_setCell_other W _ _ _ ?_).trans c3, (World.cell?_setCell_other W _ _ _ ?_).trans c4⟩, by simpa [World.setCell] using hz, hB.setCell (p := ⟨b, o, none⟩) (by show w.heap.size ≤ b; omega) _⟩ <;> (intro e; injection e; omega)
theorem Held3.put {w W : World} {a0 a1 b0 b1 : Int} (h : Held3 w a0 a1 b0 b1 W) (x y : Value) :
    Held w a0 a1 b0 b1 ((W.setCell ⟨w.heap.size + 1 + 1, 0, none⟩ x).setCell ⟨w.heap.size + 1 + 1, 1, none⟩ y) := (h.held.cells _ _ (Nat.le_refl _) _).cells _ _ (Nat.le_refl _) _
theorem nodeS_size (a0 a1 b0 b1 : Nat) : (nodeS a0 a1 b0 b1).size ≤ maxLen := by
  unfold nodeS
  rw [ByteArray.size_append, ByteArray.size_append, byS_size, byS_size]
  decide
theorem of_node (a0 a1 b0 b1 : Nat) (w : World) : Calls Try.prog 11 #[.string (ByteArray.mk #[1] ++ byS a0 a1 ++ byS b0 b1)] w fun e w' =>
    e = .returned (.agg #[.int .u64 (of0 (nodeS a0 a1 b0 b1).data.toList), .int .u64 (of1 (nodeS a0 a1 b0 b1).data.toList)]) ∧ Below w.heap.size w w' := of_any (nodeS a0 a1 b0 b1) w (nodeS_size ..)
theorem refOf_node (a0 a1 b0 b1 : Nat) (w : World) : Calls Try.prog 12 #[.string (nodeS a0 a1 b0 b1)] w fun e w' =>
    e = .returned (.agg #[.int .u64 (of0 (nodeS a0 a1 b0 b1).data.toList), .int .u64 (of1 (nodeS a0 a1 b0 b1).data.toList)]) ∧ Below w.heap.size w w' := refOf_any (nodeS a0 a1 b0 b1) w (nodeS_size ..)
set_option maxHeartbeats 1000000 in
theorem pair_any (a0 a1 b0 b1 : Nat) (w : World) :
    Calls Try.prog 15 #[.agg #[.int .u64 a0, .int .u64 a1], .agg #[.int .u64 b0, .int .u64 b1]] w fun e w' => e = .returned (.agg #[.int .u64 (of0 (nodeS a0 a1 b0 b1).data.toList), .int .u64 (of1 (nodeS a0 a1 b0 b1).data.toList)]) ∧ Below w.heap.size w w' := by
  have z0 := byS_size a0 a1
  have z1 := byS_size b0 b1
  go_enter Try.func15, Try.ntmps15
  go_wp2
  have start : Held3 w a0 a1 b0 b1 (((w.alloc (.cells #[.int .u64 a0, .int .u64 a1] 24)).alloc (.cells #[.int .u64 b0, .int .u64 b1] 24)).alloc (.cells #[.int .u64 0, .int .u64 0] 24)).drew := by
    refine ⟨⟨?_, by simp, (bla (bla (bla (Below.refl _ _) _) _) _).drew⟩, ?_, by simp⟩
    · go_simp
    · have := Two.fresh ((w.alloc (.cells #[.int .u64 a0, .int .u64 a1] 24)).alloc (.cells #[.int .u64 b0, .int .u64 b1] 24)) 0 0 24
      rw [World.size_alloc, World.size_alloc] at this
      exact this
  go_region_held3 (fun w' => w'.cell? ⟨w.heap.size, 0, none⟩ = some (.int .u64 a0) ∧ w'.cell? ⟨w.heap.size, 1, none⟩ = some (.int .u64 a1) ∧ w'.cell? ⟨w.heap.size + 1, 0, none⟩ = some (.int .u64 b0) ∧ w'.cell? ⟨w.heap.size + 1, 1, none⟩ = some (.int .u64 b1)) (first | exact hh.held.1 | exact start.held.1 | exact (hh.put _ _).1)
    (first | (go_at_call 35; refine (byS_of _ _ _).mono ?_; rintro e w' ⟨rfl, hb⟩; have hh := Held3.on (by first | exact hh | exact start) hb; clear hb) | (go_at_call 11; refine (of_node _ _ _ _ _).mono ?_; rintro e w' ⟨rfl, hb⟩; have hh := Held3.on (by first | exact hh | exact start) hb; obtain ⟨r0, r1, r2, r3⟩ := hh.res; clear hb))
  go_wp2
  refine bodyPost_ret (v := .agg #[.int .u64 (of0 (nodeS a0 a1 b0 b1).data.toList), .int .u64 (of1 (nodeS a0 a1 b0 b1).data.toList)]) ?_ rfl ⟨rfl, (hh.put _ _).2.2⟩
  obtain ⟨q0, q1, _, _⟩ := (hh.res.set0 (of0 (nodeS a0 a1 b0 b1).data.toList)).set1 (of1 (nodeS a0 a1 b0 b1).data.toList)
  simp [results, Try.results15, go_sem, q0, q1]
set_option maxHeartbeats 1000000 in
theorem refPair_any (a0 a1 b0 b1 : Nat) (w : World) :
    Calls Try.prog 16 #[.agg #[.int .u64 a0, .int .u64 a1], .agg #[.int .u64 b0, .int .u64 b1]] w fun e w' => e = .returned (.agg #[.int .u64 (of0 (nodeS a0 a1 b0 b1).data.toList), .int .u64 (of1 (nodeS a0 a1 b0 b1).data.toList)]) ∧ Below w.heap.size w w' := by
  have start : Held3 w a0 a1 b0 b1 (((w.alloc (.cells #[.int .u64 a0, .int .u64 a1] 24)).alloc (.cells #[.int .u64 b0, .int .u64 b1] 24)).alloc (.cells #[.int .u64 0, .int .u64 0] 24)) := by
    refine ⟨⟨?_, by simp, bla (bla (bla (Below.refl _ _) _) _) _⟩, ?_, by simp⟩
    · go_simp
    · have := Two.fresh ((w.alloc (.cells #[.int .u64 a0, .int .u64 a1] 24)).alloc (.cells #[.int .u64 b0, .int .u64 b1] 24)) 0 0 24
      rw [World.size_alloc, World.size_alloc] at this
      exact this
  go_enter Try.func16, Try.ntmps16
  go_wp2_with fail
  refine (refNode_any a0 a1 b0 b1 _).mono ?_
  rintro e w1 ⟨rfl, hb1⟩
  have hh := start.on hb1
  go_wp2_with fail
  refine (refOf_node a0 a1 b0 b1 _).mono ?_
  rintro e w2 ⟨rfl, hb2⟩
  have hh2 := hh.on hb2
  obtain ⟨r0, r1, r2, r3⟩ := hh2.res
  go_wp2
  refine bodyPost_ret (v := .agg #[.int .u64 (of0 (nodeS a0 a1 b0 b1).data.toList), .int .u64 (of1 (nodeS a0 a1 b0 b1).data.toList)]) ?_ rfl ⟨rfl, (hh2.put _ _).2.2⟩
  obtain ⟨q0, q1, _, _⟩ := (hh2.res.set0 (of0 (nodeS a0 a1 b0 b1).data.toList)).set1 (of1 (nodeS a0 a1 b0 b1).data.toList)
  simp [results, Try.results16, go_sem, q0, q1]
end Go.Proofs.Ytamhokedekhocaa
