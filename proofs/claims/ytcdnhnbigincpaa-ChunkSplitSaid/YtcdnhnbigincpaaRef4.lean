/- The reference's Bounds and Manifest, at this translation. -/
import Derived.Test.YtcdnhnbigincpaaDigs
namespace Go.Proofs.Ytcdnhnbigincpaa
open Go.RowKit

/-- The ends of pieces, one after the other. -/
def sums (b : Nat) : List ByteArray → List Nat
  | [] => []
  | x :: L => (b + x.size) :: sums (b + x.size) L
theorem sums_snoc (L : List ByteArray) (x : ByteArray) (b : Nat) : sums b (L ++ [x]) = sums b L ++ [b + total L + x.size] := by
  induction L generalizing b with
  | nil => simp [sums, total]
  | cons y L ih => simp [sums, total, ih, Nat.add_assoc]
theorem sums_length (L : List ByteArray) (b : Nat) : (sums b L).length = L.length := by
  induction L generalizing b with
  | nil => rfl
  | cons y L ih => simp [sums, ih]
theorem sums_pieces {p : Pm} {s : ByteArray} : ∀ (E : List Nat) (b : Nat), Good p s.size b E → sums b (pieces s b E) = E
  | [], _, _ => rfl
  | e :: E, b, h => by
    have h1 := h.1
    have h2 := h.2.1
    have e1 : b + (s.extract b e).size = e := by rw [ByteArray.size_extract]; omega
    rw [pieces, sums, e1, sums_pieces E e h.2.2.2.2]

set_option maxHeartbeats 8000000 in
theorem refBounds_any (a b c d : Int) (s : ByteArray) (L : List ByteArray) (r : Int) (hL : L.length ≤ 65536) (hT : total L ≤ 65536) (w : World)
    (C : ∀ W, Below w.heap.size w W → Calls Try.prog 11 #[.string s, pv a b c d] W fun e w' => ∃ v, e = .returned (.tuple #[v, .int .i64 r]) ∧ IsStrs w' v L ∧ Below W.heap.size W w') :
    Calls Try.prog 13 #[.string s, pv a b c d] w fun e w' => ∃ v, e = .returned (.tuple #[v, .int .i64 r]) ∧ IsNats w' v (sums 0 L) ∧ Below w.heap.size w w' := by
  have hB := (Below.refl w.heap.size w).alloc (Nat.le_refl _) (.cells #[.int .i64 a, .int .i64 b, .int .i64 c, .int .i64 d] 23)
  have x := PBox.new w a b c d
  have c0 := x.c0
  have c1 := x.c1
  have c2 := x.c2
  have c3 := x.c3
  have HCC := Lib.hid C
  clear C x
  obtain ⟨i0, hi, hz0, hz1, hz2⟩ := info_parts info3
  go_enter Try.func13, Try.ntmps13
  go_wp2_with fail
  ((with_reducible refine (HCC.out _ hB).mono ?_); rintro e w1 ⟨v1, rfl, d1, hb1⟩)
  have B1 := hB.trans (hb1.mono hB.size)
  obtain ⟨a1, cap1, rfl, _, _, hc⟩ := d1
  have HC := Lib.hid hc
  clear c0 c1 c2 c3 hb1 hB hc
  go_wp2
  go_loopw [8, 9, 10] (fun s8 s9 s10 wr => ∃ (j f : Nat), j ≤ L.length ∧ s10 = .int .i64 j ∧ s9 = .int .i64 f ∧ Hid (f = total (L.take j)) ∧ f ≤ 65536 ∧ Hid (wr.ownsRow w1.heap.size 3 1 s8 j (rowN (sums 0 (L.take j)))) ∧ Below w1.heap.size w1 wr) (fun _ _ i _ => L.length - (intOf i).toNat)
  case atStart => exact ⟨0, 0, Nat.zero_le _, rfl, rfl, Lib.hid (by rw [List.take_zero]; rfl), by omega, Lib.hid (World.ownsRow_lit w1 #[] 0 (Nat.le_refl _) (Nat.zero_le _) rfl), (Below.refl _ _).alloc (Nat.le_refl _) _⟩
  case round =>
    obtain ⟨j, f, hj, rfl, rfl, hf, hf2, ho, hBr⟩ := hrel
    by_cases hlt : j < L.length
    · obtain ⟨b1, o1, rfl, hb1, hcell⟩ := HC.out.resolve_left (by intro e; rw [e] at hlt; simp at hlt)
      have q := (hBr.cell (p := ⟨b1, o1 + j, none⟩) hb1).trans (hcell j hlt)
      have et : L.take (j + 1) = L.take j ++ [L[j]] := List.take_succ_eq_append_getElem hlt
      have ht1 : total (L.take (j + 1)) = f + L[j].size := by rw [et, total_append, ← hf.out]; simp [total]
      have hs1 : sums 0 (L.take (j + 1)) = sums 0 (L.take j) ++ [f + L[j].size] := by rw [et, sums_snoc, ← hf.out, Nat.zero_add]
      have ht2 : f + L[j].size ≤ 65536 := by
        have h2 := total_append (L.take (j + 1)) (L.drop (j + 1))
        rw [List.take_append_drop] at h2
        omega
      clear hcell hf et
      generalize L[j] = y at q ht1 hs1 ht2
      have HT1 := Lib.hid ht1
      have HS1 := Lib.hid hs1
      obtain ⟨g, hg⟩ : ∃ g, f + y.size = g := ⟨_, rfl⟩
      have hgi : (f : Int) + (y.size : Int) = (g : Int) := by omega
      rw [hg] at ht2 HT1 HS1
      clear ht1 hs1 hg
      have sz := hBr.size
      go_wp2_with (at_builtin; refine wpList_append_own _ rfl _ _ 29 rfl w1.heap.size 3 i0 (.int .i64 0) 1 8 Try.underlying29 hi hz0 hz1 hz2 rfl (by decide) _ j (rowN (sums 0 (L.take j))) rfl (ho.out.alloc _) ⟨wr.heap.size, 0, none⟩ 1 1 [.int .i64 (g : Int)] rfl rfl (cell_one_new wr _ _) (by simp [Value.oneCell']) (by unfold maxLen; omega) (by omega) (by simp; omega) ?_)
      intro v' w5 hown hgrow _
      have BG := (hBr.alloc sz (.cells #[.int .i64 (g : Int)] 3)).trans ((Below.refl w1.heap.size (wr.alloc (.cells #[.int .i64 (g : Int)] 3))).grown hgrow (by simp; omega) (fun k e => (ho.out.lt k e).1))
      have OW := Lib.hid hown
      clear hown hgrow q
      go_wp2
      go_roundw
      case rel => exact ⟨j + 1, g, by omega, by go_num, rfl, Lib.hid HT1.out.symm, ht2, Lib.hid (by rw [HS1.out]; simpa [rowN] using OW.out), BG⟩
      case measure => simp [intOf]; omega
    · obtain rfl : j = L.length := by omega
      have OW := Lib.hid (own_nats (L := sums 0 L) (by have := ho.out; rw [List.take_length] at this; exact this) (sums_length _ _) (by unfold maxLen; omega))
      clear ho
      go_wp2
      exact bodyPost_ret (v := .tuple #[u8, .int .i64 r]) (by simp [results, Try.results13, go_sem]) rfl ⟨_, rfl, OW.out, B1.trans (hBr.mono B1.size)⟩

set_option maxHeartbeats 8000000 in
theorem refManifest_any (a b c d : Int) (s : ByteArray) (L : List ByteArray) (r : Int) (hL : L.length ≤ 65536) (hz : ∀ y ∈ L, y.size ≤ 65536) (w : World)
    (C : ∀ W, Below w.heap.size w W → Calls Try.prog 11 #[.string s, pv a b c d] W fun e w' => ∃ v, e = .returned (.tuple #[v, .int .i64 r]) ∧ IsStrs w' v L ∧ Below W.heap.size W w') :
    Calls Try.prog 15 #[.string s, pv a b c d] w fun e w' => ∃ v, e = .returned (.tuple #[v, .int .i64 r]) ∧ IsDigs w' v (L.map digOf) ∧ Below w.heap.size w w' := by
  have hB := (Below.refl w.heap.size w).alloc (Nat.le_refl _) (.cells #[.int .i64 a, .int .i64 b, .int .i64 c, .int .i64 d] 23)
  have x := PBox.new w a b c d
  have c0 := x.c0
  have c1 := x.c1
  have c2 := x.c2
  have c3 := x.c3
  have HCC := Lib.hid C
  have HZ := Lib.hid hz
  clear C x hz
  obtain ⟨i0, hi, hz0, hz1, hz2⟩ := info_parts info57
  go_enter Try.func15, Try.ntmps15
  go_wp2_with fail
  ((with_reducible refine (HCC.out _ hB).mono ?_); rintro e w1 ⟨v1, rfl, d1, hb1⟩)
  have B1 := hB.trans (hb1.mono hB.size)
  obtain ⟨a1, cap1, rfl, _, _, hc⟩ := d1
  have HC := Lib.hid hc
  clear c0 c1 c2 c3 hb1 hB hc
  go_wp2
  go_loopw [8, 9] (fun s8 s9 wr => ∃ (j : Nat), j ≤ L.length ∧ s9 = .int .i64 j ∧ Hid (wr.ownsRow w1.heap.size 57 2 s8 j (rowD ((L.take j).map digOf))) ∧ Below w1.heap.size w1 wr) (fun _ i _ => L.length - (intOf i).toNat)
  case atStart => exact ⟨0, Nat.zero_le _, rfl, Lib.hid (World.ownsRow_lit w1 #[] 0 (Nat.le_refl _) (Nat.zero_le _) rfl), (Below.refl _ _).alloc (Nat.le_refl _) _⟩
  case round =>
    obtain ⟨j, hj, rfl, ho, hBr⟩ := hrel
    by_cases hlt : j < L.length
    · obtain ⟨b1, o1, rfl, hb1, hcell⟩ := HC.out.resolve_left (by intro e; rw [e] at hlt; simp at hlt)
      have q := (hBr.cell (p := ⟨b1, o1 + j, none⟩) hb1).trans (hcell j hlt)
      have hy := HZ.out _ (List.getElem_mem hlt)
      have et : rowD ((L.take (j + 1)).map digOf) = rowD ((L.take j).map digOf) ++ [.int .u64 (of0 L[j].data.toList), .int .u64 (of1 L[j].data.toList)] := by
        rw [List.take_succ_eq_append_getElem hlt, List.map_append, rowD_append]; rfl
      have ET := Lib.hid et
      clear hcell et
      generalize L[j] = y at q hy ET
      have lj : (rowD ((L.take j).map digOf)).length = j * 2 := by rw [rowD_length, List.length_map, List.length_take]; congr 1; omega
      clear lj
      go_wp2_with fail
      ((with_reducible refine (refOf_any y _ (by unfold maxLen; omega)).mono ?_); rintro e w4 ⟨rfl, hb4⟩)
      have B4 := hBr.trans (hb4.mono hBr.size)
      have OW4 := Lib.hid (own_moveD (w' := w4) ho.out fun k _ h2 => hb4.block k h2)
      have sz4 := B4.size
      obtain ⟨d0, hd0⟩ : ∃ d0, of0 y.data.toList = d0 := ⟨_, rfl⟩
      obtain ⟨d1, hd1⟩ : ∃ d1, of1 y.data.toList = d1 := ⟨_, rfl⟩
      rw [hd0, hd1] at ET ⊢
      clear q ho hd0 hd1
      go_wp2_with (at_builtin; refine wpList_append_own _ rfl _ _ 32 rfl w1.heap.size 57 i0 (.agg #[.int .u64 0, .int .u64 0]) 2 16 Try.underlying32 hi hz0 hz1 hz2 rfl (by decide) _ j (rowD ((L.take j).map digOf)) rfl (OW4.out.alloc _) ⟨w4.heap.size, 0, none⟩ 1 1 [.int .u64 d0, .int .u64 d1] rfl rfl (two_dig w4 (d0, d1) _) (dig_one (d0, d1)) (by unfold maxLen; omega) (by omega) (by simp; omega) ?_)
      intro v' w5 hown hgrow _
      have BG := (B4.alloc sz4 (.cells #[.int .u64 d0, .int .u64 d1] 57)).trans ((Below.refl w1.heap.size (w4.alloc (.cells #[.int .u64 d0, .int .u64 d1] 57))).grown hgrow (by simp; omega) (fun k e => (OW4.out.lt k e).1))
      have OW := Lib.hid hown
      clear hown hgrow
      go_wp2
      go_roundw
      case rel => exact ⟨j + 1, by omega, by go_num, Lib.hid (by rw [ET.out, List.map_take]; exact OW.out), BG⟩
      case measure => simp [intOf]; omega
    · obtain rfl : j = L.length := by omega
      have OW := Lib.hid (own_digs (L := L.map digOf) (by have := ho.out; rw [List.take_length] at this; exact this) (by simp) (by unfold maxLen; omega))
      clear ho
      go_wp2
      exact bodyPost_ret (v := .tuple #[u8, .int .i64 r]) (by simp [results, Try.results15, go_sem]) rfl ⟨_, rfl, OW.out, B1.trans (hBr.mono B1.size)⟩
end Go.Proofs.Ytcdnhnbigincpaa
