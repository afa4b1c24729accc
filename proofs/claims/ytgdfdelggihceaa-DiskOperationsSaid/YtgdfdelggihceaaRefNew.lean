/- The reference's New. -/
import Derived.Test.YtgdfdelggihceaaLawTorn
import Derived.Deep.AppendLies
import Derived.Deep.RegionLaw
namespace Go.Proofs.Ytgdfdelggihceaa
open Go.RowKit

theorem zeros_snoc (j : Nat) : zeros j ++ ⟨#[0]⟩ = zeros (j + 1) := by
  apply ByteArray.ext
  have e : (List.replicate (j + 1) (0 : UInt8)).toArray = (List.replicate j (0 : UInt8)).toArray ++ #[0] := by rw [List.replicate_succ', ← List.append_toArray]
  rw [ByteArray.data_append]
  exact e.symm
theorem refZeros_any (z : Nat) (hz : z ≤ 512) (w : World) : Calls Try.prog 30 #[.int .i64 z] w fun e w' => e = .returned (.string (zeros z)) ∧ w' = w := by
  go_enter Try.func30, Try.ntmps30
  go_wp2
  go_loopw [3, 4] (fun s3 s4 wr => ∃ j : Nat, j ≤ z ∧ s4 = .int .i64 j ∧ s3 = .string (zeros j) ∧ wr = w) (fun _ i _ => z - (intOf i).toNat)
  case atStart => exact ⟨0, Nat.zero_le _, rfl, rfl, rfl⟩
  case round =>
    obtain ⟨j, hj, rfl, rfl, hwr⟩ := hrel
    have HWR := Lib.hid hwr
    clear hwr
    by_cases hlt : j < z
    · have ZS := Lib.hid (zeros_snoc j)
      have zz : (zeros j).size ≤ 512 := by rw [zeros_size]; omega
      go_wp2
      go_roundw
      case rel => exact ⟨j + 1, by omega, by go_num, by rw [ZS.out], HWR.out⟩
      case measure => simp [intOf]; omega
    · obtain rfl : j = z := by omega
      go_wp2
      go_ret
      exact ⟨rfl, HWR.out⟩
theorem step_zeros {ops : Array Oper} {o : Oper} {a : Act} {w : World} {K : Act → World → Prop} {Q : Exit → Act → World → Prop} {E : Prop}
    (hg : o.guard = none) (s : Nat) (hop : o.op = Op.call { callee := Callee.value (Operand.func 30), args := #[.tmp s], argTypes := #[3] })
    (z : Nat) (hz : z ≤ 512) (hs : a.eval (.tmp s) = .int .i64 z) (hK : K (a.put o.dst (.string (zeros z))) w) :
    if Region.wanted o (yielded ops a.tmps) = true then Oper.wp Try.prog o a w K Q else E := by
  have hw : Region.wanted o (yielded ops a.tmps) = true := by simp [Region.wanted, hg]
  rw [if_pos hw]
  have hs' : a.tmps[s]?.getD undef = .int .i64 z := by simpa [Act.eval] using hs
  unfold Oper.wp
  simp [execOp, hop, go_sem]
  rw [hs']
  refine (refZeros_any z hz _).mono ?_
  rintro e w' ⟨rfl, rfl⟩
  simpa [Act.put] using hK
theorem own_setS {W : World} {B : Nat} {v : Value} {n : Nat} {xs : List Value} (h : W.ownsRow B 9 1 v n xs) {N : Nat} (hN : N < B) (o : Nat) (u : Value) : (W.setCell ⟨N, o, none⟩ u).ownsRow B 9 1 v n xs := by
  refine ⟨h.1, h.2.imp id ?_⟩
  rintro ⟨g, cap, cur, e, hg, hh, h3⟩
  exact ⟨g, cap, cur, e, hg, (Below.heap_setCell W ⟨N, o, none⟩ u g (by show g ≠ N; omega)).trans hh, h3⟩
theorem Bx.setS {N : Nat} {sz : Int} {vs vp : Value} {lf : Int} {W : World} (h : Bx N sz vs vp lf W) (vs' : Value) : Bx N sz vs' vp lf (W.setCell ⟨N, 1, none⟩ vs') := by
  obtain ⟨z0, z1, z2, z3, g0, g1, g2, g3, lt⟩ := h
  refine ⟨?_, ?_, ?_, ?_, ?_, ?_, ?_, ?_, by simpa [World.setCell] using lt⟩ <;>
    simp [World.cell?_setCell_other, World.cell?_setCell_same', World.frozen?_setCell, z0, z1, z2, z3, g0, g1, g2, g3]
/-- A slice of one's own is a row of texts; and stays so when only other blocks change. -/
theorem own_strs {w : World} {B m : Nat} {v : Value} {L : List ByteArray} (h : w.ownsRow B 9 1 v m (rowS L)) (hm : L.length = m) (hl : m ≤ maxLen) : IsStrs w v L := by
  subst hm
  have h0 := h
  obtain ⟨_, ⟨rfl, e⟩ | ⟨g, cap, cur, rfl, hb, hcur, hn, hcap, hsz, _⟩⟩ := h
  · rw [List.length_eq_zero_iff.1 e]; exact isStrs_nil w
  · refine ⟨_, cap, rfl, hl, hn, .inr ⟨g, 0, rfl, (Array.getElem?_eq_some_iff.1 hcur).1, fun j hj => ?_⟩⟩
    have := h0.cellAt j (by omega)
    rw [Nat.zero_add, this, rowS_get L j hj]
theorem own_move {w W' : World} {B m : Nat} {v : Value} {xs : List Value} (h : w.ownsRow B 9 1 v m xs) (hk : ∀ k, B ≤ k → k < w.heap.size → W'.heap[k]? = w.heap[k]?) : W'.ownsRow B 9 1 v m xs := by
  refine ⟨h.1, h.2.imp id ?_⟩
  rintro ⟨g, cap, cur, e, hg, hh, h3⟩
  exact ⟨g, cap, cur, e, hg, (hk g hg (Array.getElem?_eq_some_iff.1 hh).1).trans hh, h3⟩

set_option maxHeartbeats 1000000 in
theorem refNew_bad (n z : Int) (h : n < 1 ∨ 1000 < n ∨ z < 1 ∨ 512 < z) (w : World) :
    Calls Try.prog 13 #[.int .i64 n, .int .i64 z] w fun e w' => e = .returned (.tuple #[dv 0 (.slice none 0 0) (.slice none 0 0) 0, .int .i64 2]) ∧ Below w.heap.size w w' := by
  have hB := (Below.refl w.heap.size w).alloc (Nat.le_refl _) (.cells #[.int .i64 0, .slice none 0 0, .slice none 0 0, .int .i64 0] 26)
  by_cases h1 : n < 1
  · clear h
    go_enter Try.func13, Try.ntmps13
    go_wp2
    exact bodyPost_ret (v := .tuple #[dv 0 (.slice none 0 0) (.slice none 0 0) 0, .int .i64 2]) (by simp [results, Try.results13, go_sem]) rfl ⟨rfl, hB⟩
  by_cases h2 : 1000 < n
  · clear h
    go_enter Try.func13, Try.ntmps13
    go_wp2
    exact bodyPost_ret (v := .tuple #[dv 0 (.slice none 0 0) (.slice none 0 0) 0, .int .i64 2]) (by simp [results, Try.results13, go_sem]) rfl ⟨rfl, hB⟩
  by_cases h3 : z < 1
  · clear h
    go_enter Try.func13, Try.ntmps13
    go_wp2
    exact bodyPost_ret (v := .tuple #[dv 0 (.slice none 0 0) (.slice none 0 0) 0, .int .i64 2]) (by simp [results, Try.results13, go_sem]) rfl ⟨rfl, hB⟩
  have h4 : 512 < z := by omega
  clear h
  go_enter Try.func13, Try.ntmps13
  go_wp2
  exact bodyPost_ret (v := .tuple #[dv 0 (.slice none 0 0) (.slice none 0 0) 0, .int .i64 2]) (by simp [results, Try.results13, go_sem]) rfl ⟨rfl, hB⟩

set_option maxHeartbeats 4000000 in
theorem refNew_ok (n z : Nat) (n1 : 1 ≤ n) (n2 : n ≤ 1000) (z1 : 1 ≤ z) (z2 : z ≤ 512) (w : World) :
    Calls Try.prog 13 #[.int .i64 n, .int .i64 z] w fun e w' => ∃ v', e = .returned (.tuple #[v', .int .i64 0]) ∧ Firm w.heap.size w' v' ⟨z, List.replicate n (zeros z), [], -1⟩ ∧ Below w.heap.size w w' := by
  have hB := (Below.refl w.heap.size w).alloc (Nat.le_refl _) (.cells #[.int .i64 0, .slice none 0 0, .slice none 0 0, .int .i64 0] 26)
  have hB2 := hB.alloc (by simp) (.cells #[.int .i64 z, .slice none 0 0, .slice none 0 0, .int .i64 (-1)] 26)
  have X1 := Lib.hid (((Bx.fresh 0 (.slice none 0 0) (.slice none 0 0) 0 w)).alloc (.cells #[.int .i64 z, .slice none 0 0, .slice none 0 0, .int .i64 (-1)] 26))
  have x2 := Bx.fresh z (.slice none 0 0) (.slice none 0 0) (-1) (w.alloc (.cells #[.int .i64 0, .slice none 0 0, .slice none 0 0, .int .i64 0] 26))
  rw [World.size_alloc] at x2
  have X2 := Lib.hid x2
  clear x2
  have a1 : ¬ (n : Int) < 1 := by omega
  have a2 : ¬ (1000 : Int) < n := by omega
  have a3 : ¬ (z : Int) < 1 := by omega
  have a4 : ¬ (512 : Int) < z := by omega
  obtain ⟨i0, hi, hz0, hz1, hz2⟩ := info_parts info9
  go_enter Try.func13, Try.ntmps13
  go_upto_region 4 with fail
  generalize ((w.alloc (.cells #[.int .i64 0, .slice none 0 0, .slice none 0 0, .int .i64 0] 26)).alloc (.cells #[.int .i64 z, .slice none 0 0, .slice none 0 0, .int .i64 (-1)] 26)) = w2 at hB2 X1 X2 ⊢
  go_wp2
  go_loopw [7] (fun s7 wr => ∃ (j : Nat) (v : Value), j ≤ n ∧ s7 = .int .i64 j ∧ Hid (Bx w.heap.size 0 (.slice none 0 0) (.slice none 0 0) 0 wr) ∧ Hid (Bx (w.heap.size + 1) z v (.slice none 0 0) (-1) wr) ∧ Hid (wr.ownsRow (w.heap.size + 2) 9 1 v j (rowS (List.replicate j (zeros z)))) ∧ Below w.heap.size w wr) (fun i _ => n - (intOf i).toNat)
  case atStart => exact ⟨0, .slice none 0 0, Nat.zero_le _, rfl, X1, X2, Lib.hid (World.ownsRow_nil _ _ _ _), hB2⟩
  case round =>
    obtain ⟨j, v, hj, rfl, hX1, hX2, ho, hBr⟩ := hrel
    by_cases hlt : j < n
    · have lt2 := hX2.out.lt
      have start : wr.drew.cell? ⟨w.heap.size + 1, 1, none⟩ = some v := hX2.out.c1
      have SA := Lib.hid (hX2.out.alloc (.cells #[.string (zeros z)] 9)).drew
      have SB := Lib.hid (hX1.out.alloc (.cells #[.string (zeros z)] 9)).drew
      have startA : (wr.alloc (.cells #[.string (zeros z)] 9)).drew.cell? ⟨w.heap.size + 1, 1, none⟩ = some v := SA.out.c1
      have OA : Hid ((wr.alloc (.cells #[.string (zeros z)] 9)).drew.ownsRow (w.heap.size + 2) 9 1 v j (rowS (List.replicate j (zeros z)))) := Lib.hid (ho.out.alloc _)
      have BA := (hBr.alloc hBr.size (.cells #[.string (zeros z)] 9)).drew
      have hsn : rowS (List.replicate j (zeros z)) ++ [.string (zeros z)] = rowS (List.replicate (j + 1) (zeros z)) := by rw [List.replicate_succ']; simp [rowS]
      have HSN := Lib.hid hsn
      clear hsn
      go_upto_region 7 with fail
      go_region_law (first | (refine step_zeros (by rfl) 32 (by rfl) z z2 (by simp [Act.eval, Act.put]) ?_) | (refine step_append_lies _ (by rfl) (.tmp 31) (.tmp 34) 23 (by rfl) (w.heap.size + 2) 9 i0 (.string ⟨#[]⟩) 1 16 Try.underlying23 hi hz0 hz1 hz2 (by rfl) (by decide) v j (rowS (List.replicate j (zeros z))) (by simp [Act.eval]) OA.out ⟨wr.heap.size, 0, none⟩ 1 1 [.string (zeros z)] (by simp [Act.eval]) rfl (cell_one_new wr _ _) (by intro u hu; simp at hu; subst hu; rfl) Nat.zero_lt_one (by unfold maxLen; omega) (by omega) (by simp; omega) _ rfl ?_; intro g' cap' w5 hown hgrow _ _; have BG := (Below.refl (w.heap.size + 2) (wr.alloc (.cells #[.string (zeros z)] 9)).drew).grown hgrow (by simp; omega) (fun k e => (OA.out.lt k e).1); have V5 := SA.out.below BG (by omega); have U5 := Lib.hid ((SB.out.below BG (by omega)).other (M := w.heap.size + 1) (by omega) 1 (.slice (some ⟨g', 0, none⟩) (j + 1) cap')); have P5 := Lib.hid (V5.setS (.slice (some ⟨g', 0, none⟩) (j + 1) cap')); have N5 := Lib.hid (own_setS hown (N := w.heap.size + 1) (by omega) 1 (.slice (some ⟨g', 0, none⟩) (j + 1) cap')); have B5 := (BA.trans (BG.mono (show w.heap.size ≤ w.heap.size + 2 by omega))).setCell (p := ⟨w.heap.size + 1, 1, none⟩) (by simp) (.slice (some ⟨g', 0, none⟩) (j + 1) cap'); have V5f := V5.f1; have V5c := V5.c1))
      all_goals go_wp2
      all_goals go_roundw
      all_goals first | exact ⟨j + 1, _, by omega, by go_num, U5, P5, Lib.hid (by rw [← HSN.out]; exact N5.out), B5⟩ | (simp [intOf]; omega)
    · obtain rfl : j = n := by omega
      obtain ⟨m, rfl⟩ : ∃ m, j = m + 1 := ⟨j - 1, by omega⟩
      obtain ⟨g, cap, rfl⟩ := ownsRow_succ ho.out
      obtain ⟨q0, q1, q2, q3, g0, g1, g2, g3, qlt⟩ := hX1.out
      obtain ⟨r0, r1, r2, r3, k0, k1, k2, k3, rlt⟩ := hX2.out
      have SB := below_set4 hBr (g := w.heap.size) (Nat.le_refl _) (.int .i64 z) (.slice (some ⟨g, 0, none⟩) (m + 1) cap) (.slice none 0 0) (.int .i64 (-1))
      have NB := Lib.hid (own_setS (own_setS (own_setS (own_setS ho.out (N := w.heap.size) (by omega) 0 (.int .i64 z)) (N := w.heap.size) (by omega) 1 (.slice (some ⟨g, 0, none⟩) (m + 1) cap)) (N := w.heap.size) (by omega) 2 (.slice none 0 0)) (N := w.heap.size) (by omega) 3 (.int .i64 (-1)))
      go_wp2
      exact bodyPost_ret (v := .tuple #[dv z (.slice (some ⟨g, 0, none⟩) (m + 1) cap) (.slice none 0 0) (-1), .int .i64 0]) (by simp [results, Try.results13, go_sem, q0, q1, q2, q3, World.cell?_setCell_other, World.cell?_setCell_same']) rfl ⟨_, rfl, (fun W' s1 s2 => by
        have h := own_strs (L := List.replicate (m + 1) (zeros z)) (own_move NB.out (W' := W') (fun k hk hk2 => s2 k (by omega) hk2)) (by simp) (by unfold maxLen; omega)
        obtain ⟨a', cap', e, i1, i2, i3⟩ := h
        exact ⟨_, _, rfl, ⟨a', cap', e, i1, i2, i3⟩, isWs_nil _⟩), SB⟩
end Go.Proofs.Ytgdfdelggihceaa
