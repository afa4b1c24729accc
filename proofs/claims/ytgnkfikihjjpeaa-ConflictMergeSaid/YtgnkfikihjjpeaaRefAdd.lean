/- The reference's without and insert, at this translation. -/
import Derived.Test.YtgnkfikihjjpeaaRefCheck
import Derived.Test.YtgnkfikihjjpeaaSum
namespace Go.Proofs.Ytgnkfikihjjpeaa
open Go.RowKit Go.Great

theorem erase_at {L : List BA} {x : BA} {j : Nat} (hj : j < L.length) (h : x ∉ L.take j) (e : L[j] = x) : L.erase x = L.take j ++ L.drop (j + 1) := by
  have : L = L.take j ++ x :: L.drop (j + 1) := by
    rw [← e, ← List.drop_eq_getElem_cons hj, List.take_append_drop]
  conv => lhs; rw [this]
  rw [List.erase_append_right _ h, List.erase_cons_head]
theorem not_take {L : List BA} {x : BA} {j : Nat} (hj : j < L.length) (h : x ∉ L.take j) (e : L[j] ≠ x) : x ∉ L.take (j + 1) := by
  rw [List.take_succ_eq_append_getElem hj]
  simp only [List.mem_append, List.mem_singleton, not_or]
  exact ⟨h, fun h => e h.symm⟩

theorem IsStrs.take {w : World} {L : List BA} {a : Option Addr} {n c : Nat} (h : IsStrs w (.slice a n c) L) (j : Nat) (hj : j ≤ n) : IsStrs w (.slice a j c) (L.take j) := by
  obtain ⟨a', cap, e, h1, h2, h3⟩ := h
  simp only [Value.slice.injEq] at e
  obtain ⟨rfl, rfl, rfl⟩ := e
  have hl : (L.take j).length = j := by rw [List.length_take]; omega
  refine ⟨a, c, by rw [hl], by omega, by omega, ?_⟩
  rcases h3 with rfl | ⟨b, off, rfl, hb, hc⟩
  · left; simp
  · right
    refine ⟨b, off, rfl, hb, fun i hi => ?_⟩
    rw [List.getElem_take]
    exact hc i (by omega)
theorem IsStrs.drop {w : World} {L : List BA} {b o n c : Nat} (h : IsStrs w (.slice (some ⟨b, o, none⟩) n c) L) (hb : b < w.heap.size) (j : Nat) (hj : j ≤ n) : IsStrs w (.slice (some ⟨b, o + j, none⟩) (n - j) (c - j)) (L.drop j) := by
  obtain ⟨a', cap, e, h1, h2, h3⟩ := h
  simp only [Value.slice.injEq] at e
  obtain ⟨rfl, rfl, rfl⟩ := e
  refine ⟨_, _, by rw [List.length_drop], by rw [List.length_drop]; omega, by rw [List.length_drop]; omega, ?_⟩
  rcases h3 with rfl | ⟨b', off, e, hb', hc⟩
  · left; simp
  · right
    simp only [Option.some.injEq, Addr.mk.injEq] at e
    obtain ⟨rfl, rfl, -⟩ := e
    refine ⟨_, _, rfl, hb, fun i hi => ?_⟩
    rw [List.getElem_drop, show o + j + i = o + (j + i) by omega]
    exact hc (j + i) (by rw [List.length_drop] at hi; omega)

set_option maxRecDepth 100000 in
set_option maxHeartbeats 4000000 in
theorem without_any (L : List BA) (v : Value) (x : BA) (w : World) (h : IsStrs w v L) (hl : L.length ≤ 100000) :
    Calls Try.prog 53 #[v, .string x] w fun e w' => ∃ v', e = .returned (.tuple #[v', .bool (decide (x ∈ L))]) ∧ IsStrs w' v' (L.erase x) ∧ Below w.heap.size w w' := by
  obtain ⟨i0, hi, hz0, hz1, hz2⟩ := info_parts info9
  have HS := Lib.hid h
  obtain ⟨a, cap, rfl, hn, hcap, hc⟩ := h
  unfold maxLen at hn
  have HC := Lib.hid hc
  have HR : Hid (x ∉ L.take 0) := Lib.hid (by simp)
  clear hc
  go_enter Try.func53, Try.ntmps53
  go_wp2
  go_loopw [6] (fun s wr => ∃ j : Nat, j ≤ L.length ∧ s = .int .i64 j ∧ Hid (x ∉ L.take j) ∧ wr = w) (fun i _ => L.length - (intOf i).toNat)
  case atStart => exact ⟨0, Nat.zero_le _, rfl, HR, rfl⟩
  case round =>
    obtain ⟨j, hj, rfl, HJ, hw⟩ := hrel
    subst wr
    by_cases hlt : j < L.length
    · obtain ⟨b1, o1, rfl, hb1, hcell⟩ := HC.out.resolve_left (by intro e; rw [e] at hlt; simp at hlt)
      have p0 := hcell j hlt
      have E := str_eq L[j] x
      have HE := Lib.hid (rfl : L[j] = L[j])
      generalize hy : L[j] = y at p0 E
      clear hcell HE
      by_cases hxy : y = x
      · rw [decide_eq_true hxy] at E
        have HX := Lib.hid (erase_at hlt HJ.out (hy.trans hxy))
        have HM : Hid (decide (x ∈ L) = true) := Lib.hid (decide_eq_true (by rw [← hxy, ← hy]; exact List.getElem_mem hlt))
        clear hxy hy
        have hO : (w.alloc (.cells #[] 9)).ownsRow w.heap.size 9 1 (.slice (some ⟨w.heap.size, 0, none⟩) 0 0) 0 (rowS []) := ⟨rfl, .inr ⟨w.heap.size, 0, #[], rfl, Nat.le_refl _, heap_alloc_new w _, Nat.le_refl _, Nat.zero_le _, rfl, rfl⟩⟩
        have HO := Lib.hid hO
        have hB0 := (Below.refl w.heap.size w).alloc (Nat.le_refl _) (.cells #[] 9)
        have LO := Lib.hid (HS.out.take j (by omega))
        have HI := Lib.hid (HS.out.drop hb1 (j + 1) (by omega))
        clear hO
        have LT : Hid ((rowS (L.take j)).length = j * 1) := Lib.hid (by rw [rowS_length, List.length_take]; omega)
        have LD : Hid ((rowS (L.drop (j + 1))).length = (L.length - (j + 1)) * 1) := Lib.hid (by rw [rowS_length, List.length_drop]; omega)
        go_upto_region 6 with (at_builtin; refine wpList_append_src31 rfl _ _ 22 rfl w.heap.size 9 i0 (.string ⟨#[]⟩) 1 16 Try.underlying22 hi hz0 hz1 hz2 rfl (by decide) _ _ _ rfl HO.out (some ⟨b1, o1, none⟩) j cap (rowS (L.take j)) rfl LT.out (by simp) (strs_lies (LO.out.below hB0 (Nat.le_refl _))) (row_one _) (by unfold maxLen; omega) (by omega) (by simp) ?_; intro v3 w3 hown hgrow; have hB3 := hB0.grown hgrow (by simp) (fun k hk => (HO.out.lt k hk).1); obtain ⟨a3, c3, rfl⟩ := own_form hown; have HO3 := Lib.hid hown; clear hown hgrow)
        have z3 := hB3.size
        have HO4 : Hid (w3.ownsRow w.heap.size 9 1 (.slice a3 j c3) j (rowS (L.take j))) := Lib.hid (by
          have := HO3.out
          rwa [Nat.zero_add, show rowS [] ++ rowS (L.take j) = rowS (L.take j) from List.nil_append _] at this)
        clear HO3
        by_cases hce : cap = j + 1
        · have hle : L.length = j + 1 := by omega
          have LN : Hid (L.drop (j + 1) = []) := Lib.hid (List.drop_eq_nil_of_le (by omega))
          go_wp2_with (at_builtin; refine wpList_append_src31 rfl _ _ 22 rfl w.heap.size 9 i0 (.string ⟨#[]⟩) 1 16 Try.underlying22 hi hz0 hz1 hz2 rfl (by decide) _ _ _ rfl HO4.out (some ⟨b1, o1, none⟩) 0 0 (rowS []) rfl (by simp [rowS]) (by simp) (by simp [rowS]) (row_one _) (by unfold maxLen; omega) (by omega) (by exact z3) ?_; intro v4 w4 hown hgrow; have hB4 := hB3.grown hgrow (by exact z3) (fun k hk => (HO4.out.lt k hk).1); obtain ⟨a4, c4, rfl⟩ := own_form hown; have HO5 := Lib.hid hown; clear hown hgrow)
          go_ret2
          refine ⟨.slice a4 j c4, by rw [HM.out]; rfl, ?_, hB4⟩
          have := HO5.out
          rw [← row_append, List.append_nil, Nat.add_zero] at this
          rw [HX.out, LN.out, List.append_nil]
          exact own_strs this (by rw [List.length_take]; omega) (by unfold maxLen; omega)
        · go_wp2_with (at_builtin; refine wpList_append_src31 rfl _ _ 22 rfl w.heap.size 9 i0 (.string ⟨#[]⟩) 1 16 Try.underlying22 hi hz0 hz1 hz2 rfl (by decide) _ _ _ rfl HO4.out (some ⟨b1, o1 + (j + 1), none⟩) (L.length - (j + 1)) (cap - (j + 1)) (rowS (L.drop (j + 1))) rfl LD.out (by simp) (strs_lies (HI.out.below hB3 (Nat.le_refl _))) (row_one _) (by unfold maxLen; omega) (by omega) (by exact z3) ?_; intro v4 w4 hown hgrow; have hB4 := hB3.grown hgrow (by exact z3) (fun k hk => (HO4.out.lt k hk).1); obtain ⟨a4, c4, rfl⟩ := own_form hown; have HO5 := Lib.hid hown; clear hown hgrow)
          go_ret2
          refine ⟨.slice a4 (j + (L.length - (j + 1))) c4, by rw [HM.out]; rfl, ?_, hB4⟩
          have := HO5.out
          rw [← row_append, ← HX.out] at this
          exact own_strs this (by rw [HX.out, List.length_append, List.length_take, List.length_drop]; omega) (by unfold maxLen; omega)
      · rw [decide_eq_false hxy] at E
        have HN := Lib.hid (not_take hlt HJ.out (fun e => hxy (hy.symm.trans e)))
        clear hxy hy
        go_wp2
        go_roundw
        case rel => exact ⟨j + 1, by omega, by go_num, HN, by simp⟩
        case measure => simp [intOf]; omega
    · have HJ := HJ.out
      rw [List.take_of_length_le (by omega)] at HJ
      go_wp2
      go_ret2
      exact ⟨.slice a L.length cap, by simp [decide_eq_false HJ], by rw [List.erase_of_not_mem HJ]; exact HS.out, Below.refl _ _⟩
end Go.Proofs.Ytgnkfikihjjpeaa
