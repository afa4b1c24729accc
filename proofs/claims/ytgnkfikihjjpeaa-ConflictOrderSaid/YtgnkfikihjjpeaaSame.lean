/- The reference's Same and slices.Equal, at this translation. -/
import Derived.Test.YtgnkfikihjjpeaaCheck
namespace Go.Proofs.Ytgnkfikihjjpeaa
open Go.RowKit Go.Great

/-- Equal lists, as the walk asks. -/
theorem str_eq (x y : BA) : (x.toList == y.toList) = decide (x = y) := by
  by_cases h : x = y
  · subst h; simp
  · rw [decide_eq_false h]
    exact beq_eq_false_iff_ne.2 fun e => h (toList_inj e)
/-- Two lists are the same from an index on. -/
theorem drop_same {L M : List BA} {j : Nat} (hj : j < L.length) (hj' : j < M.length) : decide (L.drop j = M.drop j) = (decide (L[j] = M[j]) && decide (L.drop (j + 1) = M.drop (j + 1))) := by
  have e1 := List.drop_eq_getElem_cons hj
  have e2 := List.drop_eq_getElem_cons hj'
  rw [← Bool.decide_and, decide_eq_decide, e1, e2, List.cons.injEq]

set_option maxHeartbeats 2000000 in
theorem sameS_any (L M : List BA) (v1 v2 : Value) (w : World) (h1 : IsStrs w v1 L) (h2 : IsStrs w v2 M) (c : Bool) (hc0 : decide (L = M) = c) :
    Calls Try.prog 34 #[v1, v2] w fun e w' => e = .returned (.bool c) ∧ Below w.heap.size w w' := by
  obtain ⟨a, cap, rfl, hn, _, hc⟩ := h1
  obtain ⟨b, cap2, rfl, hn2, _, hc2⟩ := h2
  unfold maxLen at hn hn2
  have HC := Lib.hid hc
  have HC2 := Lib.hid hc2
  clear hc hc2
  by_cases hl : L.length = M.length
  · have HR : Hid (decide (L.drop 0 = M.drop 0) = c) := Lib.hid hc0
    have l1 : ((L.length : Int) == (M.length : Int)) = true := by simp; omega
    have l2 : ((L.length : Int) != (M.length : Int)) = false := by simp; omega
    have HL := Lib.hid hl
    have hl' : M.length ≤ L.length := by omega
    have hl'' : L.length ≤ M.length := by omega
    clear hc0 hl
    go_enter Try.func34, Try.ntmps34
    go_wp2
    clear l1 l2
    go_loopw [5] (fun s5 wr => ∃ j : Nat, j ≤ L.length ∧ s5 = .int .i64 j ∧ Hid (decide (L.drop j = M.drop j) = c) ∧ Below w.heap.size w wr) (fun i _ => L.length - (intOf i).toNat)
    case atStart => exact ⟨0, Nat.zero_le _, rfl, HR, Below.refl _ _⟩
    case round =>
      obtain ⟨j, hj, rfl, HJ, hBr⟩ := hrel
      by_cases hlt : j < L.length
      · have hlt2 : j < M.length := by omega
        obtain ⟨b1, o1, rfl, hb1, hcell⟩ := HC.out.resolve_left (by intro e; rw [e] at hlt; simp at hlt)
        obtain ⟨b2, o2, rfl, hb2, hcell2⟩ := HC2.out.resolve_left (by intro e; rw [e] at hlt2; simp at hlt2)
        have p0 := (hBr.cell (p := ⟨b1, o1 + j, none⟩) hb1).trans (hcell j hlt)
        have p1 := (hBr.cell (p := ⟨b2, o2 + j, none⟩) hb2).trans (hcell2 j hlt2)
        rw [drop_same hlt hlt2] at HJ
        obtain ⟨x, hx⟩ : ∃ x, L[j] = x := ⟨_, rfl⟩
        obtain ⟨y, hy⟩ : ∃ y, M[j] = y := ⟨_, rfl⟩
        rw [hx] at p0
        rw [hy] at p1
        simp only [hx, hy] at HJ
        have E := str_eq x y
        clear hcell hcell2 hx hy
        by_cases hxy : x = y
        · rw [decide_eq_true hxy] at E HJ
          simp only [Bool.true_and] at HJ
          have E' : (x.toList != y.toList) = false := by rw [bne, E]; rfl
          clear hxy
          go_wp2
          go_quiet (fail)
          go_wp2
          go_roundw
          case rel => exact ⟨j + 1, by omega, by go_num, HJ, below_drewN hBr nq⟩
          case measure => simp [intOf]; omega
        · rw [decide_eq_false hxy] at E HJ
          simp only [Bool.false_and] at HJ
          have E' : (x.toList != y.toList) = true := by rw [bne, E]; rfl
          obtain rfl := HJ.out
          clear hxy
          go_wp2
          go_quiet (fail)
          go_wp2
          go_ret
          exact ⟨rfl, below_drewN hBr nq⟩
      · have HJ := HJ.out
        rw [List.drop_eq_nil_of_le (by omega), List.drop_eq_nil_of_le (by omega)] at HJ
        simp at HJ
        subst HJ
        go_wp2
        go_ret
        exact ⟨rfl, hBr⟩
  · have l1 : ((L.length : Int) == (M.length : Int)) = false := by simp; omega
    have l2 : ((L.length : Int) != (M.length : Int)) = true := by simp; omega
    obtain rfl : c = false := by
      rw [← hc0]
      exact decide_eq_false fun e => hl (by rw [e])
    clear hc0 hl
    go_enter Try.func34, Try.ntmps34
    go_wp2
    go_ret
    exact ⟨rfl, Below.refl _ _⟩

/-- Are two sums the same? -/
def eqS (S T : Sm) : Bool := decide (S.A = T.A) && decide (S.R = T.R)
theorem eqS_iff {S T : Sm} : eqS S T = true ↔ S = T := by
  unfold eqS
  rw [← Bool.decide_and, decide_eq_true_iff]
  exact ⟨fun h => Sm.ext' h.1 h.2, fun h => h ▸ ⟨rfl, rfl⟩⟩
set_option maxHeartbeats 2000000 in
theorem same_any (S T : Sm) (a0 r0 a1 r1 : Value) (w : World) (h1 : IsSum w a0 r0 S) (h2 : IsSum w a1 r1 T) (c : Bool) (hc : eqS S T = c) :
    Calls Try.prog 18 #[sv a0 r0, sv a1 r1] w fun e w' => e = .returned (.bool c) ∧ Below w.heap.size w w' := by
  have hB := ((Below.refl w.heap.size w).alloc (Nat.le_refl _) (.cells #[a0, r0] 24)).alloc (by simp) (.cells #[a1, r1] 24)
  have x := (SBox.new w a0 r0).alloc (.cells #[a1, r1] 24)
  have y := SBox.new (w.alloc (.cells #[a0, r0] 24)) a1 r1
  rw [World.size_alloc] at y
  have k1 := h1.below hB (Nat.le_refl _)
  have k2 := h2.below hB (Nat.le_refl _)
  have c0 := x.c0
  have c1 := x.c1
  have c2 := y.c0
  have c3 := y.c1
  have HX := Lib.hid x
  have HY := Lib.hid y
  have HC : Hid ((decide (S.A = T.A) && decide (S.R = T.R)) = c) := by
    exact Lib.hid hc
  clear x y hc
  obtain ⟨d, hd⟩ : ∃ d, decide (S.A = T.A) = d := ⟨_, rfl⟩
  rw [hd] at HC
  have HD := Lib.hid hd
  clear hd
  cases d with
  | false =>
    simp only [Bool.false_and] at HC
    obtain rfl := HC.out
    go_enter Try.func18, Try.ntmps18
    go_wp2_with fail
    ((with_reducible refine (sameS_any S.A T.A _ _ _ k1.a k2.a false HD.out).mono ?_); rintro e w1 ⟨rfl, hb1⟩)
    go_wp2
    go_ret
    exact ⟨rfl, hB.trans (hb1.mono (by simp; omega))⟩
  | true =>
    simp only [Bool.true_and] at HC
    go_enter Try.func18, Try.ntmps18
    go_wp2_with fail
    ((with_reducible refine (sameS_any S.A T.A _ _ _ k1.a k2.a true HD.out).mono ?_); rintro e w1 ⟨rfl, hb1⟩)
    have x1 := HX.out.below hb1 (by simp; omega)
    have y1 := HY.out.below hb1 (by simp)
    have k3 := k1.below hb1 (Nat.le_refl _)
    have k4 := k2.below hb1 (Nat.le_refl _)
    have d0 := x1.c0
    have d1 := x1.c1
    have d2 := y1.c0
    have d3 := y1.c1
    clear c0 c1 c2 c3
    go_wp2_with fail
    ((with_reducible refine (sameS_any S.R T.R _ _ _ k3.r k4.r c HC.out).mono ?_); rintro e w2 ⟨rfl, hb2⟩)
    go_wp2
    go_ret
    exact ⟨rfl, hB.trans ((hb1.trans (hb2.mono hb1.size)).mono (by simp; omega))⟩

theorem equal_any (L M : List BA) (v1 v2 : Value) (w : World) (h1 : IsStrs w v1 L) (h2 : IsStrs w v2 M) (c : Bool) (hc0 : decide (L = M) = c) :
    Calls Try.prog 35 #[v1, v2] w fun e w' => e = .returned (.bool c) ∧ Below w.heap.size w w' := by
  obtain ⟨a, cap, rfl, hn, _, hc⟩ := h1
  obtain ⟨b, cap2, rfl, hn2, _, hc2⟩ := h2
  unfold maxLen at hn hn2
  subst hc0
  by_cases hl : L.length = M.length
  · by_cases h0 : L = []
    · subst h0
      have hM : M = [] := List.length_eq_zero_iff.1 hl.symm
      subst hM
      refine (Try.slices_Equal_string_empty a b cap 0 cap2 w (by omega)).mono ?_
      rintro e w' ⟨rfl, rfl⟩
      exact ⟨by simp, Below.refl _ _⟩
    · obtain ⟨b1, o1, rfl, hb1, hcell⟩ := hc.resolve_left h0
      obtain ⟨b2, o2, rfl, hb2, hcell2⟩ := hc2.resolve_left (by intro e; rw [e] at hl; exact h0 (List.length_eq_zero_iff.1 hl))
      refine (Try.slices_Equal_string b1 o1 L.length cap b2 o2 M.length cap2 L M w (Nat.le_refl _) (Nat.le_refl _) (by omega) (by omega) (fun j h => ?_) (fun j h => ?_)).mono ?_
      · rw [hcell j h, List.getD_eq_getElem?_getD, List.getElem?_eq_getElem h]; rfl
      · rw [hcell2 j h, List.getD_eq_getElem?_getD, List.getElem?_eq_getElem h]; rfl
      · rintro e w' ⟨rfl, q, rfl⟩
        exact ⟨by rw [List.take_length, List.take_length], below_drewN (Below.refl _ _) q⟩
  · refine (Try.slices_Equal_string_lens a b L.length cap M.length cap2 w hl).mono ?_
    rintro e w' ⟨rfl, rfl⟩
    exact ⟨by rw [decide_eq_false fun e => hl (by rw [e])], Below.refl _ _⟩
end Go.Proofs.Ytgnkfikihjjpeaa
