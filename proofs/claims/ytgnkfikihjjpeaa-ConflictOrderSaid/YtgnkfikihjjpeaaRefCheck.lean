/- The reference's ascending, Has and Check, at this translation. -/
import Derived.Test.YtgnkfikihjjpeaaSame
import Derived.IntWalk
import Derived.Laws.Cover1
namespace Go.Proofs.Ytgnkfikihjjpeaa
open Go.RowKit Go.Great

theorem gt_true {x y : BA} (h : bl x y = true) : Op.bytesLess y.toList x.toList = false ∧ (y.toList == x.toList) = false ∧ (y.toList != x.toList) = true := by
  have h1 := (bl_lt x y).1 h
  have h3 : ¬ y.toList = x.toList := fun e => by rw [e] at h1; exact absurd h1 (List.lt_irrefl _)
  exact ⟨lt_le h, by simpa using h3, by simpa using h3⟩
theorem gt_false {x y : BA} (h : bl x y = false) : y = x ∨ Op.bytesLess y.toList x.toList = true := by
  by_cases e : y = x
  · exact .inl e
  · exact .inr (lt_of_le_ne h e)

set_option maxHeartbeats 2000000 in
theorem ascR_any (L : List BA) (v : Value) (w : World) (h : IsStrs w v L) (r : Int) (hr : chkT L = r) :
    Calls Try.prog 32 #[v] w fun e w' => e = .returned (.int .i64 r) ∧ Below w.heap.size w w' := by
  obtain ⟨a, cap, rfl, hn, _, hc⟩ := h
  unfold maxLen at hn
  have HC := Lib.hid hc
  have HR : Hid (chkFrom (prv L 0) (L.drop 0) = r) := Lib.hid hr
  clear hc hr
  go_enter Try.func32, Try.ntmps32
  go_wp2
  go_loopw [3] (fun s7 wr => ∃ j : Nat, j ≤ L.length ∧ s7 = .int .i64 j ∧ Hid (chkFrom (prv L j) (L.drop j) = r) ∧ Below w.heap.size w wr) (fun i _ => L.length - (intOf i).toNat)
  case atStart => exact ⟨0, Nat.zero_le _, rfl, HR, Below.refl _ _⟩
  case round =>
    obtain ⟨j, hj, rfl, HJ, hBr⟩ := hrel
    by_cases hlt : j < L.length
    · obtain ⟨b1, o1, rfl, hb1, hcell⟩ := HC.out.resolve_left (by intro e; rw [e] at hlt; simp at hlt)
      have p0 := (hBr.cell (p := ⟨b1, o1 + j, none⟩) hb1).trans (hcell j hlt)
      by_cases hj0 : j = 0
      · subst hj0
        rw [chk_zero (by omega)] at HJ
        obtain ⟨x, hx⟩ : ∃ x, L[0] = x := ⟨_, rfl⟩
        rw [hx] at p0 HJ
        rw [Nat.add_zero] at p0
        clear hx hcell
        simp only [Int.natCast_zero]
        by_cases hs : 65536 < x.size
        · rw [if_pos hs] at HJ
          obtain rfl := HJ.out
          go_wp2
          go_ret
          exact ⟨rfl, hBr⟩
        · rw [if_neg hs] at HJ
          go_wp2
          go_quiet (fail)
          go_wp2
          go_roundw
          case rel => exact ⟨1, by omega, by go_num, HJ, below_drewN hBr nq⟩
          case measure => simp [intOf]; omega
      · obtain ⟨j, rfl⟩ : ∃ i, j = i + 1 := ⟨j - 1, by omega⟩
        clear hj0
        have hlt0 : j < L.length := by omega
        have hlt1 : (j : Int) + 1 < (L.length : Int) := by omega
        have hnn : ¬ (j : Int) + 1 < 0 := by omega
        have htn : ((j : Int) + 1).toNat = j + 1 := by omega
        have wj : IntKind.i64.wrap (j : Int) = j := IntWalk.i64_in _ (by omega)
        have p1 := (hBr.cell (p := ⟨b1, o1 + j, none⟩) hb1).trans (hcell j (by omega))
        rw [chk_succ hlt] at HJ
        obtain ⟨x, hx⟩ : ∃ x, L[j + 1] = x := ⟨_, rfl⟩
        obtain ⟨y, hy⟩ : ∃ y, L[j] = y := ⟨_, rfl⟩
        rw [hx, hy] at HJ
        rw [hx] at p0
        rw [hy] at p1
        clear hcell hx hy
        by_cases hs : 65536 < x.size
        · rw [if_pos hs] at HJ
          obtain rfl := HJ.out
          go_wp2
          go_ret
          exact ⟨rfl, hBr⟩
        · rw [if_neg hs] at HJ
          by_cases hl : bl x y = true
          · rw [if_pos hl] at HJ
            obtain rfl := HJ.out
            obtain ⟨f1, f2, f3⟩ := gt_true hl
            clear hl
            go_wp2
            go_quiet (fail)
            go_wp2
            go_ret
            exact ⟨rfl, below_drewN hBr nq⟩
          · rw [if_neg hl] at HJ
            have hl : bl x y = false := by simpa using hl
            rcases gt_false hl with rfl | f1
            · clear hl
              have f2 : (y.toList == y.toList) = true := beq_self_eq_true _
              have f3 : (y.toList != y.toList) = false := by simp
              go_wp2
              go_quiet (fail)
              go_wp2
              go_roundw
              case rel => exact ⟨j + 2, by omega, by go_num, HJ, below_drewN hBr nq⟩
              case measure => simp [intOf]; omega
            · clear hl
              go_wp2
              go_quiet (fail)
              go_wp2
              go_roundw
              case rel => exact ⟨j + 2, by omega, by go_num, HJ, below_drewN hBr nq⟩
              case measure => simp [intOf]; omega
    · have HJ := HJ.out
      rw [chk_end (by omega)] at HJ
      subst HJ
      go_wp2
      go_ret
      exact ⟨rfl, hBr⟩

set_option maxHeartbeats 2000000 in
theorem has_any (L : List BA) (v : Value) (x : BA) (w : World) (h : IsStrs w v L) (c : Bool) (hc0 : decide (x ∈ L) = c) :
    Calls Try.prog 33 #[v, .string x] w fun e w' => e = .returned (.bool c) ∧ w' = w := by
  obtain ⟨a, cap, rfl, hn, _, hc⟩ := h
  unfold maxLen at hn
  have HC := Lib.hid hc
  have HR : Hid (((L.drop 0).any fun y => decide (y = x)) = c) := Lib.hid (by
    rw [← hc0, List.drop_zero, Bool.eq_iff_iff]
    simp)
  clear hc hc0
  go_enter Try.func33, Try.ntmps33
  go_wp2
  go_loopw [5] (fun s5 wr => ∃ j : Nat, j ≤ L.length ∧ s5 = .int .i64 j ∧ Hid (((L.drop j).any fun y => decide (y = x)) = c) ∧ wr = w) (fun i _ => L.length - (intOf i).toNat)
  case atStart => exact ⟨0, Nat.zero_le _, rfl, HR, rfl⟩
  case round =>
    obtain ⟨j, hj, rfl, HJ, rfl⟩ := hrel
    by_cases hlt : j < L.length
    · obtain ⟨b1, o1, rfl, hb1, hcell⟩ := HC.out.resolve_left (by intro e; rw [e] at hlt; simp at hlt)
      have p0 := hcell j hlt
      rw [any_drop _ _ _ hlt] at HJ
      obtain ⟨y, hy⟩ : ∃ y, L[j] = y := ⟨_, rfl⟩
      rw [hy] at p0 HJ
      have E := str_eq y x
      clear hcell hy
      by_cases hxy : y = x
      · rw [decide_eq_true hxy] at E HJ
        simp only [Bool.true_or] at HJ
        obtain rfl := HJ.out
        clear hxy
        go_wp2
        go_ret
        exact ⟨rfl, rfl⟩
      · rw [decide_eq_false hxy] at E HJ
        simp only [Bool.false_or] at HJ
        clear hxy
        go_wp2
        go_roundw
        case rel => exact ⟨j + 1, by omega, by go_num, HJ, by simp⟩
        case measure => simp [intOf]; omega
    · have HJ := HJ.out
      rw [List.drop_eq_nil_of_le (by omega)] at HJ
      simp at HJ
      subst HJ
      go_wp2
      go_ret
      exact ⟨rfl, rfl⟩

theorem any_swap (A R : List BA) : (R.any fun x => decide (x ∈ A)) = (A.any fun x => decide (x ∈ R)) := by
  rw [Bool.eq_iff_iff]
  simp only [List.any_eq_true, decide_eq_true_eq]
  exact ⟨fun ⟨x, h1, h2⟩ => ⟨x, h2, h1⟩, fun ⟨x, h1, h2⟩ => ⟨x, h2, h1⟩⟩

set_option maxHeartbeats 4000000 in
theorem refCheck_any (S : Sm) (a0 r0 : Value) (w : World) (h : IsSum w a0 r0 S) (hl : S.R.length ≤ 1000000) (r : Int) (hr : chk S = r) :
    Calls Try.prog 17 #[sv a0 r0] w fun e w' => e = .returned (.int .i64 r) ∧ Below w.heap.size w w' := by
  have hB := (Below.refl w.heap.size w).alloc (Nat.le_refl _) (.cells #[a0, r0] 24)
  have x := SBox.new w a0 r0
  have h1 := h.below hB (Nat.le_refl _)
  obtain ⟨pa, ca, pr, cr, rfl, rfl, na, nr⟩ := h.parts
  have HX := Lib.hid x
  have c0 := x.c0
  have c1 := x.c1
  unfold chk at hr
  by_cases k1 : S.A.length ≠ S.R.length + 1
  · rw [if_pos k1] at hr
    subst hr
    have k1' : ((S.A.length : Int) == (S.R.length : Int) + 1) = false := by simp; omega
    have k2' : ((S.A.length : Int) != (S.R.length : Int) + 1) = true := by simp; omega
    clear x k1 h1 h
    go_enter Try.func17, Try.ntmps17
    go_wp2
    go_ret
    exact ⟨rfl, hB⟩
  rw [if_neg k1] at hr
  have k1 := Decidable.not_not.1 k1
  have k1' : ((S.A.length : Int) == (S.R.length : Int) + 1) = true := by simp; omega
  have k2' : ((S.A.length : Int) != (S.R.length : Int) + 1) = false := by simp; omega
  have K1 := Lib.hid k1
  by_cases k2 : 1000 < S.A.length
  · rw [if_pos k2] at hr
    subst hr
    clear x k1 h1 h
    go_enter Try.func17, Try.ntmps17
    go_wp2
    go_ret
    exact ⟨rfl, hB⟩
  rw [if_neg k2] at hr
  clear k1
  by_cases k3 : chkT S.A ≠ 0
  · rw [if_pos k3] at hr
    have k3' : (r == 0) = false := by rw [← hr]; simpa using k3
    have k3'' : (r != 0) = true := by rw [← hr]; simpa using k3
    clear k3 x
    go_enter Try.func17, Try.ntmps17
    go_wp2_with ((with_reducible refine (ascR_any S.A _ _ h1.1 r hr).mono ?_); rintro e w1 ⟨rfl, hb1⟩)
    go_ret
    exact ⟨rfl, hB.trans (hb1.mono (by simp))⟩
  rw [if_neg k3] at hr
  have k3 := Decidable.not_not.1 k3
  by_cases k4 : chkT S.R ≠ 0
  · rw [if_pos k4] at hr
    have k4' : (r == 0) = false := by rw [← hr]; simpa using k4
    have k4'' : (r != 0) = true := by rw [← hr]; simpa using k4
    have H3 := Lib.hid k3
    have HR := Lib.hid hr
    clear k3 k4 x hr
    go_enter Try.func17, Try.ntmps17
    go_wp2_with fail
    ((with_reducible refine (ascR_any S.A _ _ h1.1 0 H3.out).mono ?_); rintro e w1 ⟨rfl, hb1⟩)
    have x1 := HX.out.below hb1 (by simp)
    have d0 := x1.c0
    have d1 := x1.c1
    have h2 := h1.below hb1 (Nat.le_refl _)
    clear c0 c1
    go_wp2_with ((with_reducible refine (ascR_any S.R _ _ h2.2 r HR.out).mono ?_); rintro e w2 ⟨rfl, hb2⟩)
    go_ret
    exact ⟨rfl, hB.trans ((hb1.trans (hb2.mono hb1.size)).mono (by simp))⟩
  rw [if_neg k4] at hr
  have k4 := Decidable.not_not.1 k4
  have H3 := Lib.hid k3
  have H4 := Lib.hid k4
  have HR : Hid ((if ((S.A.drop 0).any fun x => decide (x ∈ S.R)) = true then (7 : Int) else 0) = r) := Lib.hid (by rw [List.drop_zero, ← any_swap]; exact hr)
  clear k3 k4 x hr
  go_enter Try.func17, Try.ntmps17
  go_wp2_with fail
  ((with_reducible refine (ascR_any S.A _ _ h1.1 0 H3.out).mono ?_); rintro e w1 ⟨rfl, hb1⟩)
  have x1 := HX.out.below hb1 (by simp)
  have d0 := x1.c0
  have d1 := x1.c1
  have h2 := h1.below hb1 (Nat.le_refl _)
  have hB1 := hB.trans (hb1.mono (by simp))
  have lt1 : w.heap.size < w1.heap.size := x1.lt
  clear c0 c1 h1 hb1 HX
  go_wp2_with fail
  ((with_reducible refine (ascR_any S.R _ _ h2.2 0 H4.out).mono ?_); rintro e w2 ⟨rfl, hb2⟩)
  have x2 := x1.below hb2 lt1
  have c0 := x2.c0
  have c1 := x2.c1
  have h3 := h2.below hb2 (Nat.le_refl _)
  have hB2 := hB1.trans (hb2.mono hB1.size)
  have lt2 : w.heap.size < w2.heap.size := x2.lt
  clear d0 d1 h2 hb2 x1 lt1 hB1
  go_wp2
  clear c0 c1
  go_loopw [5] (fun s wr => ∃ j : Nat, j ≤ S.A.length ∧ s = .int .i64 j ∧ Hid ((if ((S.A.drop j).any fun x => decide (x ∈ S.R)) = true then (7 : Int) else 0) = r) ∧ Below w2.heap.size w2 wr) (fun i _ => S.A.length - (intOf i).toNat)
  case atStart => exact ⟨0, Nat.zero_le _, rfl, HR, Below.refl _ _⟩
  case round =>
    obtain ⟨j, hj, rfl, HJ, hBr⟩ := hrel
    have x3 := x2.below hBr lt2
    have h4 := h3.below hBr (Nat.le_refl _)
    have c0 := x3.c0
    have c1 := x3.c1
    by_cases hlt : j < S.A.length
    · rw [any_drop _ _ _ hlt] at HJ
      obtain ⟨a, cap, ea, _, _, hh⟩ := h4.1
      obtain ⟨b1, o1, eb, hb1, hcell⟩ := hh.resolve_left (by intro e; rw [e] at hlt; simp at hlt)
      have p0 := hcell j hlt
      obtain ⟨x, hx⟩ : ∃ x, S.A[j] = x := ⟨_, rfl⟩
      simp only [Value.slice.injEq] at ea
      obtain ⟨rfl, -, rfl⟩ := ea
      subst eb
      rw [hx] at p0 HJ
      clear hcell hx hh
      obtain ⟨c, hc⟩ : ∃ c, decide (x ∈ S.R) = c := ⟨_, rfl⟩
      rw [hc] at HJ
      have HC := Lib.hid hc
      clear hc
      go_wp2
      go_quiet (((refine (has_any S.R _ x _ (h4.2.below (below_drewN (Below.refl _ _) _) (Nat.le_refl _)) c HC.out).mono ?_); rintro e w3 ⟨rfl, rfl⟩; exact ⟨rfl, _, rfl⟩))
      have hB3 := below_drewN hBr nq
      cases c with
      | true =>
        simp at HJ
        obtain rfl := HJ.out
        go_wp2
        go_ret
        exact ⟨rfl, hB2.trans (hB3.mono hB2.size)⟩
      | false =>
        simp only [Bool.false_or] at HJ
        go_wp2
        go_roundw
        case rel => exact ⟨j + 1, by omega, by go_num, HJ, hB3⟩
        case measure => simp [intOf]; omega
    · have HJ := HJ.out
      rw [List.drop_eq_nil_of_le (by omega)] at HJ
      simp at HJ
      subst HJ
      go_wp2
      go_ret
      exact ⟨rfl, hB2.trans (hBr.mono hB2.size)⟩
end Go.Proofs.Ytgnkfikihjjpeaa
