/- conflict.checkTexts, Check, Of, Value and Sides, at this translation. -/
import Derived.Test.YtgnkfikihjjpeaaIter
import Derived.Test.YtgnkfikihjjpeaaWords
import Derived.BigQuiet
import Derived.Deep.QuietTactic
import Derived.WalkKit
namespace Go.Proofs.Ytgnkfikihjjpeaa
open Go.RowKit Go.Great

set_option maxHeartbeats 2000000 in
theorem checkT_any (L : List BA) (v : Value) (w : World) (h : IsStrs w v L) (r : Int) (hr : chkT L = r) :
    Calls Try.prog 30 #[v] w fun e w' => e = .returned (.int .i64 r) ∧ Below w.heap.size w w' := by
  obtain ⟨a, cap, rfl, hn, _, hc⟩ := h
  unfold maxLen at hn
  have HC := Lib.hid hc
  have HR : Hid (chkFrom (prv L 0) (L.drop 0) = r) := Lib.hid hr
  clear hc hr
  go_enter Try.func30, Try.ntmps30
  go_wp2
  go_loopw [7] (fun s7 wr => ∃ j : Nat, j ≤ L.length ∧ s7 = .int .i64 j ∧ Hid (chkFrom (prv L j) (L.drop j) = r) ∧ Below w.heap.size w wr) (fun i _ => L.length - (intOf i).toNat)
  case atStart => exact ⟨0, Nat.zero_le _, rfl, HR, Below.refl _ _⟩
  case round =>
    obtain ⟨j, hj, rfl, HJ, hBr⟩ := hrel
    by_cases hlt : j < L.length
    · obtain ⟨b1, o1, rfl, hb1, hcell⟩ := HC.out.resolve_left (by intro e; rw [e] at hlt; simp at hlt)
      have p0 := (hBr.cell (p := ⟨b1, o1 + j, none⟩) hb1).trans (hcell j hlt)
      by_cases hj0 : j = 0
      · have hc0 : ¬ (0 : Int) < (j : Int) := by omega
        rw [show j = 0 from hj0, chk_zero (by omega)] at HJ
        obtain ⟨x, hx⟩ : ∃ x, L[j] = x := ⟨_, rfl⟩
        have hx' : L[0] = x := by rw [← hx]; congr 1; exact hj0.symm
        rw [hx'] at HJ
        rw [hx] at p0
        have HZ := Lib.hid hj0
        clear hj0 hx hx' hcell
        by_cases hs : 65536 < x.size
        · rw [if_pos hs] at HJ
          obtain rfl := HJ.out
          go_wp2
          go_ret
          exact ⟨rfl, hBr⟩
        · rw [if_neg hs] at HJ
          go_wp2
          go_roundw
          case rel => exact ⟨1, by omega, by rw [HZ.out]; go_num, HJ, hBr⟩
          case measure => simp [intOf]; omega
      · obtain ⟨j, rfl⟩ : ∃ i, j = i + 1 := ⟨j - 1, by omega⟩
        clear hj0
        have p1 := (hBr.cell (p := ⟨b1, o1 + j, none⟩) hb1).trans (hcell j (by omega))
        rw [chk_succ hlt] at HJ
        obtain ⟨x, hx⟩ : ∃ x, L[j + 1] = x := ⟨_, rfl⟩
        obtain ⟨y, hy⟩ : ∃ y, L[j] = y := ⟨_, rfl⟩
        rw [hx, hy] at HJ
        rw [hx] at p0
        rw [hy] at p1
        clear hcell hx hy
        by_cases hs : 65536 < x.size
        · rw [if_pos hs] at HJ
          obtain rfl := HJ.out
          go_wp2
          go_ret
          exact ⟨rfl, hBr⟩
        · rw [if_neg hs] at HJ
          by_cases hl : bl x y = true
          · rw [if_pos hl] at HJ
            obtain rfl := HJ.out
            have hl : Op.bytesLess x.toList y.toList = true := hl
            go_wp2
            go_ret
            exact ⟨rfl, hBr⟩
          · rw [if_neg hl] at HJ
            have hl : Op.bytesLess x.toList y.toList = false := by simpa [bl] using hl
            go_wp2
            go_roundw
            case rel => exact ⟨j + 2, by omega, by go_num, HJ, hBr⟩
            case measure => simp [intOf]; omega
    · have HJ := HJ.out
      rw [chk_end (by omega)] at HJ
      subst HJ
      go_wp2
      go_ret
      exact ⟨rfl, hBr⟩

theorem search_any (A : List BA) (v : Value) (w : World) (h : IsStrs w v A) (hA : asc A) (h0 : A ≠ []) (hl : A.length ≤ 1000) (x : BA) (c : Bool) (hc : decide (x ∈ A) = c) :
    Calls Try.prog 31 #[v, .string x] w fun e w' => (∃ k : Nat, e = .returned (.tuple #[.int .i64 k, .bool c])) ∧ Below w.heap.size w w' := by
  obtain ⟨a, cap, rfl, _, _, h3⟩ := h
  obtain ⟨b, off, rfl, _, hj⟩ := h3.resolve_left h0
  refine (Try.slices_BinarySearch_string b off A.length cap (fun t => A.getD t x) x w (by omega) (fun j h => ?_)).mono ?_
  · rw [hj j h, List.getD_eq_getElem?_getD, List.getElem?_eq_getElem h]; rfl
  · rintro e w' ⟨rfl, q, rfl⟩
    refine ⟨⟨Lib.bsGo (fun t => Op.bytesLess (A.getD t x).toList x.toList) A.length 0 A.length, ?_⟩, below_drewN (Below.refl _ _) q⟩
    rw [search_asc hA x _ rfl, hc]

theorem any_drop {α : Type} (p : α → Bool) (L : List α) (j : Nat) (h : j < L.length) : (L.drop j).any p = (p L[j] || (L.drop (j + 1)).any p) := by
  rw [List.drop_eq_getElem_cons h, List.any_cons]

theorem IsSum.parts {w : World} {a r : Value} {S : Sm} (h : IsSum w a r S) : ∃ pa ca pr cr, a = .slice pa S.A.length ca ∧ r = .slice pr S.R.length cr ∧ S.A.length ≤ 9223372036854775807 ∧ S.R.length ≤ 9223372036854775807 := by
  obtain ⟨⟨pa, ca, ea, na, _, _⟩, ⟨pr, cr, er, nr, _, _⟩⟩ := h
  unfold maxLen at na nr
  exact ⟨pa, ca, pr, cr, ea, er, na, nr⟩

set_option maxHeartbeats 4000000 in
theorem check_any (S : Sm) (a0 r0 : Value) (w : World) (h : IsSum w a0 r0 S) (hl : S.R.length ≤ 1000000) (r : Int) (hr : chk S = r) :
    Calls Try.prog 16 #[sv a0 r0] w fun e w' => e = .returned (.int .i64 r) ∧ Below w.heap.size w w' := by
  have hB := (Below.refl w.heap.size w).alloc (Nat.le_refl _) (.cells #[a0, r0] 24)
  have x := SBox.new w a0 r0
  have h1 := h.below hB (Nat.le_refl _)
  obtain ⟨pa, ca, pr, cr, rfl, rfl, na, nr⟩ := h.parts
  have HX := Lib.hid x
  have c0 := x.c0
  have c1 := x.c1
  unfold chk at hr
  by_cases k1 : S.A.length ≠ S.R.length + 1
  · rw [if_pos k1] at hr
    subst hr
    have k1' : ((S.A.length : Int) == (S.R.length : Int) + 1) = false := by simp; omega
    have k2' : ((S.A.length : Int) != (S.R.length : Int) + 1) = true := by simp; omega
    clear x k1 h1 h
    go_enter Try.func16, Try.ntmps16
    go_wp2
    go_ret
    exact ⟨rfl, hB⟩
  rw [if_neg k1] at hr
  have k1 := Decidable.not_not.1 k1
  have k1' : ((S.A.length : Int) == (S.R.length : Int) + 1) = true := by simp; omega
  have k2' : ((S.A.length : Int) != (S.R.length : Int) + 1) = false := by simp; omega
  have K1 := Lib.hid k1
  by_cases k2 : 1000 < S.A.length
  · rw [if_pos k2] at hr
    subst hr
    clear x k1 h1 h
    go_enter Try.func16, Try.ntmps16
    go_wp2
    go_ret
    exact ⟨rfl, hB⟩
  rw [if_neg k2] at hr
  clear k1
  by_cases k3 : chkT S.A ≠ 0
  · rw [if_pos k3] at hr
    have k3' : (r == 0) = false := by rw [← hr]; simpa using k3
    have k3'' : (r != 0) = true := by rw [← hr]; simpa using k3
    clear k3 x
    go_enter Try.func16, Try.ntmps16
    go_wp2_with ((with_reducible refine (checkT_any S.A _ _ h1.1 r hr).mono ?_); rintro e w1 ⟨rfl, hb1⟩)
    go_ret
    exact ⟨rfl, hB.trans (hb1.mono (by simp))⟩
  rw [if_neg k3] at hr
  have k3 := Decidable.not_not.1 k3
  by_cases k4 : chkT S.R ≠ 0
  · rw [if_pos k4] at hr
    have k4' : (r == 0) = false := by rw [← hr]; simpa using k4
    have k4'' : (r != 0) = true := by rw [← hr]; simpa using k4
    have H3 := Lib.hid k3
    have HR := Lib.hid hr
    clear k3 k4 x hr
    go_enter Try.func16, Try.ntmps16
    go_wp2_with fail
    ((with_reducible refine (checkT_any S.A _ _ h1.1 0 H3.out).mono ?_); rintro e w1 ⟨rfl, hb1⟩)
    have x1 := HX.out.below hb1 (by simp)
    have d0 := x1.c0
    have d1 := x1.c1
    have h2 := h1.below hb1 (Nat.le_refl _)
    clear c0 c1
    go_wp2_with ((with_reducible refine (checkT_any S.R _ _ h2.2 r HR.out).mono ?_); rintro e w2 ⟨rfl, hb2⟩)
    go_ret
    exact ⟨rfl, hB.trans ((hb1.trans (hb2.mono hb1.size)).mono (by simp))⟩
  rw [if_neg k4] at hr
  have k4 := Decidable.not_not.1 k4
  have hasc := ((chkT_zero _).1 k3).2
  have HA := Lib.hid hasc
  have H3 := Lib.hid k3
  have H4 := Lib.hid k4
  have HR := Lib.hid hr
  have hR0 : S.A ≠ [] := by
    intro e
    have := K1.out
    rw [e] at this
    simp at this
  have HN := Lib.hid hR0
  clear k3 k4 x hr hasc hR0
  go_enter Try.func16, Try.ntmps16
  go_wp2_with fail
  ((with_reducible refine (checkT_any S.A _ _ h1.1 0 H3.out).mono ?_); rintro e w1 ⟨rfl, hb1⟩)
  have x1 := HX.out.below hb1 (by simp)
  have d0 := x1.c0
  have d1 := x1.c1
  have h2 := h1.below hb1 (Nat.le_refl _)
  have hB1 := hB.trans (hb1.mono (by simp))
  have lt1 : w.heap.size < w1.heap.size := x1.lt
  clear c0 c1 h1 hb1 HX
  go_wp2_with fail
  ((with_reducible refine (checkT_any S.R _ _ h2.2 0 H4.out).mono ?_); rintro e w2 ⟨rfl, hb2⟩)
  have x2 := x1.below hb2 lt1
  have c0 := x2.c0
  have c1 := x2.c1
  have h3 := h2.below hb2 (Nat.le_refl _)
  have hB2 := hB1.trans (hb2.mono hB1.size)
  have lt2 : w.heap.size < w2.heap.size := x2.lt
  clear d0 d1 h2 hb2 x1 lt1 hB1
  go_wp2
  clear c0 c1
  go_loopw [36] (fun s wr => ∃ j : Nat, j ≤ S.R.length ∧ s = .int .i64 j ∧ Hid ((if ((S.R.drop j).any fun x => decide (x ∈ S.A)) = true then (7 : Int) else 0) = r) ∧ Below w2.heap.size w2 wr) (fun i _ => S.R.length - (intOf i).toNat)
  case atStart => exact ⟨0, Nat.zero_le _, rfl, HR, Below.refl _ _⟩
  case round =>
    obtain ⟨j, hj, rfl, HJ, hBr⟩ := hrel
    have x3 := x2.below hBr lt2
    have h4 := h3.below hBr (Nat.le_refl _)
    have c0 := x3.c0
    have c1 := x3.c1
    by_cases hlt : j < S.R.length
    · rw [any_drop _ _ _ hlt] at HJ
      obtain ⟨a, cap, ea, _, _, hh⟩ := h4.2
      obtain ⟨b1, o1, eb, hb1, hcell⟩ := hh.resolve_left (by intro e; rw [e] at hlt; simp at hlt)
      have p0 := hcell j hlt
      obtain ⟨x, hx⟩ : ∃ x, S.R[j] = x := ⟨_, rfl⟩
      simp only [Value.slice.injEq] at ea
      obtain ⟨rfl, -, rfl⟩ := ea
      subst eb
      rw [hx] at p0 HJ
      clear hcell hx hh
      obtain ⟨c, hc⟩ : ∃ c, decide (x ∈ S.A) = c := ⟨_, rfl⟩
      rw [hc] at HJ
      have HC := Lib.hid hc
      clear hc
      go_wp2_with fail
      ((with_reducible refine (search_any S.A _ _ h4.1 HA.out HN.out (by omega) x c HC.out).mono ?_); rintro e w3 ⟨⟨k, rfl⟩, hb3⟩)
      have hB3 := hBr.trans (hb3.mono hBr.size)
      cases c with
      | true =>
        simp at HJ
        obtain rfl := HJ.out
        go_wp2
        go_ret
        exact ⟨rfl, hB2.trans (hB3.mono hB2.size)⟩
      | false =>
        simp only [Bool.false_or] at HJ
        go_wp2
        go_roundw
        case rel => exact ⟨j + 1, by omega, by go_num, HJ, hB3⟩
        case measure => simp [intOf]; omega
    · have HJ := HJ.out
      rw [List.drop_eq_nil_of_le (by omega)] at HJ
      simp at HJ
      subst HJ
      go_wp2
      go_ret
      exact ⟨rfl, hB2.trans (hBr.mono hB2.size)⟩
end Go.Proofs.Ytgnkfikihjjpeaa
