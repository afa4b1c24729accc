/- The reference's Great and the laws' great, at this translation. -/
import Derived.Test.YtgnkfikihjjpeaaCheck
namespace Go.Proofs.Ytgnkfikihjjpeaa
open Go.RowKit Go.Great

/-- A text too large for the laws. -/
def long (x : BA) : Bool := decide (100 < x.size)
/-- A sum too large for the laws. -/
def big (S : Sm) : Bool := decide (12 < S.A.length) || decide (12 < S.R.length) || S.A.any long || S.R.any long
theorem not_big {S : Sm} (h : big S = false) : S.A.length ≤ 12 ∧ S.R.length ≤ 12 ∧ (∀ x ∈ S.A, x.size ≤ 100) ∧ ∀ x ∈ S.R, x.size ≤ 100 := by
  simp only [big, Bool.or_eq_false_iff, decide_eq_false_iff_not, List.any_eq_false, long, decide_eq_true_eq] at h
  obtain ⟨⟨⟨h1, h2⟩, h3⟩, h4⟩ := h
  exact ⟨by omega, by omega, fun x hx => by have := h3 x hx; omega, fun x hx => by have := h4 x hx; omega⟩

set_option maxHeartbeats 4000000 in
theorem great1_any (S : Sm) (a0 r0 : Value) (w : World) (h : IsSum w a0 r0 S) (c : Bool) (hc : big S = c) :
    Calls Try.prog 27 #[sv a0 r0] w fun e w' => e = .returned (.bool c) ∧ Below w.heap.size w w' := by
  have hB := (Below.refl w.heap.size w).alloc (Nat.le_refl _) (.cells #[a0, r0] 24)
  have x := SBox.new w a0 r0
  have h1 := h.below hB (Nat.le_refl _)
  obtain ⟨pa, ca, pr, cr, rfl, rfl, na, nr⟩ := h.parts
  have c0 := x.c0
  have c1 := x.c1
  have HX := Lib.hid x
  clear h x
  by_cases k1 : 12 < S.A.length
  · obtain rfl : c = true := by rw [← hc]; simp [big, k1]
    clear hc
    go_enter Try.func27, Try.ntmps27
    go_wp2
    go_ret
    exact ⟨rfl, hB⟩
  by_cases k2 : 12 < S.R.length
  · obtain rfl : c = true := by rw [← hc]; simp [big, k2]
    clear hc
    go_enter Try.func27, Try.ntmps27
    go_wp2
    go_ret
    exact ⟨rfl, hB⟩
  have HR : Hid (((S.A.drop 0).any long || S.R.any long) = c) := Lib.hid (by rw [← hc]; simp [big, k1, k2])
  clear hc
  go_enter Try.func27, Try.ntmps27
  go_upto_region 3 with fail
  clear c0 c1
  have hB0 := Below.refl (w.alloc (.cells #[.slice pa S.A.length ca, .slice pr S.R.length cr] 24)).heap.size (w.alloc (.cells #[.slice pa S.A.length ca, .slice pr S.R.length cr] 24))
  generalize w.alloc (.cells #[.slice pa S.A.length ca, .slice pr S.R.length cr] 24) = w0 at *
  go_wp2
  go_loopw [3] (fun s wr => ∃ j : Nat, j ≤ S.A.length ∧ s = .int .i64 j ∧ Hid (((S.A.drop j).any long || S.R.any long) = c) ∧ Below w0.heap.size w0 wr) (fun i _ => S.A.length - (intOf i).toNat)
  case atStart => exact ⟨0, Nat.zero_le _, rfl, HR, hB0⟩
  case round =>
    obtain ⟨j, hj, rfl, HJ, hBr⟩ := hrel
    have x3 := HX.out.below hBr HX.out.lt
    have h4 := h1.below hBr (Nat.le_refl _)
    have c0 := x3.c0
    have c1 := x3.c1
    by_cases hlt : j < S.A.length
    · rw [any_drop _ _ _ hlt] at HJ
      obtain ⟨a, cap, ea, _, _, hh⟩ := h4.a
      obtain ⟨b1, o1, eb, hb1, hcell⟩ := hh.resolve_left (by intro e; rw [e] at hlt; simp at hlt)
      have p0 := hcell j hlt
      obtain ⟨x, hx⟩ : ∃ x, S.A[j] = x := ⟨_, rfl⟩
      simp only [Value.slice.injEq] at ea
      obtain ⟨rfl, -, rfl⟩ := ea
      subst eb
      rw [hx] at p0 HJ
      clear hcell hx hh
      by_cases hs : 100 < x.size
      · rw [show long x = true from decide_eq_true hs] at HJ
        simp only [Bool.true_or] at HJ
        obtain rfl := HJ.out
        go_wp2
        go_ret
        exact ⟨rfl, hB.trans (hBr.mono hB.size)⟩
      · rw [show long x = false from decide_eq_false hs] at HJ
        simp only [Bool.false_or] at HJ
        go_wp2
        go_roundw
        case rel => exact ⟨j + 1, by omega, by go_num, HJ, hBr⟩
        case measure => simp [intOf]; omega
    · have HK : Hid ((S.R.drop 0).any long = c) := by
        have := HJ.out
        rw [List.drop_eq_nil_of_le (by omega)] at this
        exact Lib.hid (by simpa using this)
      have hBq := hBr
      clear HJ hBr x3 h4
      go_wp2
      clear c0 c1
      go_loopw [4] (fun s wr => ∃ j : Nat, j ≤ S.R.length ∧ s = .int .i64 j ∧ Hid ((S.R.drop j).any long = c) ∧ Below w0.heap.size w0 wr) (fun i _ => S.R.length - (intOf i).toNat)
      case atStart => exact ⟨0, Nat.zero_le _, rfl, HK, hBq⟩
      case round =>
        obtain ⟨j, hj, rfl, HJ, hBr⟩ := hrel
        have x3 := HX.out.below hBr HX.out.lt
        have h4 := h1.below hBr (Nat.le_refl _)
        have c0 := x3.c0
        have c1 := x3.c1
        by_cases hlt : j < S.R.length
        · rw [any_drop _ _ _ hlt] at HJ
          obtain ⟨a, cap, ea, _, _, hh⟩ := h4.r
          obtain ⟨b1, o1, eb, hb1, hcell⟩ := hh.resolve_left (by intro e; rw [e] at hlt; simp at hlt)
          have p0 := hcell j hlt
          obtain ⟨x, hx⟩ : ∃ x, S.R[j] = x := ⟨_, rfl⟩
          simp only [Value.slice.injEq] at ea
          obtain ⟨rfl, -, rfl⟩ := ea
          subst eb
          rw [hx] at p0 HJ
          clear hcell hx hh
          by_cases hs : 100 < x.size
          · rw [show long x = true from decide_eq_true hs] at HJ
            simp only [Bool.true_or] at HJ
            obtain rfl := HJ.out
            go_wp2
            go_ret
            exact ⟨rfl, hB.trans (hBr.mono hB.size)⟩
          · rw [show long x = false from decide_eq_false hs] at HJ
            simp only [Bool.false_or] at HJ
            go_wp2
            go_roundw
            case rel => exact ⟨j + 1, by omega, by go_num, HJ, hBr⟩
            case measure => simp [intOf]; omega
        · have HJ := HJ.out
          rw [List.drop_eq_nil_of_le (by omega)] at HJ
          simp at HJ
          subst HJ
          go_wp2
          go_ret
          exact ⟨rfl, hB.trans (hBr.mono hB.size)⟩

set_option maxHeartbeats 4000000 in
theorem great_any (Ss : List Sm) (V : Nat → Value × Value) (n : Nat) (hn : Ss.length = n) (hn2 : n ≤ 100) (g cap : Nat) (w : World) (hg : g < w.heap.size) (h0 : ∀ j, j < n → w.cell? ⟨g, j * 2, none⟩ = some (V j).1 ∧ w.cell? ⟨g, j * 2 + 1, none⟩ = some (V j).2) (hs : ∀ j (h : j < Ss.length), IsSum w (V j).1 (V j).2 Ss[j]) (c : Bool) (hc : Ss.any big = c) :
    Calls Try.prog 10 #[.slice (some ⟨g, 0, none⟩) n cap] w fun e w' => e = .returned (.bool c) ∧ Below w.heap.size w w' := by
  have HC : Hid ((Ss.drop 0).any big = c) := Lib.hid hc
  have H0 := Lib.hid h0
  have HS := Lib.hid hs
  have HN := Lib.hid hn
  have hl : n ≤ Ss.length := by omega
  clear hc h0 hs hn
  go_enter Try.func10, Try.ntmps10
  go_wp2
  go_loopw [7] (fun s wr => ∃ j : Nat, j ≤ n ∧ s = .int .i64 j ∧ Hid ((Ss.drop j).any big = c) ∧ Below w.heap.size w wr) (fun i _ => n - (intOf i).toNat)
  case atStart => exact ⟨0, Nat.zero_le _, rfl, HC, Below.refl _ _⟩
  case round =>
    obtain ⟨j, hj, rfl, HJ, hBr⟩ := hrel
    by_cases hlt : j < n
    · have hlt2 : j < Ss.length := by omega
      have d0 := (hBr.cell (p := ⟨g, j * 2, none⟩) hg).trans (H0.out j hlt).1
      have d1 := (hBr.cell (p := ⟨g, j * 2 + 1, none⟩) hg).trans (H0.out j hlt).2
      have hI := (HS.out j hlt2).below hBr (Nat.le_refl _)
      rw [any_drop _ _ _ hlt2] at HJ
      obtain ⟨S, hS⟩ : ∃ S, Ss[j] = S := ⟨_, rfl⟩
      rw [hS] at hI HJ
      obtain ⟨pa, ca, pr, cr, ea, er, -, -⟩ := hI.parts
      rw [ea] at d0
      rw [er] at d1
      rw [ea, er] at hI
      have e0 := (SBox.new wr (.slice pa S.A.length ca) (.slice pr S.R.length cr)).c0
      have e1 := (SBox.new wr (.slice pa S.A.length ca) (.slice pr S.R.length cr)).c1
      have BA := (Below.refl wr.heap.size wr).alloc (Nat.le_refl _) (.cells #[.slice pa S.A.length ca, .slice pr S.R.length cr] 24)
      have hIA := hI.below BA (Nat.le_refl _)
      obtain ⟨q, hq⟩ : ∃ q, big S = q := ⟨_, rfl⟩
      rw [hq] at HJ
      have HQ := Lib.hid hq
      clear hS ea er hq hI
      cases q with
      | true =>
        simp only [Bool.true_or] at HJ
        obtain rfl := HJ.out
        go_wp2_with fail
        ((with_reducible refine (great1_any S _ _ _ hIA true HQ.out).mono ?_); rintro e w4 ⟨rfl, hb4⟩)
        have hB4 := hBr.trans ((BA.trans (hb4.mono (by simp))).mono hBr.size)
        go_wp2
        go_ret
        exact ⟨rfl, hB4⟩
      | false =>
        simp only [Bool.false_or] at HJ
        go_wp2_with fail
        ((with_reducible refine (great1_any S _ _ _ hIA false HQ.out).mono ?_); rintro e w4 ⟨rfl, hb4⟩)
        have hB4 := hBr.trans ((BA.trans (hb4.mono (by simp))).mono hBr.size)
        go_wp2
        go_roundw
        case rel => exact ⟨j + 1, by omega, by go_num, HJ, hB4⟩
        case measure => simp [intOf]; omega
    · have HJ := HJ.out
      rw [List.drop_eq_nil_of_le (by have := HN.out; omega)] at HJ
      simp at HJ
      subst HJ
      go_wp2
      go_ret
      exact ⟨rfl, hBr⟩
end Go.Proofs.Ytgnkfikihjjpeaa
