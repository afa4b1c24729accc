/- conflict.Of, Value and Sides, at this translation. -/
import Derived.Test.YtgnkfikihjjpeaaCheck
namespace Go.Proofs.Ytgnkfikihjjpeaa
open Go.RowKit Go.Great

set_option maxHeartbeats 2000000 in
theorem of_any (x : BA) (w : World) :
    Calls Try.prog 19 #[.string x] w fun e w' => ∃ a, e = .returned (sv a (.slice none 0 0)) ∧ IsSum w' a (.slice none 0 0) ⟨[x], []⟩ ∧ Below w.heap.size w w' := by
  have hx := SBox.new w (.slice none 0 0) (.slice none 0 0)
  go_enter Try.func19, Try.ntmps19
  go_wp2
  refine bodyPost_ret (v := sv (.slice (some ⟨w.heap.size + 1, 0, none⟩) 1 1) (.slice none 0 0)) (by simp [results, Try.results19, go_sem]) rfl ⟨_, rfl, ⟨⟨some ⟨w.heap.size + 1, 0, none⟩, 1, rfl, by show 1 ≤ maxLen; decide, Nat.le_refl _, .inr ⟨w.heap.size + 1, 0, rfl, by simp, ?_⟩⟩, isStrs_nil _⟩, ((Below.refl _ _).alloc (Nat.le_refl _) _).alloc (by simp) _⟩
  intro j hj
  obtain rfl : j = 0 := by simpa using hj
  have := (Boxed.new (w.alloc (.cells #[.slice (some ⟨w.heap.size + 1, 0, none⟩) 1 1, .slice none 0 0] 24)) 9 (.string x)).cell
  rw [World.size_alloc] at this
  exact this
set_option maxHeartbeats 2000000 in
theorem refOf_any (x : BA) (w : World) :
    Calls Try.prog 20 #[.string x] w fun e w' => ∃ a, e = .returned (sv a (.slice none 0 0)) ∧ IsSum w' a (.slice none 0 0) ⟨[x], []⟩ ∧ Below w.heap.size w w' := by
  have hx := SBox.new w (.slice none 0 0) (.slice none 0 0)
  go_enter Try.func20, Try.ntmps20
  go_wp2
  refine bodyPost_ret (v := sv (.slice (some ⟨w.heap.size + 1, 0, none⟩) 1 1) (.slice none 0 0)) (by simp [results, Try.results20, go_sem]) rfl ⟨_, rfl, ⟨⟨some ⟨w.heap.size + 1, 0, none⟩, 1, rfl, by show 1 ≤ maxLen; decide, Nat.le_refl _, .inr ⟨w.heap.size + 1, 0, rfl, by simp, ?_⟩⟩, isStrs_nil _⟩, ((Below.refl _ _).alloc (Nat.le_refl _) _).alloc (by simp) _⟩
  intro j hj
  obtain rfl : j = 0 := by simpa using hj
  have := (Boxed.new (w.alloc (.cells #[.slice (some ⟨w.heap.size + 1, 0, none⟩) 1 1, .slice none 0 0] 24)) 9 (.string x)).cell
  rw [World.size_alloc] at this
  exact this
theorem value_bad (S : Sm) (a0 r0 : Value) (w : World) (h : IsSum w a0 r0 S) (hl : S.R.length ≤ 1000000) (hb : ¬ Ok S ∨ 0 < S.R.length) :
    Calls Try.prog 12 #[sv a0 r0] w fun e w' => e = .returned (.tuple #[.string ⟨#[]⟩, .bool false]) ∧ Below w.heap.size w w' := by
  have hB := (Below.refl w.heap.size w).alloc (Nat.le_refl _) (.cells #[a0, r0] 24)
  have x := SBox.new w a0 r0
  have h1 := h.below hB (Nat.le_refl _)
  obtain ⟨pa, ca, pr, cr, rfl, rfl, na, nr⟩ := h.parts
  have c0 := x.c0
  have c1 := x.c1
  obtain ⟨r, hr⟩ : ∃ r, chk S = r := ⟨_, rfl⟩
  by_cases hr0 : r = 0
  · have h0 : 0 < S.R.length := hb.resolve_left fun h => h ((chk_ok S).1 (hr.trans hr0))
    subst hr0
    have HR := Lib.hid hr
    clear hr hb
    have HX := Lib.hid x
    clear x
    go_enter Try.func12, Try.ntmps12
    go_wp2_with fail
    ((with_reducible refine (check_any S _ _ _ h1 hl 0 HR.out).mono ?_); rintro e w1 ⟨rfl, hb1⟩)
    have x1 := HX.out.below hb1 (by simp)
    have d0 := x1.c0
    have d1 := x1.c1
    clear c0 c1
    go_wp2
    go_ret2
    exact ⟨rfl, hB.trans (hb1.mono (by simp))⟩
  · have e1 : (r == 0) = false := by simpa using hr0
    have e2 : (r != 0) = true := by simpa using hr0
    have HR := Lib.hid hr
    clear hr hb hr0 x
    go_enter Try.func12, Try.ntmps12
    go_wp2_with fail
    ((with_reducible refine (check_any S _ _ _ h1 hl r HR.out).mono ?_); rintro e w1 ⟨rfl, hb1⟩)
    go_wp2
    go_ret2
    exact ⟨rfl, hB.trans (hb1.mono (by simp))⟩
set_option maxHeartbeats 2000000 in
theorem value_ok (x : BA) (S : Sm) (hS : S = ⟨[x], []⟩) (hx : x.size ≤ 65536) (a0 r0 : Value) (w : World) (h : IsSum w a0 r0 S) :
    Calls Try.prog 12 #[sv a0 r0] w fun e w' => e = .returned (.tuple #[.string x, .bool true]) ∧ Below w.heap.size w w' := by
  have hok : chk S = 0 := by
    rw [chk_ok, hS]
    exact ⟨rfl, by simp, ⟨by simp [asc], by simp [asc], by simp⟩, by simpa using hx, by simp⟩
  have hl : S.R.length = 0 := by rw [hS]; rfl
  have hA : S.A = [x] := by rw [hS]
  have hB := (Below.refl w.heap.size w).alloc (Nat.le_refl _) (.cells #[a0, r0] 24)
  have X := SBox.new w a0 r0
  have h1 := h.below hB (Nat.le_refl _)
  obtain ⟨pa, ca, pr, cr, rfl, rfl, na, nr⟩ := h.parts
  have c0 := X.c0
  have c1 := X.c1
  have HR := Lib.hid hok
  have HX := Lib.hid X
  have HL := Lib.hid hl
  have HA := Lib.hid hA
  clear hok X hl hS hA
  go_enter Try.func12, Try.ntmps12
  go_wp2_with fail
  ((with_reducible refine (check_any S _ _ _ h1 (by rw [HL.out]; omega) 0 HR.out).mono ?_); rintro e w1 ⟨rfl, hb1⟩)
  have x1 := HX.out.below hb1 (by simp)
  have h2 := h1.below hb1 (Nat.le_refl _)
  have d0 := x1.c0
  have d1 := x1.c1
  have l0 : ¬ (0 : Int) < S.R.length := by rw [HL.out]; omega
  have l1 : 0 < S.A.length := by rw [HA.out]; simp
  obtain ⟨a, cap, ea, _, _, hh⟩ := h2.a
  obtain ⟨b1, o1, eb, hb1', hcell⟩ := hh.resolve_left (by intro e; rw [e] at l1; simp at l1)
  simp only [Value.slice.injEq] at ea
  obtain ⟨rfl, -, rfl⟩ := ea
  subst eb
  have p0 := hcell 0 l1
  have ex : S.A[0] = x := by have := HA.out; simp [this]
  rw [ex, Nat.add_zero] at p0
  clear c0 c1 ex hcell hh
  go_wp2
  go_ret2
  exact ⟨rfl, hB.trans (hb1.mono (by simp))⟩
set_option maxHeartbeats 2000000 in
theorem sides_any (S : Sm) (a0 r0 : Value) (w : World) (h : IsSum w a0 r0 S) (hl : S.R.length ≤ 1000000) :
    Calls Try.prog 21 #[sv a0 r0] w fun e w' => e = .returned (.int .i64 (if chk S = 0 then (S.A.length : Int) else 0)) ∧ Below w.heap.size w w' := by
  have hB := (Below.refl w.heap.size w).alloc (Nat.le_refl _) (.cells #[a0, r0] 24)
  have x := SBox.new w a0 r0
  have h1 := h.below hB (Nat.le_refl _)
  obtain ⟨pa, ca, pr, cr, rfl, rfl, na, nr⟩ := h.parts
  have c0 := x.c0
  have c1 := x.c1
  obtain ⟨r, hr⟩ : ∃ r, chk S = r := ⟨_, rfl⟩
  rw [hr]
  by_cases hr0 : r = 0
  · subst hr0
    rw [if_pos rfl]
    have HR := Lib.hid hr
    clear hr
    have HX := Lib.hid x
    clear x
    go_enter Try.func21, Try.ntmps21
    go_wp2_with fail
    ((with_reducible refine (check_any S _ _ _ h1 hl 0 HR.out).mono ?_); rintro e w1 ⟨rfl, hb1⟩)
    have x1 := HX.out.below hb1 (by simp)
    have d0 := x1.c0
    have d1 := x1.c1
    clear c0 c1
    go_wp2
    go_ret
    exact ⟨rfl, hB.trans (hb1.mono (by simp))⟩
  · rw [if_neg hr0]
    have e1 : (r == 0) = false := by simpa using hr0
    have e2 : (r != 0) = true := by simpa using hr0
    have HR := Lib.hid hr
    clear hr hr0 x
    go_enter Try.func21, Try.ntmps21
    go_wp2_with fail
    ((with_reducible refine (check_any S _ _ _ h1 hl r HR.out).mono ?_); rintro e w1 ⟨rfl, hb1⟩)
    go_wp2
    go_ret
    exact ⟨rfl, hB.trans (hb1.mono (by simp))⟩
end Go.Proofs.Ytgnkfikihjjpeaa
