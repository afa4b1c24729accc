/- The example, at this translation. -/
import Derived.Test.YtgnkfikihjjpeaaAwake
namespace Go.Proofs.Ytgnkfikihjjpeaa
open Go.RowKit Go.Great Go.Maps

theorem isStrs2 {w : World} {g : Nat} {x y : BA} {t : TypeId} (h : w.heap[g]? = some (.cells #[.string x, .string y] t (0, 0))) : IsStrs w (.slice (some ⟨g, 0, none⟩) 2 2) [x, y] := by
  refine ⟨_, 2, rfl, by show 2 ≤ maxLen; decide, Nat.le_refl _, .inr ⟨g, 0, rfl, (Array.getElem?_eq_some_iff.1 h).1, fun j hj => ?_⟩⟩
  have hj : j < 2 := hj
  have : j = 0 ∨ j = 1 := by omega
  rcases this with rfl | rfl <;> (simp only [World.cell?, h]; simp)
theorem isStrs1 {w : World} {g : Nat} {x : BA} {t : TypeId} (h : w.heap[g]? = some (.cells #[.string x] t (0, 0))) : IsStrs w (.slice (some ⟨g, 0, none⟩) 1 1) [x] := by
  refine ⟨_, 1, rfl, by show 1 ≤ maxLen; decide, Nat.le_refl _, .inr ⟨g, 0, rfl, (Array.getElem?_eq_some_iff.1 h).1, fun j hj => ?_⟩⟩
  obtain rfl : j = 0 := by have : j < 1 := hj; omega
  simp only [World.cell?, h]; simp

/-- The three texts of the example. -/
def tx : BA := ⟨#[120]⟩
def ty : BA := ⟨#[121]⟩
def tz : BA := ⟨#[122]⟩

set_option maxRecDepth 100000 in
set_option maxHeartbeats 4000000 in
theorem awake_any (w : World) : Calls Try.prog 11 #[] w fun e w' => e = .returned (.bool true) ∧ Below w.heap.size w w' := by
  have hxy : tx ≠ ty := by decide
  have hyz : ty ≠ tz := by decide
  have hxz : tx ≠ tz := by decide
  have hyz' : bl ty tz = true := by rw [bl_lt, ByteArray.toList_eq, ByteArray.toList_eq]; decide
  have sx : tx.size = 1 := rfl
  have sy : ty.size = 1 := rfl
  have szz : tz.size = 1 := rfl
  have OX := Lib.hid (one_ok (x := tx) (by omega))
  have OY := Lib.hid (one_ok (x := ty) (by omega))
  have OZ := Lib.hid (one_ok (x := tz) (by omega))
  have N1 := Lib.hid hxy
  have N2 := Lib.hid hyz
  have N3 := Lib.hid hxz
  have N4 := Lib.hid hyz'
  clear hxy hyz hxz hyz' sx sy szz
  have C1 := Lib.hid (show ∀ W, Calls Try.prog 19 #[.string ⟨#[120]⟩] W (fun e w' => ∃ a, e = .returned (sv a (.slice none 0 0)) ∧ IsSum w' a (.slice none 0 0) (one tx) ∧ Below W.heap.size W w') from fun W => of_any tx W)
  have C2 := Lib.hid (show ∀ W, Calls Try.prog 19 #[.string ⟨#[121]⟩] W (fun e w' => ∃ a, e = .returned (sv a (.slice none 0 0)) ∧ IsSum w' a (.slice none 0 0) (one ty) ∧ Below W.heap.size W w') from fun W => of_any ty W)
  have C3 := Lib.hid (show ∀ W, Calls Try.prog 19 #[.string ⟨#[122]⟩] W (fun e w' => ∃ a, e = .returned (sv a (.slice none 0 0)) ∧ IsSum w' a (.slice none 0 0) (one tz) ∧ Below W.heap.size W w') from fun W => of_any tz W)
  go_enter Try.func11, Try.ntmps11
  go_wp2_with fail
  ((with_reducible refine (C1.out _).mono ?_); rintro e w1 ⟨va, rfl, h1, hb1⟩)
  go_wp2_with fail
  ((with_reducible refine (C2.out _).mono ?_); rintro e w2 ⟨vb, rfl, h2, hb2⟩)
  have h1 := h1.below hb2 (Nat.le_refl _)
  have B2 := hb1.trans (hb2.mono hb1.size)
  clear hb1 hb2
  go_wp2_with fail
  ((with_reducible refine (C3.out _).mono ?_); rintro e w3 ⟨vc, rfl, h3, hb3⟩)
  have h1 := h1.below hb3 (Nat.le_refl _)
  have h2 := h2.below hb3 (Nat.le_refl _)
  have B3 := B2.trans (hb3.mono B2.size)
  clear B2 hb3
  have x1 := ((SBox.new w3 va (.slice none 0 0)).alloc (.cells #[vb, .slice none 0 0] 24)).alloc (.cells #[vc, .slice none 0 0] 24)
  have x2 := (SBox.new (w3.alloc (.cells #[va, .slice none 0 0] 24)) vb (.slice none 0 0)).alloc (.cells #[vc, .slice none 0 0] 24)
  have x3 := SBox.new ((w3.alloc (.cells #[va, .slice none 0 0] 24)).alloc (.cells #[vb, .slice none 0 0] 24)) vc (.slice none 0 0)
  simp only [World.size_alloc] at x2 x3
  have A3 := (((Below.refl w3.heap.size w3).alloc (Nat.le_refl _) (.cells #[va, .slice none 0 0] 24)).alloc (by simp) (.cells #[vb, .slice none 0 0] 24)).alloc (by simp; omega) (.cells #[vc, .slice none 0 0] 24)
  obtain ⟨u1, v1, u2, v2, rfl, -, -, -⟩ := h1.parts
  obtain ⟨u3, v3, u4, v4, rfl, -, -, -⟩ := h2.parts
  obtain ⟨u5, v5, u6, v6, rfl, -, -, -⟩ := h3.parts
  have h1 := h1.below A3 (Nat.le_refl _)
  have h2 := h2.below A3 (Nat.le_refl _)
  have h3 := h3.below A3 (Nat.le_refl _)
  have B4 := B3.trans (A3.mono B3.size)
  clear B3
  go_upto_region 2 with fail
  obtain ⟨k, hk⟩ : ∃ k, w3.heap.size = k := ⟨_, rfl⟩
  generalize ((w3.alloc (.cells #[.slice u1 (one tx).A.length v1, .slice none 0 0] 24)).alloc (.cells #[.slice u3 (one ty).A.length v3, .slice none 0 0] 24)).alloc (.cells #[.slice u5 (one tz).A.length v5, .slice none 0 0] 24) = w4 at *
  rw [hk] at x1 x2 x3 ⊢
  clear hk A3
  have X1 := Lib.hid x1
  have X2 := Lib.hid x2
  have X3 := Lib.hid x3
  have c0 := x1.c0
  have c1 := x1.c1
  have c2 := x2.c0
  have c3 := x2.c1
  have c4 := x3.c0
  have c5 := x3.c1
  clear x1 x2 x3
  go_wp2_with fail
  ((with_reducible refine (merge_ok (one tx) (one ty) (one tz) _ _ _ _ _ _ _ h1 h2 h3 (by simp [one]) OX.out OY.out OZ.out).mono ?_); rintro e w5 ⟨va, vr, M, rfl, hM, hMg, hb5⟩)
  have HG := Lib.hid (hMg.2 (fun h => N2.out (by simpa [one] using h)))
  have HE := Lib.hid ((two_sides HG.out N1.out N2.out N3.out).trans (by rw [if_pos N4.out] : _ = (⟨[ty, tz], [tx]⟩ : Sm)))
  have HO := Lib.hid (HG.out.ok OX.out OY.out OZ.out (by simp [one]))
  obtain ⟨u7, v7, u8, v8, rfl, rfl, -, -⟩ := hM.parts
  have h1 := h1.below hb5 (Nat.le_refl _)
  have h3 := h3.below hb5 (Nat.le_refl _)
  have X1 := Lib.hid (X1.out.below hb5 X1.out.lt)
  have X3 := Lib.hid (X3.out.below hb5 X3.out.lt)
  have B5 := B4.trans (hb5.mono B4.size)
  clear c0 c1 c2 c3 c4 c5 hMg hb5 B4 X2 h2
  have x4 := SBox.new w5 (.slice u7 M.A.length v7) (.slice u8 M.R.length v8)
  have A6 := (Below.refl w5.heap.size w5).alloc (Nat.le_refl _) (.cells #[.slice u7 M.A.length v7, .slice u8 M.R.length v8] 24)
  have h1 := h1.below A6 (Nat.le_refl _)
  have h3 := h3.below A6 (Nat.le_refl _)
  have hM := hM.below A6 (Nat.le_refl _)
  have X1 := Lib.hid (X1.out.below A6 X1.out.lt)
  have X3 := Lib.hid (X3.out.below A6 X3.out.lt)
  have B6 := B5.trans (A6.mono B5.size)
  clear B5
  go_upto_region 3 with fail
  obtain ⟨k2, hk⟩ : ∃ k2, w5.heap.size = k2 := ⟨_, rfl⟩
  generalize w5.alloc (.cells #[.slice u7 M.A.length v7, .slice u8 M.R.length v8] 24) = w6 at *
  rw [hk] at x4 ⊢
  clear hk A6
  have X4 := Lib.hid x4
  have c0 := X3.out.c0
  have c1 := X3.out.c1
  have c2 := x4.c0
  have c3 := x4.c1
  have c4 := X1.out.c0
  have c5 := X1.out.c1
  clear x4
  go_wp2_with fail
  ((with_reducible refine (merge_ok (one tz) M (one tx) _ _ _ _ _ _ _ h3 hM h1 (by rw [HE.out]; simp [one]) OZ.out HO.out OX.out).mono ?_); rintro e w7 ⟨va, vr, M2, rfl, hM2, hMg, hb7⟩)
  have HG2 : Hid (M2 = ⟨[ty], []⟩) := Lib.hid (undo_right HG.out (hMg.2 (len_ne (by rw [HE.out]; simp [one]))))
  obtain ⟨u9, v9, u10, v10, rfl, rfl, -, -⟩ := hM2.parts
  have hM := hM.below hb7 (Nat.le_refl _)
  have X4 := Lib.hid (X4.out.below hb7 X4.out.lt)
  have B7 := B6.trans (hb7.mono B6.size)
  clear c0 c1 c2 c3 c4 c5 hMg hb7 B6 X1 X3 h1 h3
  have x5 := SBox.new w7 (.slice u9 M2.A.length v9) (.slice u10 M2.R.length v10)
  have A8 := (Below.refl w7.heap.size w7).alloc (Nat.le_refl _) (.cells #[.slice u9 M2.A.length v9, .slice u10 M2.R.length v10] 24)
  have hM := hM.below A8 (Nat.le_refl _)
  have hM2 := hM2.below A8 (Nat.le_refl _)
  have X4 := Lib.hid (X4.out.below A8 X4.out.lt)
  have B8 := B7.trans (A8.mono B7.size)
  clear B7
  go_upto_region 4 with fail
  obtain ⟨k3, hk⟩ : ∃ k3, w7.heap.size = k3 := ⟨_, rfl⟩
  generalize w7.alloc (.cells #[.slice u9 M2.A.length v9, .slice u10 M2.R.length v10] 24) = w8 at *
  rw [hk] at x5 ⊢
  clear hk A8
  have c0 := x5.c0
  have c1 := x5.c1
  clear x5
  go_wp2_with fail
  ((with_reducible refine (value_ok ty M2 HG2.out (by decide) _ _ _ hM2).mono ?_); rintro e w9 ⟨rfl, hb9⟩)
  have hM := hM.below hb9 (Nat.le_refl _)
  have x4 := X4.out.below hb9 X4.out.lt
  have B9 := B8.trans (hb9.mono B8.size)
  clear c0 c1 hb9 B8 hM2 X4
  have c0 := x4.c0
  have c1 := x4.c1
  have AA := ((Below.refl w9.heap.size w9).alloc (Nat.le_refl _) (.cells #[.string ⟨#[121]⟩, .string ⟨#[122]⟩] 9)).alloc (by simp) (.cells #[.string ⟨#[120]⟩] 9)
  have hM := hM.below AA (Nat.le_refl _)
  have B10 := B9.trans (AA.mono B9.size)
  have hT : IsSum ((w9.alloc (.cells #[.string ⟨#[121]⟩, .string ⟨#[122]⟩] 9)).alloc (.cells #[.string ⟨#[120]⟩] 9)) (.slice (some ⟨w9.heap.size, 0, none⟩) 2 2) (.slice (some ⟨w9.heap.size + 1, 0, none⟩) 1 1) ⟨[ty, tz], [tx]⟩ := by
    refine ⟨isStrs2 (t := 9) ((Below.heap_alloc _ _ _ (by simp)).trans (World.alloc_heap_new w9 _)), isStrs1 (t := 9) ?_⟩
    have := World.alloc_heap_new (w9.alloc (.cells #[.string ⟨#[121]⟩, .string ⟨#[122]⟩] 9)) (.cells #[.string ⟨#[120]⟩] 9)
    rwa [World.size_alloc] at this
  have HQ := Lib.hid (eqS_iff.2 HE.out)
  have ey : (ty.toList == [121]) = true := by rw [ByteArray.toList_eq]; decide
  go_wp2_with fail
  ((with_reducible refine (same_any M ⟨[ty, tz], [tx]⟩ _ _ _ _ _ hM hT true HQ.out).mono ?_); rintro e w10 ⟨rfl, hb10⟩)
  go_wp2
  go_ret
  exact ⟨rfl, B10.trans (hb10.mono B10.size)⟩
end Go.Proofs.Ytgnkfikihjjpeaa
