/- Two changes merged in either order, whatever comes in, at this translation. -/
import Derived.Test.YtgnkfikihjjpeaaOrd
namespace Go.Proofs.Ytgnkfikihjjpeaa
open Go.RowKit Go.Great Go.Maps

set_option maxRecDepth 100000 in
set_option maxHeartbeats 4000000 in
theorem ord_big (S : Sm) (c : Nat → BA) (hc : ∀ k, (c k).size ≤ 100) (a0 r0 : Value) (w : World) (h0 : IsSum w a0 r0 S) (hb : big S = true) :
    Calls Try.prog 9 #[sv a0 r0, .agg #[.string (c 0), .string (c 1), .string (c 2), .string (c 3)]] w fun e w' => e = .returned (.bool true) ∧ Below w.heap.size w w' := by
  have HB := Lib.hid hb
  clear hb
  have n0 : ¬ 100 < (c 0).size := by have := hc 0; omega
  have n1 : ¬ 100 < (c 1).size := by have := hc 1; omega
  have n2 : ¬ 100 < (c 2).size := by have := hc 2; omega
  have n3 : ¬ 100 < (c 3).size := by have := hc 3; omega
  have U1 := Un.new (bx := []) (w := w) ⟨Below.refl _ _, by simp⟩ h0
  obtain ⟨pa0, ca0, pr0, cr0, rfl, rfl, -, -⟩ := h0.parts
  have Q1 := QBox.new (w.alloc (.cells #[.slice pa0 S.A.length ca0, .slice pr0 S.R.length cr0] 24)) c
  rw [World.size_alloc] at Q1
  have U2 := U1.alloc (.cells #[.string (c 0), .string (c 1), .string (c 2), .string (c 3)] 44)
  obtain ⟨wb, hwb⟩ : ∃ wb, (w.alloc (.cells #[.slice pa0 S.A.length ca0, .slice pr0 S.R.length cr0] 24)).alloc (.cells #[.string (c 0), .string (c 1), .string (c 2), .string (c 3)] 44) = wb := ⟨_, rfl⟩
  rw [hwb] at U2 Q1
  have HW := Lib.hid hwb
  have c0 := Q1.cell (k := 0) (by omega)
  have c1 := Q1.cell (k := 1) (by omega)
  have c2 := Q1.cell (k := 2) (by omega)
  have c3 := Q1.cell (k := 3) (by omega)
  clear U1 hwb h0 Q1
  go_enter Try.func9, Try.ntmps9
  go_upto_region 1 with fail
  rw [HW.out]
  go_wp2
  clear c0 c1 c2 c3
  go_loopw [6, 20] (fun _ s20 wr => ∃ z : Int, (z = 0 ∨ z = 1 ∨ z = 2 ∨ z = 3 ∨ z = 4) ∧ s20 = .int .i64 z ∧ wr = wb) (fun _ i _ => (4 - intOf i).toNat)
  case atStart => exact ⟨0, .inl rfl, rfl, rfl⟩
  case round =>
    obtain ⟨z, hz, rfl, hw⟩ := hrel
    subst wr
    by_cases hlt : z ≠ 4
    · have hz : z = 0 ∨ z = 1 ∨ z = 2 ∨ z = 3 := by omega
      rcases hz with rfl | rfl | rfl | rfl
      · go_upto_region 3 with fail
        apply wp_region_lit
        refine wpList_index4 rfl _ _ rfl c 0 (by omega) 0 (by simp) rfl rfl ?_
        simp [Act.put]
        go_wp2
        go_roundw
        case rel => exact ⟨_, by omega, rfl, by simp⟩
        case measure => simp [intOf]
      · go_upto_region 3 with fail
        apply wp_region_lit
        refine wpList_index4 rfl _ _ rfl c 1 (by omega) 1 (by simp) rfl rfl ?_
        simp [Act.put]
        go_wp2
        go_roundw
        case rel => exact ⟨_, by omega, rfl, by simp⟩
        case measure => simp [intOf]
      · go_upto_region 3 with fail
        apply wp_region_lit
        refine wpList_index4 rfl _ _ rfl c 2 (by omega) 2 (by simp) rfl rfl ?_
        simp [Act.put]
        go_wp2
        go_roundw
        case rel => exact ⟨_, by omega, rfl, by simp⟩
        case measure => simp [intOf]
      · go_upto_region 3 with fail
        apply wp_region_lit
        refine wpList_index4 rfl _ _ rfl c 3 (by omega) 3 (by simp) rfl rfl ?_
        simp [Act.put]
        go_wp2
        go_roundw
        case rel => exact ⟨_, by omega, rfl, by simp⟩
        case measure => simp [intOf]
    · obtain rfl : z = 4 := Decidable.not_not.1 hlt
      clear hlt hz
      have hx := U2.x _ (List.mem_cons_self ..)
      have GR := Lib.hid (fun c hc => great_one S _ _ _ hx.2 c hc)
      have HUA := Lib.hid (U2.alloc (.cells #[.slice pa0 S.A.length ca0, .slice pr0 S.R.length cr0] 24))
      have c0 := hx.1.c0
      have c1 := hx.1.c1
      clear U2 hx
      go_wp2_with fail
      ((with_reducible refine (GR.out true HB.out).mono ?_); rintro e w1 ⟨rfl, hd⟩)
      have hU := HUA.out.on hd
      clear c0 c1 hd HUA GR
      go_wp2_with ((with_reducible refine (awake_any _).mono ?_); rintro e wz ⟨rfl, hd⟩)
      have hU := hU.on hd
      go_ret
      exact ⟨rfl, hU.b⟩

set_option maxRecDepth 100000 in
set_option maxHeartbeats 4000000 in
theorem ord_bad (S : Sm) (c : Nat → BA) (hc : ∀ k, (c k).size ≤ 100) (a0 r0 : Value) (w : World) (h0 : IsSum w a0 r0 S) (hb : big S = false) (q : Int) (hq : chk S = q) (hq0 : q ≠ 0) :
    Calls Try.prog 9 #[sv a0 r0, .agg #[.string (c 0), .string (c 1), .string (c 2), .string (c 3)]] w fun e w' => e = .returned (.bool true) ∧ Below w.heap.size w w' := by
  have HB := Lib.hid hb
  have l0 := (not_big hb).2.1
  have HK := Lib.hid hq
  have q1 : (q == 0) = false := by simpa using hq0
  have q2 : (q != 0) = true := by simpa using hq0
  clear hb hq hq0
  have n0 : ¬ 100 < (c 0).size := by have := hc 0; omega
  have n1 : ¬ 100 < (c 1).size := by have := hc 1; omega
  have n2 : ¬ 100 < (c 2).size := by have := hc 2; omega
  have n3 : ¬ 100 < (c 3).size := by have := hc 3; omega
  have U1 := Un.new (bx := []) (w := w) ⟨Below.refl _ _, by simp⟩ h0
  obtain ⟨pa0, ca0, pr0, cr0, rfl, rfl, -, -⟩ := h0.parts
  have Q1 := QBox.new (w.alloc (.cells #[.slice pa0 S.A.length ca0, .slice pr0 S.R.length cr0] 24)) c
  rw [World.size_alloc] at Q1
  have U2 := U1.alloc (.cells #[.string (c 0), .string (c 1), .string (c 2), .string (c 3)] 44)
  obtain ⟨wb, hwb⟩ : ∃ wb, (w.alloc (.cells #[.slice pa0 S.A.length ca0, .slice pr0 S.R.length cr0] 24)).alloc (.cells #[.string (c 0), .string (c 1), .string (c 2), .string (c 3)] 44) = wb := ⟨_, rfl⟩
  rw [hwb] at U2 Q1
  have HW := Lib.hid hwb
  have c0 := Q1.cell (k := 0) (by omega)
  have c1 := Q1.cell (k := 1) (by omega)
  have c2 := Q1.cell (k := 2) (by omega)
  have c3 := Q1.cell (k := 3) (by omega)
  clear U1 hwb h0 Q1
  go_enter Try.func9, Try.ntmps9
  go_upto_region 1 with fail
  rw [HW.out]
  go_wp2
  clear c0 c1 c2 c3
  go_loopw [6, 20] (fun _ s20 wr => ∃ z : Int, (z = 0 ∨ z = 1 ∨ z = 2 ∨ z = 3 ∨ z = 4) ∧ s20 = .int .i64 z ∧ wr = wb) (fun _ i _ => (4 - intOf i).toNat)
  case atStart => exact ⟨0, .inl rfl, rfl, rfl⟩
  case round =>
    obtain ⟨z, hz, rfl, hw⟩ := hrel
    subst wr
    by_cases hlt : z ≠ 4
    · have hz : z = 0 ∨ z = 1 ∨ z = 2 ∨ z = 3 := by omega
      rcases hz with rfl | rfl | rfl | rfl
      · go_upto_region 3 with fail
        apply wp_region_lit
        refine wpList_index4 rfl _ _ rfl c 0 (by omega) 0 (by simp) rfl rfl ?_
        simp [Act.put]
        go_wp2
        go_roundw
        case rel => exact ⟨_, by omega, rfl, by simp⟩
        case measure => simp [intOf]
      · go_upto_region 3 with fail
        apply wp_region_lit
        refine wpList_index4 rfl _ _ rfl c 1 (by omega) 1 (by simp) rfl rfl ?_
        simp [Act.put]
        go_wp2
        go_roundw
        case rel => exact ⟨_, by omega, rfl, by simp⟩
        case measure => simp [intOf]
      · go_upto_region 3 with fail
        apply wp_region_lit
        refine wpList_index4 rfl _ _ rfl c 2 (by omega) 2 (by simp) rfl rfl ?_
        simp [Act.put]
        go_wp2
        go_roundw
        case rel => exact ⟨_, by omega, rfl, by simp⟩
        case measure => simp [intOf]
      · go_upto_region 3 with fail
        apply wp_region_lit
        refine wpList_index4 rfl _ _ rfl c 3 (by omega) 3 (by simp) rfl rfl ?_
        simp [Act.put]
        go_wp2
        go_roundw
        case rel => exact ⟨_, by omega, rfl, by simp⟩
        case measure => simp [intOf]
    · obtain rfl : z = 4 := Decidable.not_not.1 hlt
      clear hlt hz
      have hx := U2.x _ (List.mem_cons_self ..)
      have GR := Lib.hid (fun c hc => great_one S _ _ _ hx.2 c hc)
      have HUA := Lib.hid (U2.alloc (.cells #[.slice pa0 S.A.length ca0, .slice pr0 S.R.length cr0] 24))
      have c0 := hx.1.c0
      have c1 := hx.1.c1
      clear U2 hx
      go_wp2_with fail
      ((with_reducible refine (GR.out false HB.out).mono ?_); rintro e w1 ⟨rfl, hd⟩)
      have hU := HUA.out.on hd
      clear c0 c1 hd HUA GR
      have c0 := hU.h.c0
      have c1 := hU.h.c1
      go_wp2_with fail
      ((with_reducible refine (check_any S _ _ _ hU.s (by omega) q HK.out).mono ?_); rintro e w2 ⟨rfl, hd⟩)
      have hU := hU.on hd
      clear c0 c1 hd
      go_wp2_with ((with_reducible refine (awake_any _).mono ?_); rintro e wz ⟨rfl, hd⟩)
      have hU := hU.on hd
      go_ret
      exact ⟨rfl, hU.b⟩

set_option maxRecDepth 100000 in
set_option maxHeartbeats 4000000 in
theorem ord_long (S : Sm) (c : Nat → BA) (hm : ∀ k, (c k).size ≤ maxLen) (hk : 100 < (c 0).size ∨ 100 < (c 1).size ∨ 100 < (c 2).size ∨ 100 < (c 3).size) (a0 r0 : Value) (w : World) (h0 : IsSum w a0 r0 S) :
    Calls Try.prog 9 #[sv a0 r0, .agg #[.string (c 0), .string (c 1), .string (c 2), .string (c 3)]] w fun e w' => e = .returned (.bool true) ∧ Below w.heap.size w w' := by
  unfold maxLen at hm
  have m0 := hm 0
  have m1 := hm 1
  have m2 := hm 2
  have m3 := hm 3
  have HK := Lib.hid hk
  clear hm hk
  have U1 := Un.new (bx := []) (w := w) ⟨Below.refl _ _, by simp⟩ h0
  obtain ⟨pa0, ca0, pr0, cr0, rfl, rfl, -, -⟩ := h0.parts
  have Q1 := QBox.new (w.alloc (.cells #[.slice pa0 S.A.length ca0, .slice pr0 S.R.length cr0] 24)) c
  rw [World.size_alloc] at Q1
  have U2 := U1.alloc (.cells #[.string (c 0), .string (c 1), .string (c 2), .string (c 3)] 44)
  obtain ⟨wb, hwb⟩ : ∃ wb, (w.alloc (.cells #[.slice pa0 S.A.length ca0, .slice pr0 S.R.length cr0] 24)).alloc (.cells #[.string (c 0), .string (c 1), .string (c 2), .string (c 3)] 44) = wb := ⟨_, rfl⟩
  rw [hwb] at U2 Q1
  have HW := Lib.hid hwb
  have c0 := Q1.cell (k := 0) (by omega)
  have c1 := Q1.cell (k := 1) (by omega)
  have c2 := Q1.cell (k := 2) (by omega)
  have c3 := Q1.cell (k := 3) (by omega)
  clear U1 hwb h0 Q1
  go_enter Try.func9, Try.ntmps9
  go_upto_region 1 with fail
  rw [HW.out]
  go_wp2
  clear c0 c1 c2 c3
  go_loopw [6, 20] (fun _ s20 wr => ∃ z : Int, (z = 0 ∨ (z = 1 ∧ ¬ 100 < (c 0).size) ∨ (z = 2 ∧ ¬ 100 < (c 0).size ∧ ¬ 100 < (c 1).size) ∨ (z = 3 ∧ ¬ 100 < (c 0).size ∧ ¬ 100 < (c 1).size ∧ ¬ 100 < (c 2).size) ∨ (z = 4 ∧ ¬ 100 < (c 0).size ∧ ¬ 100 < (c 1).size ∧ ¬ 100 < (c 2).size ∧ ¬ 100 < (c 3).size)) ∧ s20 = .int .i64 z ∧ wr = wb) (fun _ i _ => (4 - intOf i).toNat)
  case atStart => exact ⟨0, .inl rfl, rfl, rfl⟩
  case round =>
    obtain ⟨z, hz, rfl, hw⟩ := hrel
    subst wr
    rcases hz with rfl | ⟨rfl, n0⟩ | ⟨rfl, n0, n1⟩ | ⟨rfl, n0, n1, n2⟩ | ⟨rfl, n0, n1, n2, n3⟩
    · by_cases n0 : 100 < (c 0).size
      · go_upto_region 3 with fail
        apply wp_region_lit
        refine wpList_index4 rfl _ _ rfl c 0 (by omega) 0 (by simp) rfl rfl ?_
        simp [Act.put]
        go_wp2_with ((with_reducible refine (awake_any _).mono ?_); rintro e wz ⟨rfl, hd⟩)
        have hU := U2.on hd
        go_ret
        exact ⟨rfl, hU.b⟩
      · go_upto_region 3 with fail
        apply wp_region_lit
        refine wpList_index4 rfl _ _ rfl c 0 (by omega) 0 (by simp) rfl rfl ?_
        simp [Act.put]
        go_wp2
        go_roundw
        case rel => exact ⟨1, .inr (.inl ⟨rfl, n0⟩), rfl, by simp⟩
        case measure => simp [intOf]
    · by_cases n1 : 100 < (c 1).size
      · go_upto_region 3 with fail
        apply wp_region_lit
        refine wpList_index4 rfl _ _ rfl c 1 (by omega) 1 (by simp) rfl rfl ?_
        simp [Act.put]
        go_wp2_with ((with_reducible refine (awake_any _).mono ?_); rintro e wz ⟨rfl, hd⟩)
        have hU := U2.on hd
        go_ret
        exact ⟨rfl, hU.b⟩
      · go_upto_region 3 with fail
        apply wp_region_lit
        refine wpList_index4 rfl _ _ rfl c 1 (by omega) 1 (by simp) rfl rfl ?_
        simp [Act.put]
        go_wp2
        go_roundw
        case rel => exact ⟨2, .inr (.inr (.inl ⟨rfl, n0, n1⟩)), rfl, by simp⟩
        case measure => simp [intOf]
    · by_cases n2 : 100 < (c 2).size
      · go_upto_region 3 with fail
        apply wp_region_lit
        refine wpList_index4 rfl _ _ rfl c 2 (by omega) 2 (by simp) rfl rfl ?_
        simp [Act.put]
        go_wp2_with ((with_reducible refine (awake_any _).mono ?_); rintro e wz ⟨rfl, hd⟩)
        have hU := U2.on hd
        go_ret
        exact ⟨rfl, hU.b⟩
      · go_upto_region 3 with fail
        apply wp_region_lit
        refine wpList_index4 rfl _ _ rfl c 2 (by omega) 2 (by simp) rfl rfl ?_
        simp [Act.put]
        go_wp2
        go_roundw
        case rel => exact ⟨3, .inr (.inr (.inr (.inl ⟨rfl, n0, n1, n2⟩))), rfl, by simp⟩
        case measure => simp [intOf]
    · by_cases n3 : 100 < (c 3).size
      · go_upto_region 3 with fail
        apply wp_region_lit
        refine wpList_index4 rfl _ _ rfl c 3 (by omega) 3 (by simp) rfl rfl ?_
        simp [Act.put]
        go_wp2_with ((with_reducible refine (awake_any _).mono ?_); rintro e wz ⟨rfl, hd⟩)
        have hU := U2.on hd
        go_ret
        exact ⟨rfl, hU.b⟩
      · go_upto_region 3 with fail
        apply wp_region_lit
        refine wpList_index4 rfl _ _ rfl c 3 (by omega) 3 (by simp) rfl rfl ?_
        simp [Act.put]
        go_wp2
        go_roundw
        case rel => exact ⟨4, .inr (.inr (.inr (.inr ⟨rfl, n0, n1, n2, n3⟩))), rfl, by simp⟩
        case measure => simp [intOf]
    · exfalso
      have := HK.out
      omega

theorem ord_any (S : Sm) (c : Nat → BA) (hm : ∀ k, (c k).size ≤ maxLen) (h4 : ∀ k, 4 ≤ k → c k = ⟨#[]⟩) (a0 r0 : Value) (w : World) (h0 : IsSum w a0 r0 S) :
    Calls Try.prog 9 #[sv a0 r0, .agg #[.string (c 0), .string (c 1), .string (c 2), .string (c 3)]] w fun e w' => e = .returned (.bool true) ∧ Below w.heap.size w w' := by
  by_cases hk : 100 < (c 0).size ∨ 100 < (c 1).size ∨ 100 < (c 2).size ∨ 100 < (c 3).size
  · exact ord_long S c hm hk a0 r0 w h0
  · have hc : ∀ k, (c k).size ≤ 100 := by
      intro k
      by_cases e : 4 ≤ k
      · rw [h4 k e]; show 0 ≤ 100; omega
      · have : k = 0 ∨ k = 1 ∨ k = 2 ∨ k = 3 := by omega
        rcases this with rfl | rfl | rfl | rfl <;> omega
    cases hb : big S with
    | true => exact ord_big S c hc a0 r0 w h0 hb
    | false =>
      by_cases k : chk S = 0
      · exact ord_main S c hc a0 r0 w h0 hb ((chk_ok S).1 k)
      · exact ord_bad S c hc a0 r0 w h0 hb _ rfl k
end Go.Proofs.Ytgnkfikihjjpeaa
