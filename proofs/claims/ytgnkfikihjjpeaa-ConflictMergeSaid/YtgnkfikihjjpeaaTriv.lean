/- Merges in which a side has not changed the base: the law's walk, at this translation. -/
import Derived.Test.YtgnkfikihjjpeaaGreat
import Derived.Test.YtgnkfikihjjpeaaUn
namespace Go.Proofs.Ytgnkfikihjjpeaa
open Go.RowKit Go.Great Go.Maps

theorem triv_left {B R M : Sm} (h : (B = R → M = B) ∧ (B ≠ R → Mrg B B R M)) (hR : Ok R) : M = R := by
  by_cases e : B = R
  · rw [h.1 e, e]
  · exact (h.2 e).base_left hR.n
theorem triv_right {B L M : Sm} (h : (L = B → M = L) ∧ (L ≠ B → Mrg B L B M)) (hL : Ok L) : M = L := by
  by_cases e : L = B
  · exact h.1 e
  · exact (h.2 e).base_right hL.n
theorem triv_comm {B L R M N : Sm} (h : (L = R → M = L) ∧ (L ≠ R → Mrg B L R M)) (h2 : (R = L → N = R) ∧ (R ≠ L → Mrg B R L N)) : M = N := by
  by_cases e : L = R
  · rw [h.1 e, h2.1 e.symm, e]
  · exact (h.2 e).uniq (h2.2 (fun h => e h.symm)).comm
theorem any3_false {B L R : Sm} (h : [B, L, R].any big = false) : big B = false ∧ big L = false ∧ big R = false := by
  simpa [and_assoc] using h

set_option maxRecDepth 100000 in
set_option maxHeartbeats 4000000 in
theorem triv_big (B L R : Sm) (a0 r0 a1 r1 a2 r2 : Value) (w : World) (h0 : IsSum w a0 r0 B) (h1 : IsSum w a1 r1 L) (h2 : IsSum w a2 r2 R) (hb : [B, L, R].any big = true) :
    Calls Try.prog 7 #[sv a0 r0, sv a1 r1, sv a2 r2] w fun e w' => e = .returned (.bool true) ∧ Below w.heap.size w w' := by
  have HB := Lib.hid hb
  clear hb
  have b0 := (Below.refl w.heap.size w).alloc (Nat.le_refl _) (.cells #[a0, r0] 24)
  have U1 := Un.new (bx := []) (w := w) ⟨Below.refl _ _, by simp⟩ h0
  have U2 := U1.new (h1.below b0 (Nat.le_refl _))
  have b1 := b0.alloc (by simp) (.cells #[a1, r1] 24)
  have U3 := U2.new (h2.below b1 (Nat.le_refl _))
  simp only [World.size_alloc] at U3
  obtain ⟨wb, hwb⟩ : ∃ wb, ((w.alloc (.cells #[a0, r0] 24)).alloc (.cells #[a1, r1] 24)).alloc (.cells #[a2, r2] 24) = wb := ⟨_, rfl⟩
  rw [hwb] at U3
  have HW := Lib.hid hwb
  clear U1 U2 b0 b1 hwb
  have RW := row3_new wb a0 r0 a1 r1 a2 r2 B L R
  have UA := U3.alloc (.cells #[a0, r0, a1, r1, a2, r2] 24)
  have HS : Hid (∀ j (h : j < [B, L, R].length), IsSum (wb.alloc (.cells #[a0, r0, a1, r1, a2, r2] 24)) (at3 (a0, r0) (a1, r1) (a2, r2) j).1 (at3 (a0, r0) (a1, r1) (a2, r2) j).2 [B, L, R][j]) := Lib.hid fun j hj => by
    have hj : j < 3 := hj
    have : j = 0 ∨ j = 1 ∨ j = 2 := by omega
    rcases this with rfl | rfl | rfl
    · exact (UA.x _ (List.mem_cons_of_mem _ (List.mem_cons_of_mem _ (List.mem_cons_self ..)))).2
    · exact (UA.x _ (List.mem_cons_of_mem _ (List.mem_cons_self ..))).2
    · exact (UA.x _ (List.mem_cons_self ..)).2
  have HR3 := Lib.hid RW
  have HUA := Lib.hid UA
  have y0 := (U3.x _ (List.mem_cons_of_mem _ (List.mem_cons_of_mem _ (List.mem_cons_self ..)))).1
  have y1 := (U3.x _ (List.mem_cons_of_mem _ (List.mem_cons_self ..))).1
  have y2 := (U3.x _ (List.mem_cons_self ..)).1
  have c0 := y0.c0
  have c1 := y0.c1
  have c2 := y1.c0
  have c3 := y1.c1
  have c4 := y2.c0
  have c5 := y2.c1
  clear RW UA y0 y1 y2 U3
  have GR : Hid (∀ c, [B, L, R].any big = c → Calls Try.prog 10 #[.slice (some ⟨wb.heap.size, 0, none⟩) 3 3] (wb.alloc (.cells #[a0, r0, a1, r1, a2, r2] 24)) fun e w' => e = .returned (.bool c) ∧ Below (wb.alloc (.cells #[a0, r0, a1, r1, a2, r2] 24)).heap.size (wb.alloc (.cells #[a0, r0, a1, r1, a2, r2] 24)) w') := Lib.hid fun c hc =>
    great_any [B, L, R] (at3 (a0, r0) (a1, r1) (a2, r2)) 3 rfl (by omega) wb.heap.size 3 _ HR3.out.lt (fun j hj => ⟨HR3.out.c0 j hj, HR3.out.c1 j hj⟩) HS.out c hc
  go_enter Try.func7, Try.ntmps7
  go_upto_region 1 with fail
  rw [HW.out]
  go_wp2_with fail
  ((with_reducible refine (GR.out true HB.out).mono ?_); rintro e w1 ⟨rfl, hd⟩)
  have hU := HUA.out.on hd
  go_wp2_with ((with_reducible refine (awake_any _).mono ?_); rintro e wz ⟨rfl, hd⟩)
  have hU := hU.on hd
  go_ret
  exact ⟨rfl, hU.b⟩

set_option maxRecDepth 100000 in
set_option maxHeartbeats 4000000 in
theorem triv_bad0 (B L R : Sm) (a0 r0 a1 r1 a2 r2 : Value) (w : World) (h0 : IsSum w a0 r0 B) (h1 : IsSum w a1 r1 L) (h2 : IsSum w a2 r2 R) (hb : [B, L, R].any big = false) (q : Int) (hq : chk B = q) (hq0 : q ≠ 0) :
    Calls Try.prog 7 #[sv a0 r0, sv a1 r1, sv a2 r2] w fun e w' => e = .returned (.bool true) ∧ Below w.heap.size w w' := by
  have HB := Lib.hid hb
  have nb := any3_false hb
  have l0 := (not_big nb.1).2.1
  have l1 := (not_big nb.2.1).2.1
  have l2 := (not_big nb.2.2).2.1
  have HQ := Lib.hid hq
  have q1 : (q == 0) = false := by simpa using hq0
  have q2 : (q != 0) = true := by simpa using hq0
  clear hb nb hq hq0
  have b0 := (Below.refl w.heap.size w).alloc (Nat.le_refl _) (.cells #[a0, r0] 24)
  have U1 := Un.new (bx := []) (w := w) ⟨Below.refl _ _, by simp⟩ h0
  have U2 := U1.new (h1.below b0 (Nat.le_refl _))
  have b1 := b0.alloc (by simp) (.cells #[a1, r1] 24)
  have U3 := U2.new (h2.below b1 (Nat.le_refl _))
  simp only [World.size_alloc] at U3
  obtain ⟨wb, hwb⟩ : ∃ wb, ((w.alloc (.cells #[a0, r0] 24)).alloc (.cells #[a1, r1] 24)).alloc (.cells #[a2, r2] 24) = wb := ⟨_, rfl⟩
  rw [hwb] at U3
  have HW := Lib.hid hwb
  clear U1 U2 b0 b1 hwb
  have RW := row3_new wb a0 r0 a1 r1 a2 r2 B L R
  have UA := U3.alloc (.cells #[a0, r0, a1, r1, a2, r2] 24)
  have HS : Hid (∀ j (h : j < [B, L, R].length), IsSum (wb.alloc (.cells #[a0, r0, a1, r1, a2, r2] 24)) (at3 (a0, r0) (a1, r1) (a2, r2) j).1 (at3 (a0, r0) (a1, r1) (a2, r2) j).2 [B, L, R][j]) := Lib.hid fun j hj => by
    have hj : j < 3 := hj
    have : j = 0 ∨ j = 1 ∨ j = 2 := by omega
    rcases this with rfl | rfl | rfl
    · exact (UA.x _ (List.mem_cons_of_mem _ (List.mem_cons_of_mem _ (List.mem_cons_self ..)))).2
    · exact (UA.x _ (List.mem_cons_of_mem _ (List.mem_cons_self ..))).2
    · exact (UA.x _ (List.mem_cons_self ..)).2
  have HR3 := Lib.hid RW
  have HUA := Lib.hid UA
  have y0 := (U3.x _ (List.mem_cons_of_mem _ (List.mem_cons_of_mem _ (List.mem_cons_self ..)))).1
  have y1 := (U3.x _ (List.mem_cons_of_mem _ (List.mem_cons_self ..))).1
  have y2 := (U3.x _ (List.mem_cons_self ..)).1
  have c0 := y0.c0
  have c1 := y0.c1
  have c2 := y1.c0
  have c3 := y1.c1
  have c4 := y2.c0
  have c5 := y2.c1
  clear RW UA y0 y1 y2 U3
  have GR : Hid (∀ c, [B, L, R].any big = c → Calls Try.prog 10 #[.slice (some ⟨wb.heap.size, 0, none⟩) 3 3] (wb.alloc (.cells #[a0, r0, a1, r1, a2, r2] 24)) fun e w' => e = .returned (.bool c) ∧ Below (wb.alloc (.cells #[a0, r0, a1, r1, a2, r2] 24)).heap.size (wb.alloc (.cells #[a0, r0, a1, r1, a2, r2] 24)) w') := Lib.hid fun c hc =>
    great_any [B, L, R] (at3 (a0, r0) (a1, r1) (a2, r2)) 3 rfl (by omega) wb.heap.size 3 _ HR3.out.lt (fun j hj => ⟨HR3.out.c0 j hj, HR3.out.c1 j hj⟩) HS.out c hc
  go_enter Try.func7, Try.ntmps7
  go_upto_region 1 with fail
  rw [HW.out]
  go_wp2_with fail
  ((with_reducible refine (GR.out false HB.out).mono ?_); rintro e w1 ⟨rfl, hd⟩)
  have hU := HUA.out.on hd
  clear c0 c1 c2 c3 c4 c5 hd HUA GR HS HR3
  have hx := hU.x _ (List.mem_cons_of_mem _ (List.mem_cons_of_mem _ (List.mem_cons_self ..)))
  have c0 := hx.1.c0
  have c1 := hx.1.c1
  go_wp2_with fail
  ((with_reducible refine (check_any B _ _ _ hx.2 (by omega) q HQ.out).mono ?_); rintro e w2 ⟨rfl, hd⟩)
  have hU := hU.on hd
  clear c0 c1 hx hd
  go_wp2_with ((with_reducible refine (awake_any _).mono ?_); rintro e wz ⟨rfl, hd⟩)
  have hU := hU.on hd
  go_ret
  exact ⟨rfl, hU.b⟩

set_option maxRecDepth 100000 in
set_option maxHeartbeats 4000000 in
theorem triv_bad1 (B L R : Sm) (a0 r0 a1 r1 a2 r2 : Value) (w : World) (h0 : IsSum w a0 r0 B) (h1 : IsSum w a1 r1 L) (h2 : IsSum w a2 r2 R) (hb : [B, L, R].any big = false) (hk0 : chk B = 0) (q : Int) (hq : chk L = q) (hq0 : q ≠ 0) :
    Calls Try.prog 7 #[sv a0 r0, sv a1 r1, sv a2 r2] w fun e w' => e = .returned (.bool true) ∧ Below w.heap.size w w' := by
  have HB := Lib.hid hb
  have nb := any3_false hb
  have l0 := (not_big nb.1).2.1
  have l1 := (not_big nb.2.1).2.1
  have l2 := (not_big nb.2.2).2.1
  have HQ := Lib.hid hq
  have q1 : (q == 0) = false := by simpa using hq0
  have q2 : (q != 0) = true := by simpa using hq0
  have K0 := Lib.hid hk0
  clear hb nb hq hq0 hk0
  have b0 := (Below.refl w.heap.size w).alloc (Nat.le_refl _) (.cells #[a0, r0] 24)
  have U1 := Un.new (bx := []) (w := w) ⟨Below.refl _ _, by simp⟩ h0
  have U2 := U1.new (h1.below b0 (Nat.le_refl _))
  have b1 := b0.alloc (by simp) (.cells #[a1, r1] 24)
  have U3 := U2.new (h2.below b1 (Nat.le_refl _))
  simp only [World.size_alloc] at U3
  obtain ⟨wb, hwb⟩ : ∃ wb, ((w.alloc (.cells #[a0, r0] 24)).alloc (.cells #[a1, r1] 24)).alloc (.cells #[a2, r2] 24) = wb := ⟨_, rfl⟩
  rw [hwb] at U3
  have HW := Lib.hid hwb
  clear U1 U2 b0 b1 hwb
  have RW := row3_new wb a0 r0 a1 r1 a2 r2 B L R
  have UA := U3.alloc (.cells #[a0, r0, a1, r1, a2, r2] 24)
  have HS : Hid (∀ j (h : j < [B, L, R].length), IsSum (wb.alloc (.cells #[a0, r0, a1, r1, a2, r2] 24)) (at3 (a0, r0) (a1, r1) (a2, r2) j).1 (at3 (a0, r0) (a1, r1) (a2, r2) j).2 [B, L, R][j]) := Lib.hid fun j hj => by
    have hj : j < 3 := hj
    have : j = 0 ∨ j = 1 ∨ j = 2 := by omega
    rcases this with rfl | rfl | rfl
    · exact (UA.x _ (List.mem_cons_of_mem _ (List.mem_cons_of_mem _ (List.mem_cons_self ..)))).2
    · exact (UA.x _ (List.mem_cons_of_mem _ (List.mem_cons_self ..))).2
    · exact (UA.x _ (List.mem_cons_self ..)).2
  have HR3 := Lib.hid RW
  have HUA := Lib.hid UA
  have y0 := (U3.x _ (List.mem_cons_of_mem _ (List.mem_cons_of_mem _ (List.mem_cons_self ..)))).1
  have y1 := (U3.x _ (List.mem_cons_of_mem _ (List.mem_cons_self ..))).1
  have y2 := (U3.x _ (List.mem_cons_self ..)).1
  have c0 := y0.c0
  have c1 := y0.c1
  have c2 := y1.c0
  have c3 := y1.c1
  have c4 := y2.c0
  have c5 := y2.c1
  clear RW UA y0 y1 y2 U3
  have GR : Hid (∀ c, [B, L, R].any big = c → Calls Try.prog 10 #[.slice (some ⟨wb.heap.size, 0, none⟩) 3 3] (wb.alloc (.cells #[a0, r0, a1, r1, a2, r2] 24)) fun e w' => e = .returned (.bool c) ∧ Below (wb.alloc (.cells #[a0, r0, a1, r1, a2, r2] 24)).heap.size (wb.alloc (.cells #[a0, r0, a1, r1, a2, r2] 24)) w') := Lib.hid fun c hc =>
    great_any [B, L, R] (at3 (a0, r0) (a1, r1) (a2, r2)) 3 rfl (by omega) wb.heap.size 3 _ HR3.out.lt (fun j hj => ⟨HR3.out.c0 j hj, HR3.out.c1 j hj⟩) HS.out c hc
  go_enter Try.func7, Try.ntmps7
  go_upto_region 1 with fail
  rw [HW.out]
  go_wp2_with fail
  ((with_reducible refine (GR.out false HB.out).mono ?_); rintro e w1 ⟨rfl, hd⟩)
  have hU := HUA.out.on hd
  clear c0 c1 c2 c3 c4 c5 hd HUA GR HS HR3
  have hx := hU.x _ (List.mem_cons_of_mem _ (List.mem_cons_of_mem _ (List.mem_cons_self ..)))
  have c0 := hx.1.c0
  have c1 := hx.1.c1
  go_wp2_with fail
  ((with_reducible refine (check_any B _ _ _ hx.2 (by omega) 0 K0.out).mono ?_); rintro e w2 ⟨rfl, hd⟩)
  have hU := hU.on hd
  clear c0 c1 hx hd
  have hx := hU.x _ (List.mem_cons_of_mem _ (List.mem_cons_self ..))
  have c0 := hx.1.c0
  have c1 := hx.1.c1
  go_wp2_with fail
  ((with_reducible refine (check_any L _ _ _ hx.2 (by omega) q HQ.out).mono ?_); rintro e w3 ⟨rfl, hd⟩)
  have hU := hU.on hd
  clear c0 c1 hx hd
  go_wp2_with ((with_reducible refine (awake_any _).mono ?_); rintro e wz ⟨rfl, hd⟩)
  have hU := hU.on hd
  go_ret
  exact ⟨rfl, hU.b⟩

set_option maxRecDepth 100000 in
set_option maxHeartbeats 4000000 in
theorem triv_bad2 (B L R : Sm) (a0 r0 a1 r1 a2 r2 : Value) (w : World) (h0 : IsSum w a0 r0 B) (h1 : IsSum w a1 r1 L) (h2 : IsSum w a2 r2 R) (hb : [B, L, R].any big = false) (hk0 : chk B = 0) (hk1 : chk L = 0) (q : Int) (hq : chk R = q) (hq0 : q ≠ 0) :
    Calls Try.prog 7 #[sv a0 r0, sv a1 r1, sv a2 r2] w fun e w' => e = .returned (.bool true) ∧ Below w.heap.size w w' := by
  have HB := Lib.hid hb
  have nb := any3_false hb
  have l0 := (not_big nb.1).2.1
  have l1 := (not_big nb.2.1).2.1
  have l2 := (not_big nb.2.2).2.1
  have HQ := Lib.hid hq
  have q1 : (q == 0) = false := by simpa using hq0
  have q2 : (q != 0) = true := by simpa using hq0
  have K0 := Lib.hid hk0
  have K1 := Lib.hid hk1
  clear hb nb hq hq0 hk0 hk1
  have b0 := (Below.refl w.heap.size w).alloc (Nat.le_refl _) (.cells #[a0, r0] 24)
  have U1 := Un.new (bx := []) (w := w) ⟨Below.refl _ _, by simp⟩ h0
  have U2 := U1.new (h1.below b0 (Nat.le_refl _))
  have b1 := b0.alloc (by simp) (.cells #[a1, r1] 24)
  have U3 := U2.new (h2.below b1 (Nat.le_refl _))
  simp only [World.size_alloc] at U3
  obtain ⟨wb, hwb⟩ : ∃ wb, ((w.alloc (.cells #[a0, r0] 24)).alloc (.cells #[a1, r1] 24)).alloc (.cells #[a2, r2] 24) = wb := ⟨_, rfl⟩
  rw [hwb] at U3
  have HW := Lib.hid hwb
  clear U1 U2 b0 b1 hwb
  have RW := row3_new wb a0 r0 a1 r1 a2 r2 B L R
  have UA := U3.alloc (.cells #[a0, r0, a1, r1, a2, r2] 24)
  have HS : Hid (∀ j (h : j < [B, L, R].length), IsSum (wb.alloc (.cells #[a0, r0, a1, r1, a2, r2] 24)) (at3 (a0, r0) (a1, r1) (a2, r2) j).1 (at3 (a0, r0) (a1, r1) (a2, r2) j).2 [B, L, R][j]) := Lib.hid fun j hj => by
    have hj : j < 3 := hj
    have : j = 0 ∨ j = 1 ∨ j = 2 := by omega
    rcases this with rfl | rfl | rfl
    · exact (UA.x _ (List.mem_cons_of_mem _ (List.mem_cons_of_mem _ (List.mem_cons_self ..)))).2
    · exact (UA.x _ (List.mem_cons_of_mem _ (List.mem_cons_self ..))).2
    · exact (UA.x _ (List.mem_cons_self ..)).2
  have HR3 := Lib.hid RW
  have HUA := Lib.hid UA
  have y0 := (U3.x _ (List.mem_cons_of_mem _ (List.mem_cons_of_mem _ (List.mem_cons_self ..)))).1
  have y1 := (U3.x _ (List.mem_cons_of_mem _ (List.mem_cons_self ..))).1
  have y2 := (U3.x _ (List.mem_cons_self ..)).1
  have c0 := y0.c0
  have c1 := y0.c1
  have c2 := y1.c0
  have c3 := y1.c1
  have c4 := y2.c0
  have c5 := y2.c1
  clear RW UA y0 y1 y2 U3
  have GR : Hid (∀ c, [B, L, R].any big = c → Calls Try.prog 10 #[.slice (some ⟨wb.heap.size, 0, none⟩) 3 3] (wb.alloc (.cells #[a0, r0, a1, r1, a2, r2] 24)) fun e w' => e = .returned (.bool c) ∧ Below (wb.alloc (.cells #[a0, r0, a1, r1, a2, r2] 24)).heap.size (wb.alloc (.cells #[a0, r0, a1, r1, a2, r2] 24)) w') := Lib.hid fun c hc =>
    great_any [B, L, R] (at3 (a0, r0) (a1, r1) (a2, r2)) 3 rfl (by omega) wb.heap.size 3 _ HR3.out.lt (fun j hj => ⟨HR3.out.c0 j hj, HR3.out.c1 j hj⟩) HS.out c hc
  go_enter Try.func7, Try.ntmps7
  go_upto_region 1 with fail
  rw [HW.out]
  go_wp2_with fail
  ((with_reducible refine (GR.out false HB.out).mono ?_); rintro e w1 ⟨rfl, hd⟩)
  have hU := HUA.out.on hd
  clear c0 c1 c2 c3 c4 c5 hd HUA GR HS HR3
  have hx := hU.x _ (List.mem_cons_of_mem _ (List.mem_cons_of_mem _ (List.mem_cons_self ..)))
  have c0 := hx.1.c0
  have c1 := hx.1.c1
  go_wp2_with fail
  ((with_reducible refine (check_any B _ _ _ hx.2 (by omega) 0 K0.out).mono ?_); rintro e w2 ⟨rfl, hd⟩)
  have hU := hU.on hd
  clear c0 c1 hx hd
  have hx := hU.x _ (List.mem_cons_of_mem _ (List.mem_cons_self ..))
  have c0 := hx.1.c0
  have c1 := hx.1.c1
  go_wp2_with fail
  ((with_reducible refine (check_any L _ _ _ hx.2 (by omega) 0 K1.out).mono ?_); rintro e w3 ⟨rfl, hd⟩)
  have hU := hU.on hd
  clear c0 c1 hx hd
  have hx := hU.x _ (List.mem_cons_self ..)
  have c0 := hx.1.c0
  have c1 := hx.1.c1
  go_wp2_with fail
  ((with_reducible refine (check_any R _ _ _ hx.2 (by omega) q HQ.out).mono ?_); rintro e w4 ⟨rfl, hd⟩)
  have hU := hU.on hd
  clear c0 c1 hx hd
  go_wp2_with ((with_reducible refine (awake_any _).mono ?_); rintro e wz ⟨rfl, hd⟩)
  have hU := hU.on hd
  go_ret
  exact ⟨rfl, hU.b⟩

set_option maxRecDepth 100000 in
set_option maxHeartbeats 8000000 in
theorem triv_main (B L R : Sm) (a0 r0 a1 r1 a2 r2 : Value) (w : World) (h0 : IsSum w a0 r0 B) (h1 : IsSum w a1 r1 L) (h2 : IsSum w a2 r2 R) (hb : [B, L, R].any big = false) (hk0 : chk B = 0) (hk1 : chk L = 0) (hk2 : chk R = 0) :
    Calls Try.prog 7 #[sv a0 r0, sv a1 r1, sv a2 r2] w fun e w' => e = .returned (.bool true) ∧ Below w.heap.size w w' := by
  have HB := Lib.hid hb
  have nb := any3_false hb
  have l0 := (not_big nb.1).2.1
  have l1 := (not_big nb.2.1).2.1
  have l2 := (not_big nb.2.2).2.1
  have l3 := (not_big nb.1).1
  have l4 := (not_big nb.2.1).1
  have l5 := (not_big nb.2.2).1
  have K0 := Lib.hid hk0
  have K1 := Lib.hid hk1
  have K2 := Lib.hid hk2
  have OB := Lib.hid ((chk_ok B).1 hk0)
  have OL := Lib.hid ((chk_ok L).1 hk1)
  have OR := Lib.hid ((chk_ok R).1 hk2)
  clear hb nb hk0 hk1 hk2
  have b0 := (Below.refl w.heap.size w).alloc (Nat.le_refl _) (.cells #[a0, r0] 24)
  have U1 := Un.new (bx := []) (w := w) ⟨Below.refl _ _, by simp⟩ h0
  have U2 := U1.new (h1.below b0 (Nat.le_refl _))
  have b1 := b0.alloc (by simp) (.cells #[a1, r1] 24)
  have U3 := U2.new (h2.below b1 (Nat.le_refl _))
  simp only [World.size_alloc] at U3
  obtain ⟨wb, hwb⟩ : ∃ wb, ((w.alloc (.cells #[a0, r0] 24)).alloc (.cells #[a1, r1] 24)).alloc (.cells #[a2, r2] 24) = wb := ⟨_, rfl⟩
  rw [hwb] at U3
  have HW := Lib.hid hwb
  clear U1 U2 b0 b1 hwb
  have RW := row3_new wb a0 r0 a1 r1 a2 r2 B L R
  have UA := U3.alloc (.cells #[a0, r0, a1, r1, a2, r2] 24)
  have HS : Hid (∀ j (h : j < [B, L, R].length), IsSum (wb.alloc (.cells #[a0, r0, a1, r1, a2, r2] 24)) (at3 (a0, r0) (a1, r1) (a2, r2) j).1 (at3 (a0, r0) (a1, r1) (a2, r2) j).2 [B, L, R][j]) := Lib.hid fun j hj => by
    have hj : j < 3 := hj
    have : j = 0 ∨ j = 1 ∨ j = 2 := by omega
    rcases this with rfl | rfl | rfl
    · exact (UA.x _ (List.mem_cons_of_mem _ (List.mem_cons_of_mem _ (List.mem_cons_self ..)))).2
    · exact (UA.x _ (List.mem_cons_of_mem _ (List.mem_cons_self ..))).2
    · exact (UA.x _ (List.mem_cons_self ..)).2
  have HR3 := Lib.hid RW
  have HUA := Lib.hid UA
  have y0 := (U3.x _ (List.mem_cons_of_mem _ (List.mem_cons_of_mem _ (List.mem_cons_self ..)))).1
  have y1 := (U3.x _ (List.mem_cons_of_mem _ (List.mem_cons_self ..))).1
  have y2 := (U3.x _ (List.mem_cons_self ..)).1
  have c0 := y0.c0
  have c1 := y0.c1
  have c2 := y1.c0
  have c3 := y1.c1
  have c4 := y2.c0
  have c5 := y2.c1
  clear RW UA y0 y1 y2 U3
  have GR : Hid (∀ c, [B, L, R].any big = c → Calls Try.prog 10 #[.slice (some ⟨wb.heap.size, 0, none⟩) 3 3] (wb.alloc (.cells #[a0, r0, a1, r1, a2, r2] 24)) fun e w' => e = .returned (.bool c) ∧ Below (wb.alloc (.cells #[a0, r0, a1, r1, a2, r2] 24)).heap.size (wb.alloc (.cells #[a0, r0, a1, r1, a2, r2] 24)) w') := Lib.hid fun c hc =>
    great_any [B, L, R] (at3 (a0, r0) (a1, r1) (a2, r2)) 3 rfl (by omega) wb.heap.size 3 _ HR3.out.lt (fun j hj => ⟨HR3.out.c0 j hj, HR3.out.c1 j hj⟩) HS.out c hc
  go_enter Try.func7, Try.ntmps7
  go_upto_region 1 with fail
  rw [HW.out]
  go_wp2_with fail
  ((with_reducible refine (GR.out false HB.out).mono ?_); rintro e w1 ⟨rfl, hd⟩)
  have hU := HUA.out.on hd
  clear c0 c1 c2 c3 c4 c5 hd HUA GR HS HR3
  have hx := hU.x _ (List.mem_cons_of_mem _ (List.mem_cons_of_mem _ (List.mem_cons_self ..)))
  have c0 := hx.1.c0
  have c1 := hx.1.c1
  go_wp2_with fail
  ((with_reducible refine (check_any B _ _ _ hx.2 (by omega) 0 K0.out).mono ?_); rintro e w2 ⟨rfl, hd⟩)
  have hU := hU.on hd
  clear c0 c1 hx hd
  have hx := hU.x _ (List.mem_cons_of_mem _ (List.mem_cons_self ..))
  have c0 := hx.1.c0
  have c1 := hx.1.c1
  go_wp2_with fail
  ((with_reducible refine (check_any L _ _ _ hx.2 (by omega) 0 K1.out).mono ?_); rintro e w3 ⟨rfl, hd⟩)
  have hU := hU.on hd
  clear c0 c1 hx hd
  have hx := hU.x _ (List.mem_cons_self ..)
  have c0 := hx.1.c0
  have c1 := hx.1.c1
  go_wp2_with fail
  ((with_reducible refine (check_any R _ _ _ hx.2 (by omega) 0 K2.out).mono ?_); rintro e w4 ⟨rfl, hd⟩)
  have hU := hU.on hd
  clear c0 c1 hx hd
  go_upto_region 3 with fail
  have x0 := hU.x _ (List.mem_cons_of_mem _ (List.mem_cons_of_mem _ (List.mem_cons_self ..)))
  have x1 := hU.x _ (List.mem_cons_of_mem _ (List.mem_cons_of_mem _ (List.mem_cons_self ..)))
  have x2 := hU.x _ (List.mem_cons_self ..)
  have c0 := x0.1.c0
  have c1 := x0.1.c1
  have c2 := x2.1.c0
  have c3 := x2.1.c1
  go_wp2_with fail
  ((with_reducible refine (merge_ok B B R _ _ _ _ _ _ _ x0.2 x1.2 x2.2 (by omega) OB.out OB.out OR.out).mono ?_); rintro e wa ⟨va, vr, M1, rfl, hM, hMg, hd⟩)
  have E1 := Lib.hid (eqS_iff.2 (triv_left hMg OR.out))
  obtain ⟨uM11, uM12, uM13, uM14, rfl, rfl, -, -⟩ := hM.parts
  have hU := (hU.on hd).new hM
  clear c0 c1 c2 c3 x0 x1 x2 hM hMg hd
  go_upto_region 4 with fail
  have x0 := hU.x _ (List.mem_cons_of_mem _ (List.mem_cons_of_mem _ (List.mem_cons_of_mem _ (List.mem_cons_self ..))))
  have x1 := hU.x _ (List.mem_cons_of_mem _ (List.mem_cons_of_mem _ (List.mem_cons_self ..)))
  have x2 := hU.x _ (List.mem_cons_of_mem _ (List.mem_cons_of_mem _ (List.mem_cons_of_mem _ (List.mem_cons_self ..))))
  have c0 := x0.1.c0
  have c1 := x0.1.c1
  have c2 := x1.1.c0
  have c3 := x1.1.c1
  go_wp2_with fail
  ((with_reducible refine (merge_ok B L B _ _ _ _ _ _ _ x0.2 x1.2 x2.2 (by omega) OB.out OL.out OB.out).mono ?_); rintro e wc ⟨va, vr, M2, rfl, hM, hMg, hd⟩)
  have E2 := Lib.hid (eqS_iff.2 (triv_right hMg OL.out))
  obtain ⟨uM21, uM22, uM23, uM24, rfl, rfl, -, -⟩ := hM.parts
  have hU := (hU.on hd).new hM
  clear c0 c1 c2 c3 x0 x1 x2 hM hMg hd
  go_upto_region 5 with fail
  have x0 := hU.x _ (List.mem_cons_of_mem _ (List.mem_cons_of_mem _ (List.mem_cons_of_mem _ (List.mem_cons_of_mem _ (List.mem_cons_self ..)))))
  have x1 := hU.x _ (List.mem_cons_of_mem _ (List.mem_cons_of_mem _ (List.mem_cons_of_mem _ (List.mem_cons_self ..))))
  have x2 := hU.x _ (List.mem_cons_of_mem _ (List.mem_cons_of_mem _ (List.mem_cons_of_mem _ (List.mem_cons_self ..))))
  have c0 := x0.1.c0
  have c1 := x0.1.c1
  have c2 := x1.1.c0
  have c3 := x1.1.c1
  go_wp2_with fail
  ((with_reducible refine (merge_ok B L L _ _ _ _ _ _ _ x0.2 x1.2 x2.2 (by omega) OB.out OL.out OL.out).mono ?_); rintro e wd ⟨va, vr, M3, rfl, hM, hMg, hd⟩)
  have E3 := Lib.hid (eqS_iff.2 (hMg.1 rfl))
  obtain ⟨uM31, uM32, uM33, uM34, rfl, rfl, -, -⟩ := hM.parts
  have hU := (hU.on hd).new hM
  clear c0 c1 c2 c3 x0 x1 x2 hM hMg hd
  go_upto_region 6 with fail
  have x0 := hU.x _ (List.mem_cons_of_mem _ (List.mem_cons_of_mem _ (List.mem_cons_of_mem _ (List.mem_cons_of_mem _ (List.mem_cons_of_mem _ (List.mem_cons_self ..))))))
  have x1 := hU.x _ (List.mem_cons_of_mem _ (List.mem_cons_of_mem _ (List.mem_cons_of_mem _ (List.mem_cons_of_mem _ (List.mem_cons_self ..)))))
  have x2 := hU.x _ (List.mem_cons_of_mem _ (List.mem_cons_of_mem _ (List.mem_cons_of_mem _ (List.mem_cons_self ..))))
  have c0 := x0.1.c0
  have c1 := x0.1.c1
  have c2 := x1.1.c0
  have c3 := x1.1.c1
  have c4 := x2.1.c0
  have c5 := x2.1.c1
  go_wp2_with fail
  ((with_reducible refine (merge_ok B L R _ _ _ _ _ _ _ x0.2 x1.2 x2.2 (by omega) OB.out OL.out OR.out).mono ?_); rintro e we ⟨va, vr, M4, rfl, hM, hMg, hd⟩)
  have O4 := Lib.hid (merged_ok hMg OB.out OL.out OR.out (by omega))
  have G4 := Lib.hid hMg
  obtain ⟨uM41, uM42, uM43, uM44, rfl, rfl, -, -⟩ := hM.parts
  have hU := (hU.on hd).new hM
  clear c0 c1 c2 c3 c4 c5 x0 x1 x2 hM hMg hd
  go_upto_region 7 with fail
  have x0 := hU.x _ (List.mem_cons_of_mem _ (List.mem_cons_of_mem _ (List.mem_cons_of_mem _ (List.mem_cons_of_mem _ (List.mem_cons_of_mem _ (List.mem_cons_of_mem _ (List.mem_cons_self ..)))))))
  have x1 := hU.x _ (List.mem_cons_of_mem _ (List.mem_cons_of_mem _ (List.mem_cons_of_mem _ (List.mem_cons_of_mem _ (List.mem_cons_self ..)))))
  have x2 := hU.x _ (List.mem_cons_of_mem _ (List.mem_cons_of_mem _ (List.mem_cons_of_mem _ (List.mem_cons_of_mem _ (List.mem_cons_of_mem _ (List.mem_cons_self ..))))))
  have c0 := x0.1.c0
  have c1 := x0.1.c1
  have c2 := x1.1.c0
  have c3 := x1.1.c1
  have c4 := x2.1.c0
  have c5 := x2.1.c1
  go_wp2_with fail
  ((with_reducible refine (merge_ok B R L _ _ _ _ _ _ _ x0.2 x1.2 x2.2 (by omega) OB.out OR.out OL.out).mono ?_); rintro e wf ⟨va, vr, M5, rfl, hM, hMg, hd⟩)
  have E5 := Lib.hid (eqS_iff.2 (triv_comm G4.out hMg))
  obtain ⟨uM51, uM52, uM53, uM54, rfl, rfl, -, -⟩ := hM.parts
  have hU := (hU.on hd).new hM
  clear c0 c1 c2 c3 c4 c5 x0 x1 x2 hM hMg hd
  have K4 := Lib.hid ((chk_ok M4).2 O4.out)
  have L4 : M4.R.length ≤ 1000000 := by have := O4.out.l; have := O4.out.m; omega
  go_upto_region 8 with fail
  have x0 := hU.x _ (List.mem_cons_of_mem _ (List.mem_cons_of_mem _ (List.mem_cons_of_mem _ (List.mem_cons_of_mem _ (List.mem_cons_self ..)))))
  have x1 := hU.x _ (List.mem_cons_of_mem _ (List.mem_cons_of_mem _ (List.mem_cons_of_mem _ (List.mem_cons_of_mem _ (List.mem_cons_of_mem _ (List.mem_cons_self ..))))))
  have c0 := x0.1.c0
  have c1 := x0.1.c1
  have c2 := x1.1.c0
  have c3 := x1.1.c1
  go_wp2_with fail
  ((with_reducible refine (same_any M1 R _ _ _ _ _ x0.2 x1.2 true E1.out).mono ?_); rintro e wg ⟨rfl, hd⟩)
  have hU := hU.on hd
  clear c0 c1 c2 c3 x0 x1 hd
  have x0 := hU.x _ (List.mem_cons_of_mem _ (List.mem_cons_of_mem _ (List.mem_cons_of_mem _ (List.mem_cons_self ..))))
  have x1 := hU.x _ (List.mem_cons_of_mem _ (List.mem_cons_of_mem _ (List.mem_cons_of_mem _ (List.mem_cons_of_mem _ (List.mem_cons_of_mem _ (List.mem_cons_of_mem _ (List.mem_cons_self ..)))))))
  have c0 := x0.1.c0
  have c1 := x0.1.c1
  have c2 := x1.1.c0
  have c3 := x1.1.c1
  go_wp2_with fail
  ((with_reducible refine (same_any M2 L _ _ _ _ _ x0.2 x1.2 true E2.out).mono ?_); rintro e wh ⟨rfl, hd⟩)
  have hU := hU.on hd
  clear c0 c1 c2 c3 x0 x1 hd
  have x0 := hU.x _ (List.mem_cons_of_mem _ (List.mem_cons_of_mem _ (List.mem_cons_self ..)))
  have x1 := hU.x _ (List.mem_cons_of_mem _ (List.mem_cons_of_mem _ (List.mem_cons_of_mem _ (List.mem_cons_of_mem _ (List.mem_cons_of_mem _ (List.mem_cons_of_mem _ (List.mem_cons_self ..)))))))
  have c0 := x0.1.c0
  have c1 := x0.1.c1
  have c2 := x1.1.c0
  have c3 := x1.1.c1
  go_wp2_with fail
  ((with_reducible refine (same_any M3 L _ _ _ _ _ x0.2 x1.2 true E3.out).mono ?_); rintro e wi ⟨rfl, hd⟩)
  have hU := hU.on hd
  clear c0 c1 c2 c3 x0 x1 hd
  have x0 := hU.x _ (List.mem_cons_of_mem _ (List.mem_cons_self ..))
  have x1 := hU.x _ (List.mem_cons_self ..)
  have c0 := x0.1.c0
  have c1 := x0.1.c1
  have c2 := x1.1.c0
  have c3 := x1.1.c1
  go_wp2_with fail
  ((with_reducible refine (same_any M4 M5 _ _ _ _ _ x0.2 x1.2 true E5.out).mono ?_); rintro e wj ⟨rfl, hd⟩)
  have hU := hU.on hd
  clear c0 c1 c2 c3 x0 x1 hd
  have x0 := hU.x _ (List.mem_cons_of_mem _ (List.mem_cons_self ..))
  have c0 := x0.1.c0
  have c1 := x0.1.c1
  go_wp2_with fail
  ((with_reducible refine (check_any M4 _ _ _ x0.2 L4 0 K4.out).mono ?_); rintro e wk ⟨rfl, hd⟩)
  have hU := hU.on hd
  clear c0 c1 x0 hd
  go_wp2_with ((with_reducible refine (awake_any _).mono ?_); rintro e wz ⟨rfl, hd⟩)
  have hU := hU.on hd
  go_ret
  exact ⟨rfl, hU.b⟩

theorem triv_any (B L R : Sm) (a0 r0 a1 r1 a2 r2 : Value) (w : World) (h0 : IsSum w a0 r0 B) (h1 : IsSum w a1 r1 L) (h2 : IsSum w a2 r2 R):
    Calls Try.prog 7 #[sv a0 r0, sv a1 r1, sv a2 r2] w fun e w' => e = .returned (.bool true) ∧ Below w.heap.size w w' := by
  cases hb : [B, L, R].any big with
  | true => exact triv_big B L R a0 r0 a1 r1 a2 r2 w h0 h1 h2 hb
  | false =>
    by_cases k0 : chk B = 0
    · by_cases k1 : chk L = 0
      · by_cases k2 : chk R = 0
        · exact triv_main B L R a0 r0 a1 r1 a2 r2 w h0 h1 h2 hb k0 k1 k2
        · exact triv_bad2 B L R a0 r0 a1 r1 a2 r2 w h0 h1 h2 hb k0 k1 _ rfl k2
      · exact triv_bad1 B L R a0 r0 a1 r1 a2 r2 w h0 h1 h2 hb k0 _ rfl k1
    · exact triv_bad0 B L R a0 r0 a1 r1 a2 r2 w h0 h1 h2 hb _ rfl k0
end Go.Proofs.Ytgnkfikihjjpeaa
