/- Encoding and decoding a sum: the law's walk, at this translation. -/
import Derived.Test.YtgnkfikihjjpeaaLawD
namespace Go.Proofs.Ytgnkfikihjjpeaa
open Go.RowKit Go.Great Go.Maps
open Cd (encTs getTs strN nats encT)

/-- The laws' great, of one sum. -/
theorem great_one (S : Sm) (a0 r0 : Value) (w : World) (h : IsSum w a0 r0 S) (c : Bool) (hc : big S = c) :
    Calls Try.prog 10 #[.slice (some ⟨w.heap.size, 0, none⟩) 1 1] (w.alloc (.cells #[a0, r0] 24)) fun e w' => e = .returned (.bool c) ∧ Below (w.alloc (.cells #[a0, r0] 24)).heap.size (w.alloc (.cells #[a0, r0] 24)) w' := by
  have x := SBox.new w a0 r0
  refine great_any [S] (fun _ => (a0, r0)) 1 rfl (by omega) w.heap.size 1 _ x.lt (fun j hj => ?_) (fun j hj => ?_) c (by simpa using hc)
  · obtain rfl : j = 0 := by omega
    exact ⟨x.c0, x.c1⟩
  · obtain rfl : j = 0 := by simpa using hj
    exact h.below ((Below.refl _ _).alloc (Nat.le_refl _) _) (Nat.le_refl _)

set_option maxRecDepth 100000 in
set_option maxHeartbeats 4000000 in
theorem rt_big (S : Sm) (a0 r0 : Value) (w : World) (h0 : IsSum w a0 r0 S) (hb : big S = true) :
    Calls Try.prog 6 #[sv a0 r0] w fun e w' => e = .returned (.bool true) ∧ Below w.heap.size w w' := by
  have HB := Lib.hid hb
  clear hb
  have U1 := Un.new (bx := []) (w := w) ⟨Below.refl _ _, by simp⟩ h0
  obtain ⟨pa0, ca0, pr0, cr0, rfl, rfl, -, -⟩ := h0.parts
  obtain ⟨wb, hwb⟩ : ∃ wb, w.alloc (.cells #[.slice pa0 S.A.length ca0, .slice pr0 S.R.length cr0] 24) = wb := ⟨_, rfl⟩
  rw [hwb] at U1
  have HW := Lib.hid hwb
  have hx := U1.x _ (List.mem_cons_self ..)
  have GR := Lib.hid (fun c hc => great_one S _ _ _ hx.2 c hc)
  have HUA := Lib.hid (U1.alloc (.cells #[.slice pa0 S.A.length ca0, .slice pr0 S.R.length cr0] 24))
  have c0 := hx.1.c0
  have c1 := hx.1.c1
  clear U1 hwb hx h0
  go_enter Try.func6, Try.ntmps6
  go_upto_region 1 with fail
  rw [HW.out]
  go_wp2_with fail
  ((with_reducible refine (GR.out true HB.out).mono ?_); rintro e w1 ⟨rfl, hd⟩)
  have hU := HUA.out.on hd
  clear c0 c1 hd HUA GR
  go_wp2_with ((with_reducible refine (awake_any _).mono ?_); rintro e wz ⟨rfl, hd⟩)
  have hU := hU.on hd
  go_ret
  exact ⟨rfl, hU.b⟩

set_option maxRecDepth 100000 in
set_option maxHeartbeats 4000000 in
theorem rt_bad (S : Sm) (a0 r0 : Value) (w : World) (h0 : IsSum w a0 r0 S) (hb : big S = false) (q : Int) (hq : chk S = q) (hq0 : q ≠ 0) :
    Calls Try.prog 6 #[sv a0 r0] w fun e w' => e = .returned (.bool true) ∧ Below w.heap.size w w' := by
  have HB := Lib.hid hb
  have l0 := (not_big hb).2.1
  have HQ := Lib.hid hq
  have HQ0 := Lib.hid hq0
  have q1 : (q == 0) = false := by simpa using hq0
  have q2 : (q != 0) = true := by simpa using hq0
  clear hb hq hq0
  have U1 := Un.new (bx := []) (w := w) ⟨Below.refl _ _, by simp⟩ h0
  obtain ⟨pa0, ca0, pr0, cr0, rfl, rfl, -, -⟩ := h0.parts
  obtain ⟨wb, hwb⟩ : ∃ wb, w.alloc (.cells #[.slice pa0 S.A.length ca0, .slice pr0 S.R.length cr0] 24) = wb := ⟨_, rfl⟩
  rw [hwb] at U1
  have HW := Lib.hid hwb
  have hx := U1.x _ (List.mem_cons_self ..)
  have GR := Lib.hid (fun c hc => great_one S _ _ _ hx.2 c hc)
  have HUA := Lib.hid (U1.alloc (.cells #[.slice pa0 S.A.length ca0, .slice pr0 S.R.length cr0] 24))
  have c0 := hx.1.c0
  have c1 := hx.1.c1
  clear U1 hwb hx h0
  go_enter Try.func6, Try.ntmps6
  go_upto_region 1 with fail
  rw [HW.out]
  go_wp2_with fail
  ((with_reducible refine (GR.out false HB.out).mono ?_); rintro e w1 ⟨rfl, hd⟩)
  have hU := HUA.out.on hd
  clear c0 c1 hd HUA GR
  go_upto_region 3 with fail
  have x0 := hU.x _ (List.mem_cons_self ..)
  have c0 := x0.1.c0
  have c1 := x0.1.c1
  go_wp2_with fail
  ((with_reducible refine (enc_err S _ _ _ x0.2 (by omega) q HQ.out HQ0.out).mono ?_); rintro e w2 ⟨rfl, hd⟩)
  have hU := hU.on hd
  clear c0 c1 x0 hd
  go_upto_region 5 with fail
  have x0 := hU.x _ (List.mem_cons_self ..)
  have c0 := x0.1.c0
  have c1 := x0.1.c1
  go_wp2_with fail
  ((with_reducible refine (check_any S _ _ _ x0.2 (by omega) q HQ.out).mono ?_); rintro e w3 ⟨rfl, hd⟩)
  have hU := hU.on hd
  clear c0 c1 x0 hd
  go_wp2_with ((with_reducible refine (awake_any _).mono ?_); rintro e wz ⟨rfl, hd⟩)
  have hU := hU.on hd
  go_ret
  exact ⟨rfl, hU.b⟩

set_option maxRecDepth 100000 in
set_option maxHeartbeats 4000000 in
theorem rt_ok (S : Sm) (a0 r0 : Value) (w : World) (h0 : IsSum w a0 r0 S) (hb : big S = false) (hS : Ok S) :
    Calls Try.prog 6 #[sv a0 r0] w fun e w' => e = .returned (.bool true) ∧ Below w.heap.size w w' := by
  have HB := Lib.hid hb
  have l0 := (not_big hb).2.1
  have l1 := (not_big hb).1
  have HO := Lib.hid hS
  have HQ := Lib.hid ((chk_ok S).2 hS)
  have HE : Hid ((encS S).size ≤ maxLen) := Lib.hid (by
    have h1 := encTs_size S.A (by omega) hS.a
    have h2 := encTs_size S.R (by omega) hS.r
    have : (encS S).size = (strN (encTs S.A)).size + (strN (encTs S.R)).size := ByteArray.size_append
    unfold maxLen; omega)
  have CD : Hid (∀ W, Calls Try.prog 25 #[.string (encS S)] W fun e w' => ∃ va vr, e = .returned (.tuple #[sv va vr, .int .i64 0]) ∧ IsSum w' va vr S ∧ Below W.heap.size W w') := Lib.hid fun W => dec_any (encS S) HE.out (some S) (dec_enc HO.out) W
  clear hb hS
  have U1 := Un.new (bx := []) (w := w) ⟨Below.refl _ _, by simp⟩ h0
  obtain ⟨pa0, ca0, pr0, cr0, rfl, rfl, -, -⟩ := h0.parts
  obtain ⟨wb, hwb⟩ : ∃ wb, w.alloc (.cells #[.slice pa0 S.A.length ca0, .slice pr0 S.R.length cr0] 24) = wb := ⟨_, rfl⟩
  rw [hwb] at U1
  have HW := Lib.hid hwb
  have hx := U1.x _ (List.mem_cons_self ..)
  have GR := Lib.hid (fun c hc => great_one S _ _ _ hx.2 c hc)
  have HUA := Lib.hid (U1.alloc (.cells #[.slice pa0 S.A.length ca0, .slice pr0 S.R.length cr0] 24))
  have c0 := hx.1.c0
  have c1 := hx.1.c1
  clear U1 hwb hx h0
  go_enter Try.func6, Try.ntmps6
  go_upto_region 1 with fail
  rw [HW.out]
  go_wp2_with fail
  ((with_reducible refine (GR.out false HB.out).mono ?_); rintro e w1 ⟨rfl, hd⟩)
  have hU := HUA.out.on hd
  clear c0 c1 hd HUA GR
  go_upto_region 3 with fail
  have x0 := hU.x _ (List.mem_cons_self ..)
  have c0 := x0.1.c0
  have c1 := x0.1.c1
  go_wp2_with fail
  ((with_reducible refine (enc_ok S _ _ _ x0.2 HO.out).mono ?_); rintro e w2 ⟨rfl, hd⟩)
  have hU := hU.on hd
  clear c0 c1 x0 hd
  go_upto_region 6 with fail
  go_wp2_with fail
  ((with_reducible refine (CD.out _).mono ?_); rintro e w3 ⟨va, vr, rfl, hs, hd⟩)
  obtain ⟨u5, u6, u7, u8, rfl, rfl, -, -⟩ := hs.parts
  have hU := (hU.on hd).new hs
  clear hs hd
  go_upto_region 7 with fail
  have x0 := hU.x _ (List.mem_cons_of_mem _ (List.mem_cons_self ..))
  have c0 := x0.1.c0
  have c1 := x0.1.c1
  go_wp2_with fail
  ((with_reducible refine (check_any S _ _ _ x0.2 (by omega) 0 HQ.out).mono ?_); rintro e w4 ⟨rfl, hd⟩)
  have hU := hU.on hd
  clear c0 c1 x0 hd
  have x0 := hU.x _ (List.mem_cons_self ..)
  have c0 := x0.1.c0
  have c1 := x0.1.c1
  have x1 := hU.x _ (List.mem_cons_of_mem _ (List.mem_cons_self ..))
  have c2 := x1.1.c0
  have c3 := x1.1.c1
  go_wp2_with fail
  ((with_reducible refine (same_any S S _ _ _ _ _ x0.2 x1.2 true (eqS_iff.2 rfl)).mono ?_); rintro e w5 ⟨rfl, hd⟩)
  have hU := hU.on hd
  clear c0 c1 c2 c3 x0 x1 hd
  go_wp2_with ((with_reducible refine (awake_any _).mono ?_); rintro e wz ⟨rfl, hd⟩)
  have hU := hU.on hd
  go_ret
  exact ⟨rfl, hU.b⟩

theorem rt_any (S : Sm) (a0 r0 : Value) (w : World) (h0 : IsSum w a0 r0 S) :
    Calls Try.prog 6 #[sv a0 r0] w fun e w' => e = .returned (.bool true) ∧ Below w.heap.size w w' := by
  cases hb : big S with
  | true => exact rt_big S a0 r0 w h0 hb
  | false =>
    by_cases k : chk S = 0
    · exact rt_ok S a0 r0 w h0 hb ((chk_ok S).1 k)
    · exact rt_bad S a0 r0 w h0 hb _ rfl k
end Go.Proofs.Ytgnkfikihjjpeaa
