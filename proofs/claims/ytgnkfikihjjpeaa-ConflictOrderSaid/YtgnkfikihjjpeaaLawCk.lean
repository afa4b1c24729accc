/- Value, Sides, Of, Check and Encode answer as the reference's: the law's walk, at this translation. -/
import Derived.Test.YtgnkfikihjjpeaaLawRt
import Derived.Test.YtgnkfikihjjpeaaSmall
import Derived.Deep.RegionHeld3
namespace Go.Proofs.Ytgnkfikihjjpeaa
open Go.RowKit Go.Great Go.Maps

theorem refValue_bad (S : Sm) (a0 r0 : Value) (w : World) (h : IsSum w a0 r0 S) (hl : S.R.length ≤ 1000000) (hb : ¬ Ok S ∨ 0 < S.R.length) :
    Calls Try.prog 13 #[sv a0 r0] w fun e w' => e = .returned (.tuple #[.string ⟨#[]⟩, .bool false]) ∧ Below w.heap.size w w' := by
  have hB := (Below.refl w.heap.size w).alloc (Nat.le_refl _) (.cells #[a0, r0] 24)
  have x := SBox.new w a0 r0
  have h1 := h.below hB (Nat.le_refl _)
  obtain ⟨pa, ca, pr, cr, rfl, rfl, na, nr⟩ := h.parts
  have c0 := x.c0
  have c1 := x.c1
  obtain ⟨r, hr⟩ : ∃ r, chk S = r := ⟨_, rfl⟩
  by_cases hr0 : r = 0
  · have h0 : 0 < S.R.length := hb.resolve_left fun h => h ((chk_ok S).1 (hr.trans hr0))
    subst hr0
    have HR := Lib.hid hr
    clear hr hb
    have HX := Lib.hid x
    clear x
    go_enter Try.func13, Try.ntmps13
    go_wp2_with fail
    ((with_reducible refine (refCheck_any S _ _ _ h1 hl 0 HR.out).mono ?_); rintro e w1 ⟨rfl, hb1⟩)
    have x1 := HX.out.below hb1 (by simp)
    have d0 := x1.c0
    have d1 := x1.c1
    clear c0 c1
    go_wp2
    go_ret2
    exact ⟨rfl, hB.trans (hb1.mono (by simp))⟩
  · have e1 : (r == 0) = false := by simpa using hr0
    have e2 : (r != 0) = true := by simpa using hr0
    have HR := Lib.hid hr
    clear hr hb hr0 x
    go_enter Try.func13, Try.ntmps13
    go_wp2_with fail
    ((with_reducible refine (refCheck_any S _ _ _ h1 hl r HR.out).mono ?_); rintro e w1 ⟨rfl, hb1⟩)
    go_wp2
    go_ret2
    exact ⟨rfl, hB.trans (hb1.mono (by simp))⟩
set_option maxHeartbeats 2000000 in
theorem refValue_ok (x : BA) (S : Sm) (hS : S = ⟨[x], []⟩) (hx : x.size ≤ 65536) (a0 r0 : Value) (w : World) (h : IsSum w a0 r0 S) :
    Calls Try.prog 13 #[sv a0 r0] w fun e w' => e = .returned (.tuple #[.string x, .bool true]) ∧ Below w.heap.size w w' := by
  have hok : chk S = 0 := by
    rw [chk_ok, hS]
    exact ⟨rfl, by simp, ⟨by simp [asc], by simp [asc], by simp⟩, by simpa using hx, by simp⟩
  have hl : S.R.length = 0 := by rw [hS]; rfl
  have hA : S.A = [x] := by rw [hS]
  have hB := (Below.refl w.heap.size w).alloc (Nat.le_refl _) (.cells #[a0, r0] 24)
  have X := SBox.new w a0 r0
  have h1 := h.below hB (Nat.le_refl _)
  obtain ⟨pa, ca, pr, cr, rfl, rfl, na, nr⟩ := h.parts
  have c0 := X.c0
  have c1 := X.c1
  have HR := Lib.hid hok
  have HX := Lib.hid X
  have HL := Lib.hid hl
  have HA := Lib.hid hA
  clear hok X hl hS hA
  go_enter Try.func13, Try.ntmps13
  go_wp2_with fail
  ((with_reducible refine (refCheck_any S _ _ _ h1 (by rw [HL.out]; omega) 0 HR.out).mono ?_); rintro e w1 ⟨rfl, hb1⟩)
  have x1 := HX.out.below hb1 (by simp)
  have h2 := h1.below hb1 (Nat.le_refl _)
  have d0 := x1.c0
  have d1 := x1.c1
  have l0 : ¬ (0 : Int) < S.R.length := by rw [HL.out]; omega
  have l1 : 0 < S.A.length := by rw [HA.out]; simp
  obtain ⟨a, cap, ea, _, _, hh⟩ := h2.a
  obtain ⟨b1, o1, eb, hb1', hcell⟩ := hh.resolve_left (by intro e; rw [e] at l1; simp at l1)
  simp only [Value.slice.injEq] at ea
  obtain ⟨rfl, -, rfl⟩ := ea
  subst eb
  have p0 := hcell 0 l1
  have ex : S.A[0] = x := by have := HA.out; simp [this]
  rw [ex, Nat.add_zero] at p0
  clear c0 c1 ex hcell hh
  go_wp2
  go_ret2
  exact ⟨rfl, hB.trans (hb1.mono (by simp))⟩
set_option maxHeartbeats 2000000 in
theorem refSides_any (S : Sm) (a0 r0 : Value) (w : World) (h : IsSum w a0 r0 S) (hl : S.R.length ≤ 1000000) :
    Calls Try.prog 22 #[sv a0 r0] w fun e w' => e = .returned (.int .i64 (if chk S = 0 then (S.A.length : Int) else 0)) ∧ Below w.heap.size w w' := by
  have hB := (Below.refl w.heap.size w).alloc (Nat.le_refl _) (.cells #[a0, r0] 24)
  have x := SBox.new w a0 r0
  have h1 := h.below hB (Nat.le_refl _)
  obtain ⟨pa, ca, pr, cr, rfl, rfl, na, nr⟩ := h.parts
  have c0 := x.c0
  have c1 := x.c1
  obtain ⟨r, hr⟩ : ∃ r, chk S = r := ⟨_, rfl⟩
  rw [hr]
  by_cases hr0 : r = 0
  · subst hr0
    rw [if_pos rfl]
    have HR := Lib.hid hr
    clear hr
    have HX := Lib.hid x
    clear x
    go_enter Try.func22, Try.ntmps22
    go_wp2_with fail
    ((with_reducible refine (refCheck_any S _ _ _ h1 hl 0 HR.out).mono ?_); rintro e w1 ⟨rfl, hb1⟩)
    have x1 := HX.out.below hb1 (by simp)
    have d0 := x1.c0
    have d1 := x1.c1
    clear c0 c1
    go_wp2
    go_ret
    exact ⟨rfl, hB.trans (hb1.mono (by simp))⟩
  · rw [if_neg hr0]
    have e1 : (r == 0) = false := by simpa using hr0
    have e2 : (r != 0) = true := by simpa using hr0
    have HR := Lib.hid hr
    clear hr hr0 x
    go_enter Try.func22, Try.ntmps22
    go_wp2_with fail
    ((with_reducible refine (refCheck_any S _ _ _ h1 hl r HR.out).mono ?_); rintro e w1 ⟨rfl, hb1⟩)
    go_wp2
    go_ret
    exact ⟨rfl, hB.trans (hb1.mono (by simp))⟩

/-- What the functions of a sum answer. -/
structure Ans (S : Sm) (vx : BA) (vb : Bool) (ex : BA) (ee : Int) (n : Int) (q : Int) : Prop where
  v : (∀ (W : World) (a r : Value), IsSum W a r S → Calls Try.prog 12 #[sv a r] W fun e w' => e = .returned (.tuple #[.string vx, .bool vb]) ∧ Below W.heap.size W w')
  rv : (∀ (W : World) (a r : Value), IsSum W a r S → Calls Try.prog 13 #[sv a r] W fun e w' => e = .returned (.tuple #[.string vx, .bool vb]) ∧ Below W.heap.size W w')
  e : (∀ (W : World) (a r : Value), IsSum W a r S → Calls Try.prog 14 #[sv a r] W fun e w' => e = .returned (.tuple #[.string ex, .int .i64 ee]) ∧ Below W.heap.size W w')
  re : (∀ (W : World) (a r : Value), IsSum W a r S → Calls Try.prog 15 #[sv a r] W fun e w' => e = .returned (.tuple #[.string ex, .int .i64 ee]) ∧ Below W.heap.size W w')
  s : (∀ (W : World) (a r : Value), IsSum W a r S → Calls Try.prog 21 #[sv a r] W fun e w' => e = .returned (.int .i64 n) ∧ Below W.heap.size W w')
  rs : (∀ (W : World) (a r : Value), IsSum W a r S → Calls Try.prog 22 #[sv a r] W fun e w' => e = .returned (.int .i64 n) ∧ Below W.heap.size W w')
  c : (∀ (W : World) (a r : Value), IsSum W a r S → Calls Try.prog 16 #[sv a r] W fun e w' => e = .returned (.int .i64 q) ∧ Below W.heap.size W w')
  rc : (∀ (W : World) (a r : Value), IsSum W a r S → Calls Try.prog 17 #[sv a r] W fun e w' => e = .returned (.int .i64 q) ∧ Below W.heap.size W w')
theorem ans_any (S : Sm) (hl : S.R.length ≤ 1000000) : ∃ vx vb ex ee n q, Ans S vx vb ex ee n q := by
  by_cases k : chk S = 0
  · have hO := (chk_ok S).1 k
    by_cases k2 : 0 < S.R.length
    · exact ⟨_, _, _, _, _, _, fun W a r h => value_bad S a r W h hl (.inr k2), fun W a r h => refValue_bad S a r W h hl (.inr k2), fun W a r h => enc_ok S a r W h hO, fun W a r h => refEnc_ok S a r W h hO, fun W a r h => sides_any S a r W h hl, fun W a r h => refSides_any S a r W h hl, fun W a r h => check_any S a r W h hl _ rfl, fun W a r h => refCheck_any S a r W h hl _ rfl⟩
    · have h1 : S.R = [] := List.length_eq_zero_iff.1 (by omega)
      have h2 : S.A.length = 1 := by rw [hO.l, h1]; rfl
      obtain ⟨y, hy⟩ := List.length_eq_one_iff.1 h2
      have hS : S = ⟨[y], []⟩ := Sm.ext' hy h1
      have hsz : y.size ≤ 65536 := hO.a y (by rw [hy]; simp)
      exact ⟨_, _, _, _, _, _, fun W a r h => value_ok y S hS hsz a r W h, fun W a r h => refValue_ok y S hS hsz a r W h, fun W a r h => enc_ok S a r W h hO, fun W a r h => refEnc_ok S a r W h hO, fun W a r h => sides_any S a r W h hl, fun W a r h => refSides_any S a r W h hl, fun W a r h => check_any S a r W h hl _ rfl, fun W a r h => refCheck_any S a r W h hl _ rfl⟩
  · have hn : ¬ Ok S := fun h => k ((chk_ok S).2 h)
    exact ⟨_, _, _, _, _, _, fun W a r h => value_bad S a r W h hl (.inl hn), fun W a r h => refValue_bad S a r W h hl (.inl hn), fun W a r h => enc_err S a r W h hl _ rfl k, fun W a r h => refEnc_err S a r W h hl _ rfl k, fun W a r h => sides_any S a r W h hl, fun W a r h => refSides_any S a r W h hl, fun W a r h => check_any S a r W h hl _ rfl, fun W a r h => refCheck_any S a r W h hl _ rfl⟩

set_option maxRecDepth 100000 in
set_option maxHeartbeats 4000000 in
theorem ck_big (S : Sm) (v : BA) (_hv : v.size ≤ maxLen) (a0 r0 : Value) (w : World) (h0 : IsSum w a0 r0 S) (hb : big S = true) :
    Calls Try.prog 3 #[sv a0 r0, .string v] w fun e w' => e = .returned (.bool true) ∧ Below w.heap.size w w' := by
  have HB := Lib.hid hb
  clear hb
  have U1 := Un.new (bx := []) (w := w) ⟨Below.refl _ _, by simp⟩ h0
  obtain ⟨pa0, ca0, pr0, cr0, rfl, rfl, -, -⟩ := h0.parts
  obtain ⟨wb, hwb⟩ : ∃ wb, w.alloc (.cells #[.slice pa0 S.A.length ca0, .slice pr0 S.R.length cr0] 24) = wb := ⟨_, rfl⟩
  rw [hwb] at U1
  have HW := Lib.hid hwb
  have hx := U1.x _ (List.mem_cons_self ..)
  have GR := Lib.hid (fun c hc => great_one S _ _ _ hx.2 c hc)
  have HUA := Lib.hid (U1.alloc (.cells #[.slice pa0 S.A.length ca0, .slice pr0 S.R.length cr0] 24))
  have c0 := hx.1.c0
  have c1 := hx.1.c1
  clear U1 hwb hx h0
  go_enter Try.func3, Try.ntmps3
  go_upto_region 1 with fail
  rw [HW.out]
  go_wp2_with fail
  ((with_reducible refine (GR.out true HB.out).mono ?_); rintro e w1 ⟨rfl, hd⟩)
  have hU := HUA.out.on hd
  clear c0 c1 hd HUA GR
  go_wp2_with ((with_reducible refine (awake_any _).mono ?_); rintro e wz ⟨rfl, hd⟩)
  have hU := hU.on hd
  go_ret
  exact ⟨rfl, hU.b⟩

set_option maxRecDepth 100000 in
set_option maxHeartbeats 4000000 in
theorem ck_long (S : Sm) (v : BA) (hv : v.size ≤ maxLen) (a0 r0 : Value) (w : World) (h0 : IsSum w a0 r0 S) (hb : big S = false) (hl : 100 < v.size) :
    Calls Try.prog 3 #[sv a0 r0, .string v] w fun e w' => e = .returned (.bool true) ∧ Below w.heap.size w w' := by
  have HB := Lib.hid hb
  clear hb
  unfold maxLen at hv
  have U1 := Un.new (bx := []) (w := w) ⟨Below.refl _ _, by simp⟩ h0
  obtain ⟨pa0, ca0, pr0, cr0, rfl, rfl, -, -⟩ := h0.parts
  obtain ⟨wb, hwb⟩ : ∃ wb, w.alloc (.cells #[.slice pa0 S.A.length ca0, .slice pr0 S.R.length cr0] 24) = wb := ⟨_, rfl⟩
  rw [hwb] at U1
  have HW := Lib.hid hwb
  have hx := U1.x _ (List.mem_cons_self ..)
  have GR := Lib.hid (fun c hc => great_one S _ _ _ hx.2 c hc)
  have HUA := Lib.hid (U1.alloc (.cells #[.slice pa0 S.A.length ca0, .slice pr0 S.R.length cr0] 24))
  have c0 := hx.1.c0
  have c1 := hx.1.c1
  clear U1 hwb hx h0
  go_enter Try.func3, Try.ntmps3
  go_upto_region 1 with fail
  rw [HW.out]
  go_wp2_with fail
  ((with_reducible refine (GR.out false HB.out).mono ?_); rintro e w1 ⟨rfl, hd⟩)
  have hU := HUA.out.on hd
  clear c0 c1 hd HUA GR
  go_wp2_with ((with_reducible refine (awake_any _).mono ?_); rintro e wz ⟨rfl, hd⟩)
  have hU := hU.on hd
  go_ret
  exact ⟨rfl, hU.b⟩

set_option maxRecDepth 100000 in
set_option maxHeartbeats 4000000 in
theorem ck_main (S : Sm) (v : BA) (hv : v.size ≤ maxLen) (a0 r0 : Value) (w : World) (h0 : IsSum w a0 r0 S) (hb : big S = false) (hl : ¬ 100 < v.size) (vx : BA) (vb : Bool) (ex : BA) (ee n q : Int) (hA : Ans S vx vb ex ee n q) :
    Calls Try.prog 3 #[sv a0 r0, .string v] w fun e w' => e = .returned (.bool true) ∧ Below w.heap.size w w' := by
  have HB := Lib.hid hb
  have AN := Lib.hid hA
  have s1 := str_self vx
  have s2 := str_self ex
  have s3 : (vb == vb) = true := beq_self_eq_true _
  have s4 : (ee == ee) = true := beq_self_eq_true _
  have s5 : (n == n) = true := beq_self_eq_true _
  have s6 : (q == q) = true := beq_self_eq_true _
  clear hb hA
  unfold maxLen at hv
  have U1 := Un.new (bx := []) (w := w) ⟨Below.refl _ _, by simp⟩ h0
  obtain ⟨pa0, ca0, pr0, cr0, rfl, rfl, -, -⟩ := h0.parts
  obtain ⟨wb, hwb⟩ : ∃ wb, w.alloc (.cells #[.slice pa0 S.A.length ca0, .slice pr0 S.R.length cr0] 24) = wb := ⟨_, rfl⟩
  rw [hwb] at U1
  have HW := Lib.hid hwb
  have hx := U1.x _ (List.mem_cons_self ..)
  have GR := Lib.hid (fun c hc => great_one S _ _ _ hx.2 c hc)
  have HUA := Lib.hid (U1.alloc (.cells #[.slice pa0 S.A.length ca0, .slice pr0 S.R.length cr0] 24))
  have c0 := hx.1.c0
  have c1 := hx.1.c1
  clear U1 hwb hx h0
  go_enter Try.func3, Try.ntmps3
  go_upto_region 1 with fail
  rw [HW.out]
  go_wp2_with fail
  ((with_reducible refine (GR.out false HB.out).mono ?_); rintro e w1 ⟨rfl, hd⟩)
  have hU := HUA.out.on hd
  clear c0 c1 hd HUA GR
  go_upto_region 3 with fail
  have c0 := hU.h.c0
  have c1 := hU.h.c1
  go_wp2_with fail
  ((with_reducible refine (AN.out.v _ _ _ hU.s).mono ?_); rintro e w2 ⟨rfl, hd⟩)
  have hU := hU.on hd
  clear c0 c1 hd
  go_upto_region 4 with fail
  have c0 := hU.h.c0
  have c1 := hU.h.c1
  go_wp2_with fail
  ((with_reducible refine (AN.out.rv _ _ _ hU.s).mono ?_); rintro e w3 ⟨rfl, hd⟩)
  have hU := hU.on hd
  clear c0 c1 hd
  go_upto_region 5 with fail
  have c0 := hU.h.c0
  have c1 := hU.h.c1
  go_wp2_with fail
  ((with_reducible refine (AN.out.e _ _ _ hU.s).mono ?_); rintro e w4 ⟨rfl, hd⟩)
  have hU := hU.on hd
  clear c0 c1 hd
  go_upto_region 6 with fail
  have c0 := hU.h.c0
  have c1 := hU.h.c1
  go_wp2_with fail
  ((with_reducible refine (AN.out.re _ _ _ hU.s).mono ?_); rintro e w5 ⟨rfl, hd⟩)
  have hU := hU.on hd
  clear c0 c1 hd
  go_upto_region 7 with fail
  have start := hU.drew
  have SS := Lib.hid (show eqS ⟨[v], []⟩ ⟨[v], []⟩ = true from eqS_iff.2 rfl)
  go_region_held3 (fun V => V.cell? ⟨w.heap.size, 0, none⟩ = some (.slice pa0 S.A.length ca0) ∧ V.cell? ⟨w.heap.size, 1, none⟩ = some (.slice pr0 S.R.length cr0)) (first | with_reducible exact ⟨start.h.c0, start.h.c1⟩ | with_reducible exact ⟨hh.h.c0, hh.h.c1⟩) (first | (go_at_call 16; (with_reducible refine (AN.out.c _ _ _ start.s).mono ?_); rintro e wa ⟨rfl, hca⟩; have hh := start.on hca; clear hca) | (go_at_call 17; (with_reducible refine (AN.out.rc _ _ _ hh.s).mono ?_); rintro e wb ⟨rfl, hca⟩; have hh := hh.on hca; clear hca) | (go_at_call 19; (with_reducible refine (of_any v _).mono ?_); rintro e wc ⟨va, rfl, hva, hca⟩; have hh := hh.on hca; clear hca) | (go_at_call 20; (with_reducible refine (refOf_any v _).mono ?_); rintro e wd ⟨vd, rfl, hvd, hca⟩; have hh := hh.on hca; have hva := hva.below hca (Nat.le_refl _); clear hca) | (go_at_call 18; (with_reducible refine (same_any _ _ _ _ _ _ _ hva hvd true SS.out).mono ?_); rintro e wf ⟨rfl, hca⟩; have hh := hh.on hca; clear hca) | (go_at_call 21; (with_reducible refine (AN.out.s _ _ _ hh.s).mono ?_); rintro e wg ⟨rfl, hca⟩; have hh := hh.on hca; clear hca) | (go_at_call 22; (with_reducible refine (AN.out.rs _ _ _ hh.s).mono ?_); rintro e wh ⟨rfl, hca⟩; have hh := hh.on hca; clear hca) | (go_at_call 11; (with_reducible refine (awake_any _).mono ?_); rintro e wi ⟨rfl, hca⟩; have hh := hh.on hca; clear hca))
  all_goals go_wp2
  all_goals go_ret
  all_goals exact ⟨rfl, hh.b⟩

theorem ck_any (S : Sm) (v : BA) (hv : v.size ≤ maxLen) (a0 r0 : Value) (w : World) (h0 : IsSum w a0 r0 S) :
    Calls Try.prog 3 #[sv a0 r0, .string v] w fun e w' => e = .returned (.bool true) ∧ Below w.heap.size w w' := by
  cases hb : big S with
  | true => exact ck_big S v hv a0 r0 w h0 hb
  | false =>
    by_cases hl : 100 < v.size
    · exact ck_long S v hv a0 r0 w h0 hb hl
    · obtain ⟨vx, vb, ex, ee, n, q, hA⟩ := ans_any S (by have := (not_big hb).2.1; omega)
      exact ck_main S v hv a0 r0 w h0 hb hl vx vb ex ee n q hA
end Go.Proofs.Ytgnkfikihjjpeaa
