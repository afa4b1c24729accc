/- The reference's add, at this translation. -/
import Derived.Test.YtgnkfikihjjpeaaRefIns
import Derived.Test.YtgnkfikihjjpeaaAwake
import Derived.Deep.RegionHeld3
import Derived.Deep.RegionLaw
namespace Go.Proofs.Ytgnkfikihjjpeaa
open Go.RowKit Go.Great

theorem without_c (L : List BA) (v : Value) (x : BA) (w : World) (h : IsStrs w v L) (hl : L.length ≤ 100000) (c : Bool) (hc : decide (x ∈ L) = c) :
    Calls Try.prog 53 #[v, .string x] w fun e w' => ∃ a n k, e = .returned (.tuple #[.slice a n k, .bool c]) ∧ IsStrs w' (.slice a n k) (L.erase x) ∧ Below w.heap.size w w' := by
  refine (without_any L v x w h hl).mono ?_
  rintro e w' ⟨v', rfl, h1, h2⟩
  have h3 := h1
  obtain ⟨a, cap, rfl, -, -, -⟩ := h3
  exact ⟨_, _, _, by rw [hc], h1, h2⟩
theorem insert_c (L : List BA) (v : Value) (x : BA) (w : World) (h : IsStrs w v L) (hl : L.length ≤ 100000) (hL : asc L) :
    Calls Try.prog 54 #[v, .string x] w fun e w' => ∃ a n k M, e = .returned (.slice a n k) ∧ IsStrs w' (.slice a n k) M ∧ (asc M ∧ M.Perm (x :: L)) ∧ Below w.heap.size w w' := by
  refine (insert_any L v x w h hl hL).mono ?_
  rintro e w' ⟨v', M, rfl, h1, h2⟩
  have h3 := h1
  obtain ⟨a, cap, rfl, -, -, -⟩ := h3
  exact ⟨_, _, _, _, rfl, h1, h2⟩

/-- The sum so far, in its box. -/
structure Acc (f : BA → Int) (n : Nat) (w W : World) (va vr : Value) (T : Sm) : Prop where
  box : SBox W w.heap.size va vr
  s : IsSum W va vr T
  nm : Norm T
  c : ∀ x, cnt T x = f x
  l : T.A.length + T.R.length ≤ n
  res : SBox W (w.heap.size + 1) (.slice none 0 0) (.slice none 0 0)
  b : Below w.heap.size w W
theorem Acc.on {f : BA → Int} {n : Nat} {w W W' : World} {va vr : Value} {T : Sm} (h : Acc f n w W va vr T) (hb : Below W.heap.size W W') : Acc f n w W' va vr T :=
  ⟨h.box.below hb h.box.lt, h.s.below hb (Nat.le_refl _), h.nm, h.c, h.l, h.res.below hb h.res.lt, h.b.trans (hb.mono h.b.size)⟩
theorem Acc.drew {f : BA → Int} {n : Nat} {w W : World} {va vr : Value} {T : Sm} (h : Acc f n w W va vr T) : Acc f n w W.drew va vr T := h.on (Below.refl _ _).drew
theorem asc_erase {L : List BA} {x : BA} (h : asc L) : asc (L.erase x) := List.Pairwise.sublist List.erase_sublist h
theorem perm_count {M L : List BA} {x : BA} (h : M.Perm (x :: L)) (y : BA) : M.count y = L.count y + if x = y then 1 else 0 := by
  rw [h.count_eq, List.count_cons]; simp
theorem count_erase_in {L : List BA} {x : BA} (h : x ∈ L) (y : BA) : (L.erase x).count y + (if x = y then 1 else 0) = L.count y := by
  have := perm_count (List.perm_cons_erase h) y
  omega
theorem Acc.backR {f g : BA → Int} {n m : Nat} {w W : World} {va vr v : Value} {T : Sm} {x : BA} (h : Acc f n w W va vr T) (hs : IsStrs W v (T.R.erase x)) (hx : x ∈ T.R) (hg : ∀ y, g y = f y + if x = y then 1 else 0) (hm : n + 1 ≤ m) :
    Acc g m w (W.setCell ⟨w.heap.size, 1, none⟩ v) va v ⟨T.A, T.R.erase x⟩ := by
  obtain ⟨pa, ca, pr, cr, rfl, rfl, -, -⟩ := h.s.parts
  refine ⟨h.box.set1 v, ⟨h.s.a.box h.box 1 _, hs.box h.box 1 _⟩, ⟨h.nm.a, asc_erase h.nm.r, fun y hy hr => h.nm.d y hy (List.mem_of_mem_erase hr)⟩, fun y => ?_, ?_, h.res.other (by omega) 1 v, h.b.setCell (p := ⟨w.heap.size, 1, none⟩) (Nat.le_refl _) v⟩
  · have e0 := h.c y
    have e1 := count_erase_in hx y
    have e2 := hg y
    unfold cnt at e0 ⊢
    simp only
    by_cases q : x = y
    · rw [if_pos q] at e1 e2; omega
    · rw [if_neg q] at e1 e2; omega
  · have e0 := h.l
    have e1 := List.length_erase_of_mem hx
    simp only
    omega
theorem Acc.newA {f g : BA → Int} {n m : Nat} {w W : World} {va vr v : Value} {T : Sm} {x : BA} {M : List BA} (h : Acc f n w W va vr T) (hs : IsStrs W v (M)) (hM : asc M ∧ M.Perm (x :: T.A)) (hx : x ∉ T.R) (hg : ∀ y, g y = f y + if x = y then 1 else 0) (hm : n + 1 ≤ m) :
    Acc g m w (W.setCell ⟨w.heap.size, 0, none⟩ v) v vr ⟨M, T.R⟩ := by
  obtain ⟨pa, ca, pr, cr, rfl, rfl, -, -⟩ := h.s.parts
  refine ⟨h.box.set0 v, ⟨hs.box h.box 0 _, h.s.r.box h.box 0 _⟩, ⟨hM.1, h.nm.r, fun y hy hr => by
    rcases List.mem_cons.1 (hM.2.mem_iff.1 hy) with rfl | hy
    · exact hx hr
    · exact h.nm.d y hy hr⟩, fun y => ?_, ?_, h.res.other (by omega) 0 v, h.b.setCell (p := ⟨w.heap.size, 0, none⟩) (Nat.le_refl _) v⟩
  · have e0 := h.c y
    have e1 := perm_count hM.2 y
    have e2 := hg y
    unfold cnt at e0 ⊢
    simp only
    by_cases q : x = y
    · rw [if_pos q] at e1 e2; omega
    · rw [if_neg q] at e1 e2; omega
  · have e0 := h.l
    have e1 := hM.2.length_eq; rw [List.length_cons] at e1
    simp only
    omega
theorem Acc.backA {f g : BA → Int} {n m : Nat} {w W : World} {va vr v : Value} {T : Sm} {x : BA} (h : Acc f n w W va vr T) (hs : IsStrs W v (T.A.erase x)) (hx : x ∈ T.A) (hg : ∀ y, g y = f y - if x = y then 1 else 0) (hm : n + 1 ≤ m) :
    Acc g m w (W.setCell ⟨w.heap.size, 0, none⟩ v) v vr ⟨T.A.erase x, T.R⟩ := by
  obtain ⟨pa, ca, pr, cr, rfl, rfl, -, -⟩ := h.s.parts
  refine ⟨h.box.set0 v, ⟨hs.box h.box 0 _, h.s.r.box h.box 0 _⟩, ⟨asc_erase h.nm.a, h.nm.r, fun y hy => h.nm.d y (List.mem_of_mem_erase hy)⟩, fun y => ?_, ?_, h.res.other (by omega) 0 v, h.b.setCell (p := ⟨w.heap.size, 0, none⟩) (Nat.le_refl _) v⟩
  · have e0 := h.c y
    have e1 := count_erase_in hx y
    have e2 := hg y
    unfold cnt at e0 ⊢
    simp only
    by_cases q : x = y
    · rw [if_pos q] at e1 e2; omega
    · rw [if_neg q] at e1 e2; omega
  · have e0 := h.l
    have e1 := List.length_erase_of_mem hx
    simp only
    omega
theorem Acc.newR {f g : BA → Int} {n m : Nat} {w W : World} {va vr v : Value} {T : Sm} {x : BA} {M : List BA} (h : Acc f n w W va vr T) (hs : IsStrs W v (M)) (hM : asc M ∧ M.Perm (x :: T.R)) (hx : x ∉ T.A) (hg : ∀ y, g y = f y - if x = y then 1 else 0) (hm : n + 1 ≤ m) :
    Acc g m w (W.setCell ⟨w.heap.size, 1, none⟩ v) va v ⟨T.A, M⟩ := by
  obtain ⟨pa, ca, pr, cr, rfl, rfl, -, -⟩ := h.s.parts
  refine ⟨h.box.set1 v, ⟨h.s.a.box h.box 1 _, hs.box h.box 1 _⟩, ⟨h.nm.a, hM.1, fun y hy hr => by
    rcases List.mem_cons.1 (hM.2.mem_iff.1 hr) with rfl | hr
    · exact hx hy
    · exact h.nm.d y hy hr⟩, fun y => ?_, ?_, h.res.other (by omega) 1 v, h.b.setCell (p := ⟨w.heap.size, 1, none⟩) (Nat.le_refl _) v⟩
  · have e0 := h.c y
    have e1 := perm_count hM.2 y
    have e2 := hg y
    unfold cnt at e0 ⊢
    simp only
    by_cases q : x = y
    · rw [if_pos q] at e1 e2; omega
    · rw [if_neg q] at e1 e2; omega
  · have e0 := h.l
    have e1 := hM.2.length_eq; rw [List.length_cons] at e1
    simp only
    omega

/-- insert at a step of a region that draws. -/
theorem step_insert {ops : Array Oper} {o : Oper} {a : Act} {w : World} {K : Act → World → Prop} {Q : Exit → Act → World → Prop} {E : Prop}
    (hg : o.guard = none) (s c : Nat) (hop : o.op = Op.call { callee := Callee.value (Operand.func 54), args := #[.tmp s, .tmp c], argTypes := #[22, 9] })
    (L : List BA) (v : Value) (x : BA) (hs : a.eval (.tmp s) = v) (hc : a.eval (.tmp c) = .string x) (h : IsStrs w v L) (hl : L.length ≤ 100000) (hL : asc L)
    (hK : ∀ a' n k M w', IsStrs w' (.slice a' n k) M → (asc M ∧ M.Perm (x :: L)) → Below w.heap.size w w' → K (a.put o.dst (.slice a' n k)) w') :
    if Region.wanted o (yielded ops a.tmps) = true then Oper.wp Try.prog o a w K Q else E := by
  have hw : Region.wanted o (yielded ops a.tmps) = true := by simp [Region.wanted, hg]
  rw [if_pos hw]
  have hs' : a.tmps[s]?.getD undef = v := by simpa [Act.eval] using hs
  have hc' : a.tmps[c]?.getD undef = .string x := by simpa [Act.eval] using hc
  unfold Oper.wp
  simp [execOp, hop, go_sem]
  rw [hs', hc']
  refine (insert_c L v x w h hl hL).mono ?_
  rintro e w' ⟨a', n, k, M, rfl, h1, h2, h3⟩
  simpa [Act.put] using hK a' n k M w' h1 h2 h3
theorem count_tk {L : List BA} {j : Nat} (h : j < L.length) (y : BA) : (L.take (j + 1)).count y = (L.take j).count y + if L[j] = y then 1 else 0 := by
  rw [List.take_succ_eq_append_getElem h, List.count_append, List.count_singleton]
  simp

set_option maxRecDepth 100000 in
set_option maxHeartbeats 8000000 in
theorem add_any (S : Sm) (L1 L2 : List BA) (a0 r0 v1 v2 : Value) (w : World) (h : IsSum w a0 r0 S) (hS : Norm S) (h1 : IsStrs w v1 L1) (h2 : IsStrs w v2 L2) (hl : S.A.length + S.R.length + L1.length + L2.length ≤ 100000) :
    Calls Try.prog 38 #[sv a0 r0, v1, v2] w fun e w' => ∃ va vr T, e = .returned (sv va vr) ∧ IsSum w' va vr T ∧ (Norm T ∧ (∀ x, cnt T x = cnt S x + (L1.count x : Int) - (L2.count x : Int)) ∧ T.A.length + T.R.length ≤ S.A.length + S.R.length + L1.length + L2.length) ∧ Below w.heap.size w w' := by
  have hB := ((Below.refl w.heap.size w).alloc (Nat.le_refl _) (.cells #[a0, r0] 24)).alloc (by simp) (.cells #[.slice none 0 0, .slice none 0 0] 24)
  have X1 := (SBox.new w a0 r0).alloc (.cells #[.slice none 0 0, .slice none 0 0] 24)
  have X2 := SBox.new (w.alloc (.cells #[a0, r0] 24)) (.slice none 0 0) (.slice none 0 0)
  rw [World.size_alloc] at X2
  have HA0 : Hid (∃ va vr T, Acc (fun y => cnt S y + ((L1.take 0).count y : Int)) (S.A.length + S.R.length + 0) w ((w.alloc (.cells #[a0, r0] 24)).alloc (.cells #[.slice none 0 0, .slice none 0 0] 24)) va vr T) := Lib.hid ⟨a0, r0, S, X1, h.below hB (Nat.le_refl _), hS, by simp, by omega, X2, hB⟩
  obtain ⟨a1, k1, rfl, n1, _, hc1⟩ := h1
  obtain ⟨a2, k2, rfl, n2, _, hc2⟩ := h2
  unfold maxLen at n1 n2
  have HC1 := Lib.hid hc1
  have HC2 := Lib.hid hc2
  obtain ⟨pa0, ca0, pr0, cr0, rfl, rfl, -, -⟩ := h.parts
  clear hc1 hc2 X1 X2 h hS
  go_enter Try.func38, Try.ntmps38
  go_upto_region 1 with fail
  generalize hw1 : (w.alloc (.cells #[.slice pa0 S.A.length ca0, .slice pr0 S.R.length cr0] 24)).alloc (.cells #[.slice none 0 0, .slice none 0 0] 24) = w1 at HA0 ⊢
  clear hB
  go_wp2
  go_loopw [7] (fun s wr => ∃ j : Nat, j ≤ L1.length ∧ s = .int .i64 j ∧ Hid (∃ va vr T, Acc (fun y => cnt S y + ((L1.take j).count y : Int)) (S.A.length + S.R.length + j) w wr va vr T)) (fun i _ => L1.length - (intOf i).toNat)
  case atStart => exact ⟨0, Nat.zero_le _, rfl, HA0⟩
  case round =>
    obtain ⟨j, hj, rfl, HA⟩ := hrel
    obtain ⟨va, vr, T, hA⟩ := HA.out
    clear HA
    by_cases hlt : j < L1.length
    · obtain ⟨b1, o1, rfl, hb1, hcell⟩ := HC1.out.resolve_left (by intro e; rw [e] at hlt; simp at hlt)
      have p0 : wr.drew.cell? ⟨b1, o1 + j, none⟩ = some (.string L1[j]) := (hA.b.cell (p := ⟨b1, o1 + j, none⟩) hb1).trans (hcell j hlt)
      have TK := Lib.hid (fun y => count_tk hlt y)
      obtain ⟨x, hx⟩ : ∃ x, L1[j] = x := ⟨_, rfl⟩
      rw [hx] at p0 TK
      obtain ⟨c, hc⟩ : ∃ c, decide (x ∈ T.R) = c := ⟨_, rfl⟩
      have start := hA.drew
      have HCX := Lib.hid hc
      have tl := hA.l
      have tN := Lib.hid hA.nm.a
      obtain ⟨pa, ca, pr, cr, rfl, rfl, -, -⟩ := hA.s.parts
      clear hcell hx hA hc
      cases c with
      | true =>
        have hx := of_decide_eq_true HCX.out
        have HX := Lib.hid hx
        clear hx
        go_upto_region 4 with fail
        go_region_held3 (fun V => V.cell? ⟨w.heap.size, 1, none⟩ = some (.slice pr T.R.length cr) ∧ V.cell? ⟨b1, o1 + j, none⟩ = some (.string x)) (first | with_reducible exact ⟨start.box.c1, p0⟩ | with_reducible exact ⟨hh.box.c1, q0⟩) (first | ((with_reducible refine (without_c T.R _ x _ start.s.r (by omega) true HCX.out).mono ?_); rintro e w5 ⟨a5, n5, k5, rfl, hs5, hb5⟩; have hh := start.on hb5; have q0 := (hb5.cell (p := ⟨b1, o1 + j, none⟩) (by have := start.b.size; show b1 < _; omega)).trans p0; have HS5 := Lib.hid hs5; clear hs5 hb5))
        have c0 := hh.box.c1
        have c1 := hh.box.f0 1
        have HH := Lib.hid hh
        have HG := Lib.hid (Acc.backR (g := (fun y => cnt S y + ((L1.take (j + 1)).count y : Int))) (m := (S.A.length + S.R.length + (j + 1))) hh HS5.out HX.out (fun y => by rw [TK.out y]; split <;> omega) (by omega))
        clear hh start p0 q0
        go_wp2
        go_roundw
        case rel => exact ⟨j + 1, by omega, by go_num, Lib.hid ⟨_, _, _, HG.out⟩⟩
        case measure => simp [intOf]; omega
      | false =>
        have hx := of_decide_eq_false HCX.out
        have HX := Lib.hid hx
        clear hx
        go_upto_region 4 with fail
        go_region_held3 (fun V => V.cell? ⟨w.heap.size, 1, none⟩ = some (.slice pr T.R.length cr) ∧ V.cell? ⟨b1, o1 + j, none⟩ = some (.string x)) (first | with_reducible exact ⟨start.box.c1, p0⟩ | with_reducible exact ⟨hh.box.c1, q0⟩) (first | ((with_reducible refine (without_c T.R _ x _ start.s.r (by omega) false HCX.out).mono ?_); rintro e w5 ⟨a5, n5, k5, rfl, -, hb5⟩; have hh := start.on hb5; have q0 := (hb5.cell (p := ⟨b1, o1 + j, none⟩) (by have := start.b.size; show b1 < _; omega)).trans p0; clear hb5))
        go_upto_region 7 with fail
        have s7 := hh.drew
        have p7 : w5.drew.cell? ⟨b1, o1 + j, none⟩ = some (.string x) := q0
        have c0 := s7.box.c0
        clear hh start p0 q0
        go_region_law (refine step_insert (by rfl) 33 37 (by rfl) T.A _ x (by simp [Act.eval]) (by simp [Act.eval]) s7.s.a (by omega) tN.out ?_; intro a7 n7 k7 M7 w7 hs7 hM7 hb7; have h7 := Lib.hid (s7.on hb7); have q0 := h7.out.box.c0; have q1 := h7.out.box.f0 0; have HS7 := Lib.hid hs7; have HM7 := Lib.hid hM7; clear hs7 hM7 hb7)
        all_goals
          have HG := Lib.hid (Acc.newA (g := (fun y => cnt S y + ((L1.take (j + 1)).count y : Int))) (m := (S.A.length + S.R.length + (j + 1))) h7.out HS7.out HM7.out HX.out (fun y => by rw [TK.out y]; split <;> omega) (by omega))
        all_goals go_wp2
        all_goals go_roundw
        all_goals first | exact ⟨j + 1, by omega, by go_num, Lib.hid ⟨_, _, _, HG.out⟩⟩ | (simp [intOf]; omega)
    · have hj2 : j = L1.length := by omega
      subst hj2
      have HB0 : Hid (∃ va vr T, Acc (fun y => cnt S y + (L1.count y : Int) - ((L2.take 0).count y : Int)) (S.A.length + S.R.length + L1.length + 0) w wr va vr T) := Lib.hid ⟨va, vr, T, by rw [List.take_length] at hA; simpa using hA⟩
      clear hA
      go_wp2
      go_loopw [10] (fun s wr => ∃ j : Nat, j ≤ L2.length ∧ s = .int .i64 j ∧ Hid (∃ va vr T, Acc (fun y => cnt S y + (L1.count y : Int) - ((L2.take j).count y : Int)) (S.A.length + S.R.length + L1.length + j) w wr va vr T)) (fun i _ => L2.length - (intOf i).toNat)
      case atStart => exact ⟨0, Nat.zero_le _, rfl, HB0⟩
      case round =>
        obtain ⟨j, hj, rfl, HA⟩ := hrel
        obtain ⟨va, vr, T, hA⟩ := HA.out
        clear HA
        by_cases hlt : j < L2.length
        · obtain ⟨b1, o1, rfl, hb1, hcell⟩ := HC2.out.resolve_left (by intro e; rw [e] at hlt; simp at hlt)
          have p0 : wr.drew.cell? ⟨b1, o1 + j, none⟩ = some (.string L2[j]) := (hA.b.cell (p := ⟨b1, o1 + j, none⟩) hb1).trans (hcell j hlt)
          have TK := Lib.hid (fun y => count_tk hlt y)
          obtain ⟨x, hx⟩ : ∃ x, L2[j] = x := ⟨_, rfl⟩
          rw [hx] at p0 TK
          obtain ⟨c, hc⟩ : ∃ c, decide (x ∈ T.A) = c := ⟨_, rfl⟩
          have start := hA.drew
          have HCX := Lib.hid hc
          have tl := hA.l
          have tN := Lib.hid hA.nm.r
          obtain ⟨pa, ca, pr, cr, rfl, rfl, -, -⟩ := hA.s.parts
          clear hcell hx hA hc
          cases c with
          | true =>
            have hx := of_decide_eq_true HCX.out
            have HX := Lib.hid hx
            clear hx
            go_upto_region 11 with fail
            go_region_held3 (fun V => V.cell? ⟨w.heap.size, 0, none⟩ = some (.slice pa T.A.length ca) ∧ V.cell? ⟨b1, o1 + j, none⟩ = some (.string x)) (first | with_reducible exact ⟨start.box.c0, p0⟩ | with_reducible exact ⟨hh.box.c0, q0⟩) (first | ((with_reducible refine (without_c T.A _ x _ start.s.a (by omega) true HCX.out).mono ?_); rintro e w5 ⟨a5, n5, k5, rfl, hs5, hb5⟩; have hh := start.on hb5; have q0 := (hb5.cell (p := ⟨b1, o1 + j, none⟩) (by have := start.b.size; show b1 < _; omega)).trans p0; have HS5 := Lib.hid hs5; clear hs5 hb5))
            have c0 := hh.box.c0
            have c1 := hh.box.f0 0
            have HH := Lib.hid hh
            have HG := Lib.hid (Acc.backA (g := (fun y => cnt S y + (L1.count y : Int) - ((L2.take (j + 1)).count y : Int))) (m := (S.A.length + S.R.length + L1.length + (j + 1))) hh HS5.out HX.out (fun y => by rw [TK.out y]; split <;> omega) (by omega))
            clear hh start p0 q0
            go_wp2
            go_roundw
            case rel => exact ⟨j + 1, by omega, by go_num, Lib.hid ⟨_, _, _, HG.out⟩⟩
            case measure => simp [intOf]; omega
          | false =>
            have hx := of_decide_eq_false HCX.out
            have HX := Lib.hid hx
            clear hx
            go_upto_region 11 with fail
            go_region_held3 (fun V => V.cell? ⟨w.heap.size, 0, none⟩ = some (.slice pa T.A.length ca) ∧ V.cell? ⟨b1, o1 + j, none⟩ = some (.string x)) (first | with_reducible exact ⟨start.box.c0, p0⟩ | with_reducible exact ⟨hh.box.c0, q0⟩) (first | ((with_reducible refine (without_c T.A _ x _ start.s.a (by omega) false HCX.out).mono ?_); rintro e w5 ⟨a5, n5, k5, rfl, -, hb5⟩; have hh := start.on hb5; have q0 := (hb5.cell (p := ⟨b1, o1 + j, none⟩) (by have := start.b.size; show b1 < _; omega)).trans p0; clear hb5))
            go_upto_region 14 with fail
            have s7 := hh.drew
            have p7 : w5.drew.cell? ⟨b1, o1 + j, none⟩ = some (.string x) := q0
            have c0 := s7.box.c1
            clear hh start p0 q0
            go_region_law (refine step_insert (by rfl) 60 64 (by rfl) T.R _ x (by simp [Act.eval]) (by simp [Act.eval]) s7.s.r (by omega) tN.out ?_; intro a7 n7 k7 M7 w7 hs7 hM7 hb7; have h7 := Lib.hid (s7.on hb7); have q0 := h7.out.box.c1; have q1 := h7.out.box.f0 1; have HS7 := Lib.hid hs7; have HM7 := Lib.hid hM7; clear hs7 hM7 hb7)
            all_goals
              have HG := Lib.hid (Acc.newR (g := (fun y => cnt S y + (L1.count y : Int) - ((L2.take (j + 1)).count y : Int))) (m := (S.A.length + S.R.length + L1.length + (j + 1))) h7.out HS7.out HM7.out HX.out (fun y => by rw [TK.out y]; split <;> omega) (by omega))
            all_goals go_wp2
            all_goals go_roundw
            all_goals first | exact ⟨j + 1, by omega, by go_num, Lib.hid ⟨_, _, _, HG.out⟩⟩ | (simp [intOf]; omega)
        · have hj2 : j = L2.length := by omega
          subst hj2
          rw [List.take_length] at hA
          obtain ⟨pa, ca, pr, cr, rfl, rfl, -, -⟩ := hA.s.parts
          have hz1 := hA.res.set0 (.slice pa T.A.length ca)
          have HF := Lib.hid (show IsSum ((wr.setCell ⟨w.heap.size + 1, 0, none⟩ (.slice pa T.A.length ca)).setCell ⟨w.heap.size + 1, 1, none⟩ (.slice pr T.R.length cr)) (.slice pa T.A.length ca) (.slice pr T.R.length cr) T from ⟨(hA.s.a.box hA.res 0 _).box hz1 1 _, (hA.s.r.box hA.res 0 _).box hz1 1 _⟩)
          have BE := (hA.b.setCell (p := ⟨w.heap.size + 1, 0, none⟩) (by simp) (.slice pa T.A.length ca)).setCell (p := ⟨w.heap.size + 1, 1, none⟩) (by simp) (.slice pr T.R.length cr)
          have HM := Lib.hid (show Norm T ∧ (∀ x, cnt T x = cnt S x + (L1.count x : Int) - (L2.count x : Int)) ∧ T.A.length + T.R.length ≤ S.A.length + S.R.length + L1.length + L2.length from ⟨hA.nm, hA.c, hA.l⟩)
          have c0 := hA.box.c0
          have c1 := hA.box.c1
          have r0 := hA.res.c0
          have r1 := hA.res.c1
          have g0 := hA.res.f0 0
          have g1 := hA.res.f0 1
          clear hA hz1
          go_wp2
          exact bodyPost_ret (v := sv (.slice pa T.A.length ca) (.slice pr T.R.length cr)) (by simp [results, Try.results38, go_sem, r0, r1, World.cell?_setCell_other, World.cell?_setCell_same']) rfl ⟨_, _, T, rfl, HF.out, HM.out, BE⟩
end Go.Proofs.Ytgnkfikihjjpeaa
