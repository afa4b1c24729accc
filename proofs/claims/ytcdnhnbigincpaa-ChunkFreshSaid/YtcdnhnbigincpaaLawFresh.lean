/- For every two data and parameters ChunkFresh returns true and leaves its arguments as they were. No condition. -/
import Derived.Test.YtcdnhnbigincpaaRef3
import Derived.Test.YtcdnhnbigincpaaLawDiv
import Derived.Test.YtcdnhnbigincpaaLawApp
namespace Go.Proofs.Ytcdnhnbigincpaa
open Go.ChangeShapes Go.WideShapes Go.ChangeAt Go.RowKit
open Go.ChangeMaps (open_string shut_string)

set_option maxHeartbeats 2000000 in
theorem fresh_err (a b c d : Int) (s t : ByteArray) (hs : s.size ≤ 65536) (ht : t.size ≤ 65536) (w : World) (r : Int) (hr : chkP a b c d = r) (h0 : r ≠ 0) :
    Calls Try.prog 21 #[.string s, .string t, pv a b c d] w fun e w' => e = .returned (.tuple #[.int .i64 0, .int .i64 r]) ∧ Below w.heap.size w w' := by
  refine (callsIn_wide (n := 5)).1 ?_
  have hB0 := ((Below.refl w.heap.size w).alloc (Nat.le_refl _) (.cells #[.int .i64 a, .int .i64 b, .int .i64 c, .int .i64 d] 23)).alloc (by simp) (.cells #[.string s, .string t] 9)
  have x := PBox.new w a b c d
  have c0 := x.c0
  have c1 := x.c1
  have c2 := x.c2
  have c3 := x.c3
  have hcl : ∀ j (h : j < [s, t].length), ((w.alloc (.cells #[.int .i64 a, .int .i64 b, .int .i64 c, .int .i64 d] 23)).alloc (.cells #[.string s, .string t] 9)).cell? ⟨w.heap.size + 1, 0 + j, none⟩ = some (.string [s, t][j]) := by
    intro j h
    match j, h with
    | 0, _ => simp
    | 1, _ => simp
  clear x
  have hne : (r != 0) = true := by simpa using h0
  have hA : chkA a b c d [s, t] = r := by rw [chkA, if_pos (by rw [hr]; exact h0), hr]
  clear hr
  refine callsIn_of_wp Try.func21 rfl trivial ?_ rfl
  simp only [Try.ntmps21, List.size_toArray, List.length_cons, List.length_nil, Nat.reduceAdd, Nat.reduceSub, Array.replicate_succ, Array.replicate_zero, List.push_toArray, List.append_toArray, List.nil_append, List.cons_append]
  gi_wp2
  refine ⟨trivial, (checkAll_in 4 (by omega) a b c d w.heap.size.succ 2 [s, t] (by simp) (by simp; omega) _ (by simp) hcl r hA).mono ?_⟩
  rintro e w1 ⟨rfl, hb1⟩
  gi_wp2
  exact bodyPost_ret (v := .tuple #[.int .i64 0, .int .i64 r]) (by simp [results, Try.results21, go_sem]) rfl ⟨rfl, hB0.trans (hb1.mono hB0.size)⟩

set_option maxHeartbeats 4000000 in
theorem refFresh_err (a b c d : Int) (s t : ByteArray) (hs : s.size ≤ 65536) (ht : t.size ≤ 65536) (w : World) (r : Int) (hr : chkP a b c d = r) (h0 : r ≠ 0) :
    Calls Try.prog 22 #[.string s, .string t, pv a b c d] w fun e w' => e = .returned (.tuple #[.int .i64 0, .int .i64 r]) ∧ Below w.heap.size w w' := by
  have hB := (Below.refl w.heap.size w).alloc (Nat.le_refl _) (.cells #[.int .i64 a, .int .i64 b, .int .i64 c, .int .i64 d] 23)
  have x := PBox.new w a b c d
  have c0 := x.c0
  have c1 := x.c1
  have c2 := x.c2
  have c3 := x.c3
  have hne : (r != 0) = true := by simpa using h0
  have HA := Lib.hid (show chkA a b c d [s] = r by rw [chkA_one _ _ _ _ _ hs, hr])
  have HT := Lib.hid (show chkA a b c d [t] = r by rw [chkA_one _ _ _ _ _ ht, hr])
  clear hr
  go_enter Try.func22, Try.ntmps22
  go_wp2_with fail
  ((with_reducible refine (refSplit_err a b c d s (by unfold maxLen; omega) _ r HA.out h0).mono ?_); rintro e w1 ⟨v1, rfl, _, hb1⟩)
  have B1 := hB.trans (hb1.mono hB.size)
  have x1 : PBox w1 w.heap.size a b c d := (hb1.block _ x.lt).trans x
  clear c0 c1 c2 c3 hb1 hB x
  have c0 := x1.c0
  have c1 := x1.c1
  have c2 := x1.c2
  have c3 := x1.c3
  go_wp2_with fail
  ((with_reducible refine (refSplit_err a b c d t (by unfold maxLen; omega) _ r HT.out h0).mono ?_); rintro e w2 ⟨v2, rfl, _, hb2⟩)
  have B2 := B1.trans (hb2.mono B1.size)
  go_wp2
  exact bodyPost_ret (v := .tuple #[.int .i64 0, .int .i64 r]) (by simp [results, Try.results22, go_sem]) rfl ⟨rfl, B2⟩

set_option maxHeartbeats 8000000 in
theorem refFresh_ok (p : Pm) (hp : p.Ok) (s t : ByteArray) (hs : s.size ≤ 65536) (ht : t.size ≤ 65536) (m : Nat) (hm : freshN (pieces s 0 (ends tst p (nats s))) (pieces t 0 (ends tst p (nats t))) = m) (w : World) :
    Calls Try.prog 22 #[.string s, .string t, pv p.least p.most p.window p.bits] w fun e w' => e = .returned (.tuple #[.int .i64 m, .int .i64 0]) ∧ Below w.heap.size w w' := by
  have hB := (Below.refl w.heap.size w).alloc (Nat.le_refl _) (.cells #[.int .i64 p.least, .int .i64 p.most, .int .i64 p.window, .int .i64 p.bits] 23)
  have x := PBox.new w p.least p.most p.window p.bits
  have c0 := x.c0
  have c1 := x.c1
  have c2 := x.c2
  have c3 := x.c3
  have SA := refSplit_ok p hp s hs
  have SB := refSplit_ok p hp t ht
  have lenB : (pieces t 0 (ends tst p (nats t))).length ≤ 65536 := by
    have := ends_len hp (nats t)
    rw [nats_length] at this
    rw [pieces_length]; omega
  have tot : total (pieces t 0 (ends tst p (nats t))) ≤ 65536 := by rw [total_all hp]; exact ht
  obtain ⟨LA, hA⟩ : ∃ L, pieces s 0 (ends tst p (nats s)) = L := ⟨_, rfl⟩
  obtain ⟨LB, hT⟩ : ∃ L, pieces t 0 (ends tst p (nats t)) = L := ⟨_, rfl⟩
  rw [hA] at SA hm
  rw [hT] at SB hm lenB tot
  have HSA := Lib.hid SA
  have HSB := Lib.hid SB
  have HM := Lib.hid hm
  clear SA SB hm hA hT
  go_enter Try.func22, Try.ntmps22
  go_wp2_with fail
  ((with_reducible refine (HSA.out _).mono ?_); rintro e w1 ⟨v1, rfl, d1, hb1⟩)
  have B1 := hB.trans (hb1.mono hB.size)
  have x1 : PBox w1 w.heap.size p.least p.most p.window p.bits := (hb1.block _ x.lt).trans x
  clear c0 c1 c2 c3 hb1 hB x
  have c0 := x1.c0
  have c1 := x1.c1
  have c2 := x1.c2
  have c3 := x1.c3
  go_wp2_with fail
  ((with_reducible refine (HSB.out _).mono ?_); rintro e w2 ⟨v2, rfl, d2, hb2⟩)
  have B2 := B1.trans (hb2.mono B1.size)
  have D1 := Lib.hid (d1.below hb2 (Nat.le_refl _))
  have D2 := Lib.hid d2
  obtain ⟨a, cap, rfl, _, _, hc⟩ := d2
  have HC := Lib.hid hc
  clear c0 c1 c2 c3 hb2 x1 d1 hc B1
  go_wp2
  go_loopw [12, 13] (fun s12 s13 wr => ∃ (i f : Nat), i ≤ LB.length ∧ s13 = .int .i64 i ∧ s12 = .int .i64 f ∧ Hid (f = freshN LA (LB.take i)) ∧ f ≤ 65536 ∧ Below w2.heap.size w2 wr) (fun _ i _ => LB.length - (intOf i).toNat)
  case atStart => exact ⟨0, 0, Nat.zero_le _, rfl, rfl, Lib.hid (by rw [List.take_zero]; rfl), by omega, Below.refl _ _⟩
  case round =>
    obtain ⟨i, f, hi, rfl, rfl, hf, hf2, hBr⟩ := hrel
    by_cases hlt : i < LB.length
    · obtain ⟨b1, o1, rfl, hb1, hcell⟩ := HC.out.resolve_left (by intro e; rw [e] at hlt; simp at hlt)
      have q := (hBr.cell (p := ⟨b1, o1 + i, none⟩) hb1).trans (hcell i hlt)
      have hs1 : freshN LA (LB.take (i + 1)) = freshN LA (LB.take i) + freshN LA [LB[i]] := by rw [List.take_succ_eq_append_getElem hlt, freshN_append]
      have hs2 : freshN LA (LB.take (i + 1)) ≤ 65536 := by
        have h1 := freshN_le LA (LB.take (i + 1))
        have h2 := total_append (LB.take (i + 1)) (LB.drop (i + 1))
        rw [List.take_append_drop] at h2
        omega
      rw [← hf.out] at hs1
      clear hcell hf
      obtain ⟨y, hy⟩ : ∃ y, LB[i] = y := ⟨_, rfl⟩
      rw [hy] at q hs1
      clear hy
      have D1r := Lib.hid (D1.out.below hBr (Nat.le_refl _))
      cases hb : hasB LA y
      · have hs3 : freshN LA (LB.take (i + 1)) = f + y.size := by rw [hs1]; simp [freshN, hb]
        have HS1 := Lib.hid hs3
        have HBB := Lib.hid hb
        rw [hs3] at hs2
        clear hs1 hs3 hb
        go_wp2_with fail
        ((with_reducible refine (has_any LA _ y _ D1r.out false HBB.out).mono ?_); rintro e w4 ⟨rfl, hb4⟩)
        have q4 := (hb4.cell (p := ⟨b1, o1 + i, none⟩) (show b1 < wr.heap.size by have := hBr.size; omega)).trans q
        have B4 := hBr.trans (hb4.mono hBr.size)
        clear q
        go_wp2
        go_roundw
        case rel => exact ⟨i + 1, f + y.size, by omega, by go_num, by first | rfl | go_num, Lib.hid HS1.out.symm, hs2, B4⟩
        case measure => simp [intOf]; omega
      · simp only [freshN, hb] at hs1
        have HS1 := Lib.hid hs1
        have HBB := Lib.hid hb
        clear hs1 hb
        go_wp2_with fail
        ((with_reducible refine (has_any LA _ y _ D1r.out true HBB.out).mono ?_); rintro e w4 ⟨rfl, hb4⟩)
        have B4 := hBr.trans (hb4.mono hBr.size)
        clear q
        go_wp2
        go_roundw
        case rel => exact ⟨i + 1, f, by omega, by go_num, rfl, Lib.hid (by rw [HS1.out]; simp), hf2, B4⟩
        case measure => simp [intOf]; omega
    · obtain rfl : i = LB.length := by omega
      have e : f = m := by rw [hf.out, List.take_length, HM.out]
      subst e
      clear hf
      go_wp2
      exact bodyPost_ret (v := .tuple #[.int .i64 f, .int .i64 0]) (by simp [results, Try.results22, go_sem]) rfl ⟨rfl, B2.trans (hBr.mono B2.size)⟩

set_option maxHeartbeats 4000000 in
theorem freshLaw_big (s t : ByteArray) (hs : s.size ≤ maxLen) (ht : t.size ≤ maxLen) (h : 200 < s.size ∨ (¬ 200 < s.size ∧ 200 < t.size)) (a b c d : Int) (w : World) :
    Calls Try.prog 4 #[.string s, .string t, pv a b c d] w fun e w' => e = .returned (.bool true) ∧ Below w.heap.size w w' := by
  unfold maxLen at hs ht
  have hB := (Below.refl w.heap.size w).alloc (Nat.le_refl _) (.cells #[.int .i64 a, .int .i64 b, .int .i64 c, .int .i64 d] 23)
  rcases h with h | ⟨h1, h⟩
  · have t1 : (200 : Int) < s.size := by omega
    go_enter Try.func4, Try.ntmps4
    go_wp2_with fail
    ((with_reducible refine (awake_any _).mono ?_); rintro e w2 ⟨rfl, hb2⟩)
    go_wp2
    go_ret
    exact ⟨rfl, hB.trans (hb2.mono hB.size)⟩
  · have t0 : ¬ (200 : Int) < s.size := by omega
    have t1 : (200 : Int) < t.size := by omega
    go_enter Try.func4, Try.ntmps4
    go_wp2_with fail
    ((with_reducible refine (awake_any _).mono ?_); rintro e w2 ⟨rfl, hb2⟩)
    go_wp2
    go_ret
    exact ⟨rfl, hB.trans (hb2.mono hB.size)⟩

set_option maxHeartbeats 4000000 in
theorem freshLaw_main (s t : ByteArray) (hs : s.size ≤ 200) (ht : t.size ≤ 200) (a b c d m z : Int) (w : World)
    (C1 : ∀ W, Below w.heap.size w W → Calls Try.prog 21 #[.string s, .string t, pv a b c d] W fun e w' => e = .returned (.tuple #[.int .i64 m, .int .i64 z]) ∧ Below W.heap.size W w')
    (C2 : ∀ W, Below w.heap.size w W → Calls Try.prog 22 #[.string s, .string t, pv a b c d] W fun e w' => e = .returned (.tuple #[.int .i64 m, .int .i64 z]) ∧ Below W.heap.size W w') :
    Calls Try.prog 4 #[.string s, .string t, pv a b c d] w fun e w' => e = .returned (.bool true) ∧ Below w.heap.size w w' := by
  have hB := (Below.refl w.heap.size w).alloc (Nat.le_refl _) (.cells #[.int .i64 a, .int .i64 b, .int .i64 c, .int .i64 d] 23)
  have x := PBox.new w a b c d
  have c0 := x.c0
  have c1 := x.c1
  have c2 := x.c2
  have c3 := x.c3
  have t0 : ¬ (200 : Int) < s.size := by omega
  have t1 : ¬ (200 : Int) < t.size := by omega
  have H1 := Lib.hid C1
  have H2 := Lib.hid C2
  clear C1 C2
  go_enter Try.func4, Try.ntmps4
  go_wp2_with fail
  ((with_reducible refine (H1.out _ hB).mono ?_); rintro e w1 ⟨rfl, hb1⟩)
  have B1 := hB.trans (hb1.mono hB.size)
  have x1 : PBox w1 w.heap.size a b c d := (hb1.block _ x.lt).trans x
  clear c0 c1 c2 c3 hb1 hB x
  have c0 := x1.c0
  have c1 := x1.c1
  have c2 := x1.c2
  have c3 := x1.c3
  go_wp2_with fail
  ((with_reducible refine (H2.out _ B1).mono ?_); rintro e w2 ⟨rfl, hb2⟩)
  have B2 := B1.trans (hb2.mono B1.size)
  clear c0 c1 c2 c3 hb2
  go_wp2_with fail
  ((with_reducible refine (awake_any _).mono ?_); rintro e w3 ⟨rfl, hb3⟩)
  go_wp2
  go_ret
  exact ⟨rfl, B2.trans (hb3.mono B2.size)⟩

theorem freshLaw_any (s t : ByteArray) (hs : s.size ≤ maxLen) (ht : t.size ≤ maxLen) (a b c d : Int) (w : World) :
    Calls Try.prog 4 #[.string s, .string t, pv a b c d] w fun e w' => e = .returned (.bool true) ∧ Below w.heap.size w w' := by
  by_cases h1 : 200 < s.size
  · exact freshLaw_big s t hs ht (.inl h1) a b c d w
  by_cases h2 : 200 < t.size
  · exact freshLaw_big s t hs ht (.inr ⟨h1, h2⟩) a b c d w
  by_cases h0 : chkP a b c d = 0
  · obtain ⟨p, hp, rfl, rfl, rfl, rfl⟩ := chkP_zero h0
    exact freshLaw_main s t (by omega) (by omega) _ _ _ _ _ 0 w (fun W _ => fresh_ok p hp s t (by omega) (by omega) W) (fun W _ => refFresh_ok p hp s t (by omega) (by omega) _ rfl W)
  · exact freshLaw_main s t (by omega) (by omega) a b c d 0 _ w (fun W _ => fresh_err a b c d s t (by omega) (by omega) W _ rfl h0) (fun W _ => refFresh_err a b c d s t (by omega) (by omega) W _ rfl h0)

set_option maxRecDepth 100000 in
theorem freshLaw_lifted (os : Os) (started : os.Started) (H : Type) (enc : TypeId × Value → H) :
    ReturnsInHanded {} Try.checked os 4 .any (Rows.chunkFreshSpec.pre6 enc Try.prog Try.f4 Rows.chunkFreshRow.domain false) (Rows.chunkFreshSpec.post enc Try.prog Try.f4 false true false false) := by
  refine returnsInHanded_of_change (C := Try.checked) ownK started (by kernel_rfl) Try.func4
    (ChangeSpec.witness6 (enc := enc) (C := Try.checked) false ⟨#[], #[.string ⟨#[]⟩, .string ⟨#[]⟩, pv 0 0 0 0], []⟩ 8 (by kernel_rfl) (by kernel_rfl) (by kernel_rfl) (by kernel_rfl)) ?_
  intro W base args ds gs before hval0 hW hcnd _
  have hval : ∀ (j : Nat) t v, Try.f4.params[j]? = some t → args[j]? = some v → Value.okWide Try.prog W .any base t v := hval0
  have hW' := hW
  obtain ⟨p, q, hA0, hV, rfl, hfz, hnd⟩ := hW
  have hA : DataW.TrodAll enc Try.prog W 0 (fun _ => true) true Try.f4.params.toList args.toList ds p := hA0
  rw [Try.params4] at hA hval
  obtain ⟨v0, v1, v2, d0, d1, d2, p0, p1, p2, rfl, rfl, rfl, h0, h1, h2⟩ := trodAll_three hA
  obtain ⟨rfl, rfl⟩ := trodVars_none hV
  have k2 := h2
  have lt2 : ∀ x ∈ p2, x.block < W.heap.size := by obtain ⟨m, hm⟩ := k2; exact DataW.trod_lt m _ _ _ hm
  obtain ⟨x, rfl, rfl, rfl, w0⟩ := open_string Try.underlying9 (hval 0 9 v0 rfl rfl) h0
  obtain ⟨y, rfl, rfl, rfl, w1⟩ := open_string Try.underlying9 (hval 1 9 v1 rfl rfl) h1
  obtain ⟨a, b, c, d, rfl⟩ := open_chunking (hval 2 23 v2 rfl rfl) h2
  clear hA0 hval0
  refine (freshLaw_any x y w0 w1 a b c d W).mono fun e W' ⟨he, bel⟩ => ?_
  subst he
  exact ⟨_, rfl, _, _, _, [], _, [], hW', trodAll_mk1 (shut_bool Try.underlying4 _), (trodAll_cons_mk (shut_string Try.underlying9 w0) (trodAll_cons_mk (shut_string Try.underlying9 w1) (trodAll_cons_mk (Below.trod laidOut (by kernel_rfl) (of_decide_eq_true (by kernel_rfl)) k2 bel lt2) trodAll_mk0))), rfl, bel.frame _, fun h => by cases h⟩

theorem freshLaw_holds : Rows.ChunkFreshSaid :=
  OpenClaim.holds_of_wide 4 Try.f4 rfl rfl rfl rfl rfl rfl rfl ⟨rfl, rfl, rfl, rfl, rfl⟩ rfl rfl rfl rfl rfl (by kernel_rfl) Try.func4 (by kernel_rfl)
    (of_decide_eq_true (by kernel_rfl)) (by unfold Func.isWrapper; rw [if_neg (of_decide_eq_false (by kernel_rfl))]; exact ⟨rfl, rfl⟩)
    (fun os started H enc _ => freshLaw_lifted os started H enc)
#print axioms freshLaw_holds
end Go.Proofs.Ytcdnhnbigincpaa
