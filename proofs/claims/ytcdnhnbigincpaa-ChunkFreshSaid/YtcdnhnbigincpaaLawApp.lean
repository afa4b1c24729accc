/- For every two data and parameters ChunkAppends returns true and leaves its arguments as they were. No condition. -/
import Derived.Test.YtcdnhnbigincpaaAppMath
import Derived.Test.YtcdnhnbigincpaaLawDiv
import Derived.Deep.RegionHeld3
import Derived.Deep.Cut
namespace Go.Proofs.Ytcdnhnbigincpaa
open Go.ChangeShapes Go.WideShapes Go.ChangeAt Go.RowKit
open Go.ChangeMaps (open_string shut_string)

set_option maxHeartbeats 4000000 in
theorem app_big (s t : ByteArray) (hs : s.size ≤ maxLen) (ht : t.size ≤ maxLen) (h : 200 < s.size ∨ (¬ 200 < s.size ∧ 200 < t.size)) (a b c d : Int) (w : World) :
    Calls Try.prog 8 #[.string s, .string t, pv a b c d] w fun e w' => e = .returned (.bool true) ∧ Below w.heap.size w w' := by
  unfold maxLen at hs ht
  have hB := (Below.refl w.heap.size w).alloc (Nat.le_refl _) (.cells #[.int .i64 a, .int .i64 b, .int .i64 c, .int .i64 d] 23)
  rcases h with h | ⟨h1, h⟩
  · have t1 : (200 : Int) < s.size := by omega
    go_enter Try.func8, Try.ntmps8
    go_wp2_with fail
    ((with_reducible refine (awake_any _).mono ?_); rintro e w2 ⟨rfl, hb2⟩)
    go_wp2
    go_ret
    exact ⟨rfl, hB.trans (hb2.mono hB.size)⟩
  · have t0 : ¬ (200 : Int) < s.size := by omega
    have t1 : (200 : Int) < t.size := by omega
    go_enter Try.func8, Try.ntmps8
    go_wp2_with fail
    ((with_reducible refine (awake_any _).mono ?_); rintro e w2 ⟨rfl, hb2⟩)
    go_wp2
    go_ret
    exact ⟨rfl, hB.trans (hb2.mono hB.size)⟩

set_option maxHeartbeats 4000000 in
theorem app_err (s t : ByteArray) (hs : s.size ≤ 200) (ht : t.size ≤ 200) (a b c d : Int) (z : Int) (hz : chkP a b c d = z) (h0 : z ≠ 0) (w : World) :
    Calls Try.prog 8 #[.string s, .string t, pv a b c d] w fun e w' => e = .returned (.bool true) ∧ Below w.heap.size w w' := by
  have hB := (Below.refl w.heap.size w).alloc (Nat.le_refl _) (.cells #[.int .i64 a, .int .i64 b, .int .i64 c, .int .i64 d] 23)
  have x0 := PBox.new w a b c d
  have c0 := x0.c0
  have c1 := x0.c1
  have c2 := x0.c2
  have c3 := x0.c3
  have t0 : ¬ (200 : Int) < s.size := by omega
  have t1 : ¬ (200 : Int) < t.size := by omega
  have hne : (z != 0) = true := by simpa using h0
  have HZ := Lib.hid hz
  clear hz
  go_enter Try.func8, Try.ntmps8
  go_wp2_with fail
  ((with_reducible refine (check_any a b c d z HZ.out _).mono ?_); rintro e w2 ⟨rfl, hb2⟩)
  have B2 := hB.trans (hb2.mono hB.size)
  clear c0 c1 c2 c3 hb2
  go_wp2_with fail
  ((with_reducible refine (awake_any _).mono ?_); rintro e w3 ⟨rfl, hb3⟩)
  go_wp2
  go_ret
  exact ⟨rfl, B2.trans (hb3.mono B2.size)⟩

theorem wrap_small (x : Int) (h1 : 0 ≤ x) (h2 : x ≤ 100000) : IntKind.i64.wrap x = x := by
  simp [IntKind.wrap, IntKind.bits, IntKind.signed]
  omega

set_option maxHeartbeats 8000000 in
theorem app_ok (s t : ByteArray) (hs : s.size ≤ 200) (ht : t.size ≤ 200) (p : Pm) (hp : p.Ok) (w : World) :
    Calls Try.prog 8 #[.string s, .string t, pv p.least p.most p.window p.bits] w fun e w' => e = .returned (.bool true) ∧ Below w.heap.size w w' := by
  have hB := (Below.refl w.heap.size w).alloc (Nat.le_refl _) (.cells #[.int .i64 p.least, .int .i64 p.most, .int .i64 p.window, .int .i64 p.bits] 23)
  have x0 := PBox.new w p.least p.most p.window p.bits
  have c0 := x0.c0
  have c1 := x0.c1
  have c2 := x0.c2
  have c3 := x0.c3
  have t0 : ¬ (200 : Int) < s.size := by omega
  have t1 : ¬ (200 : Int) < t.size := by omega
  have z1 : ¬ 9223372036854775807 < s.size + t.size := by omega
  have SA := split_ok p hp s (by omega)
  have ST := split_ok p hp (s ++ t) (by rw [ByteArray.size_append]; omega)
  have FA := fresh_ok p hp s s (by omega) (by omega)
  have FT := fresh_ok p hp s (s ++ t) (by omega) (by rw [ByteArray.size_append]; omega)
  have lenA : (pieces s 0 (ends tst p (nats s))).length ≤ 200 := by
    have := ends_len hp (nats s)
    rw [nats_length] at this
    rw [pieces_length]; omega
  have lenT : (pieces (s ++ t) 0 (ends tst p (nats (s ++ t)))).length ≤ 400 := by
    have := ends_len hp (nats (s ++ t))
    rw [nats_length, ByteArray.size_append] at this
    rw [pieces_length]; omega
  obtain ⟨LA, hA⟩ : ∃ L, pieces s 0 (ends tst p (nats s)) = L := ⟨_, rfl⟩
  obtain ⟨LT, hT⟩ : ∃ L, pieces (s ++ t) 0 (ends tst p (nats (s ++ t))) = L := ⟨_, rfl⟩
  obtain ⟨q1, q2, q3, q4, q5, q6⟩ := app_facts hp s t LA LT hA hT
  have sizA : ∀ y ∈ LA, y.size ≤ 200 := fun y hy => by
    have := piece_size _ _ y (hA ▸ hy); omega
  rw [hA] at SA FA FT lenA
  rw [hT] at ST FT lenT
  rw [q1] at FA
  obtain ⟨m, hm⟩ : ∃ m, freshN LA LT = m := ⟨_, rfl⟩
  rw [hm] at FT q4 q5 q6
  have HSA := Lib.hid SA
  have HST := Lib.hid ST
  have HFA := Lib.hid FA
  have HFT := Lib.hid FT
  have Q3 := Lib.hid q3
  have Q5 := Lib.hid q5
  have Q6 := Lib.hid q6
  have SZ := Lib.hid sizA
  have u1 : ¬ (LT.length : Int) < LA.length := by omega
  have u2 : ¬ ((s.size : Int) + (t.size : Int)) < m := by omega
  clear SA ST FA FT hA hT q1 q3 q5 q6 hm sizA
  go_enter Try.func8, Try.ntmps8
  go_wp2_with fail
  ((with_reducible refine (check_any _ _ _ _ 0 (chkP_ok hp) _).mono ?_); rintro e w1 ⟨rfl, hb1⟩)
  have B1 := hB.trans (hb1.mono hB.size)
  have x1 : PBox w1 w.heap.size p.least p.most p.window p.bits := (hb1.block _ x0.lt).trans x0
  clear c0 c1 c2 c3 hb1 hB x0
  have c0 := x1.c0
  have c1 := x1.c1
  have c2 := x1.c2
  have c3 := x1.c3
  go_wp2_with fail
  ((with_reducible refine (HFA.out _).mono ?_); rintro e w2 ⟨rfl, hb2⟩)
  have B2 := B1.trans (hb2.mono B1.size)
  have x2 : PBox w2 w.heap.size p.least p.most p.window p.bits := (hb2.block _ x1.lt).trans x1
  clear c0 c1 c2 c3 hb2 x1
  have c0 := x2.c0
  have c1 := x2.c1
  have c2 := x2.c2
  have c3 := x2.c3
  go_wp2_with fail
  ((with_reducible refine (HFT.out _).mono ?_); rintro e w3 ⟨rfl, hb3⟩)
  have B3 := B2.trans (hb3.mono B2.size)
  have x3 : PBox w3 w.heap.size p.least p.most p.window p.bits := (hb3.block _ x2.lt).trans x2
  clear c0 c1 c2 c3 hb3 x2
  have c0 := x3.c0
  have c1 := x3.c1
  have c2 := x3.c2
  have c3 := x3.c3
  go_wp2_with fail
  ((with_reducible refine (HSA.out _).mono ?_); rintro e w4 ⟨v4, rfl, d4, hb4⟩)
  have B4 := B3.trans (hb4.mono B3.size)
  have x4 : PBox w4 w.heap.size p.least p.most p.window p.bits := (hb4.block _ x3.lt).trans x3
  clear c0 c1 c2 c3 hb4 x3
  have c0 := x4.c0
  have c1 := x4.c1
  have c2 := x4.c2
  have c3 := x4.c3
  go_wp2_with fail
  ((with_reducible refine (HST.out _).mono ?_); rintro e w5 ⟨v5, rfl, d5, hb5⟩)
  have B5 := B4.trans (hb5.mono B4.size)
  have D4 := d4.below hb5 (Nat.le_refl _)
  clear c0 c1 c2 c3 hb5 x4 d4 B1 B2 B3 B4
  have D4h := Lib.hid D4
  have D5h := Lib.hid d5
  obtain ⟨aA, capA, rfl, _, hcapA, hcA⟩ := D4
  obtain ⟨aT, capT, rfl, _, hcapT, hcT⟩ := d5
  have HCA := Lib.hid hcA
  clear hcA hcT
  by_cases h0 : LA.length = 0
  · have hm6 := Q6.out h0
    have T1 := strs_to D4h.out 0 (Nat.zero_le _)
    have T2 := strs_to D5h.out 0 (Nat.zero_le _)
    have TH1 := Lib.hid T1
    have TH2 := Lib.hid T2
    clear T1 T2
    rw [List.take_zero] at TH1 TH2
    have hmt : (m : Int) ≤ (t.size : Int) := by omega
    have hw1 : IntKind.i64.wrap (t.size : Int) = (t.size : Int) := wrap_small _ (by omega) (by omega)
    have hd1 : decide ((m : Int) ≤ (t.size : Int)) = true := decide_eq_true hmt
    go_upto_region 13 with fail
    have B5d := B5.drew
    have D1 := Lib.hid (TH1.out.below (Below.refl _ _).drew (Nat.le_refl _))
    have D2 := Lib.hid (TH2.out.below (Below.refl _ _).drew (Nat.le_refl _))
    go_region_held3 (fun _ => True) (exact trivial)
      (first | (go_at_call 18; (with_reducible refine (sameS_any [] _ _ _ D1.out D2.out).mono ?_); rintro e w6 ⟨rfl, hb6⟩; have B6 := B5d.trans (hb6.mono B5d.size)) | (go_at_call 9; (with_reducible refine (awake_any _).mono ?_); rintro e w7 ⟨rfl, hb7⟩; have B7 := B6.trans (hb7.mono B6.size)))
    go_wp2
    go_ret
    exact ⟨rfl, B7⟩
  · obtain ⟨k, hk⟩ : ∃ k, LA.length - 1 = k := ⟨_, rfl⟩
    have hk1 : (LA.length : Int) - 1 = (k : Int) := by omega
    have hk2 : k < LA.length := by omega
    obtain ⟨b1, o1, rfl, hb1, hcell⟩ := HCA.out.resolve_left (by intro e; rw [e] at h0; simp at h0)
    have q := hcell k hk2
    have hm5 := Q5.out (by omega)
    have hz := SZ.out _ (List.getElem_mem hk2)
    simp only [hk] at hm5
    generalize LA[k] = y at q hm5 hz
    have T1 := strs_to D4h.out k (by omega)
    have T2 := strs_to D5h.out k (by omega)
    have q3 := Q3.out
    rw [hk] at q3
    rw [q3] at T2
    have TH1 := Lib.hid T1
    have TH2 := Lib.hid T2
    clear hcell T1 T2 q3 hk
    have hmt : (m : Int) ≤ (y.size : Int) + (t.size : Int) := by omega
    have hw1 : IntKind.i64.wrap ((y.size : Int) + (t.size : Int)) = (y.size : Int) + (t.size : Int) := wrap_small _ (by omega) (by omega)
    have hd1 : decide ((m : Int) ≤ (y.size : Int) + (t.size : Int)) = true := decide_eq_true hmt
    have hkA : (k : Int) ≤ (capA : Int) := by omega
    have hkT : (k : Int) ≤ (capT : Int) := by omega
    have hk00 : (0 : Int) ≤ (k : Int) := by omega
    by_cases hk0 : k = 0
    · subst hk0
      have hk1 : (LA.length : Int) - 1 = 0 := by omega
      rw [List.take_zero] at TH1 TH2
      rw [Nat.add_zero] at q
      go_upto_region 13 with fail
      have B5d := B5.drew
      have D1 := Lib.hid (TH1.out.below (Below.refl _ _).drew (Nat.le_refl _))
      have D2 := Lib.hid (TH2.out.below (Below.refl _ _).drew (Nat.le_refl _))
      go_region_held3 (fun _ => True) (exact trivial)
        (first | (go_at_call 18; (with_reducible refine (sameS_any [] _ _ _ D1.out D2.out).mono ?_); rintro e w6 ⟨rfl, hb6⟩; have B6 := B5d.trans (hb6.mono B5d.size)) | (go_at_call 9; (with_reducible refine (awake_any _).mono ?_); rintro e w7 ⟨rfl, hb7⟩; have B7 := B6.trans (hb7.mono B6.size)))
      go_wp2
      go_ret
      exact ⟨rfl, B7⟩
    · have hkp : (0 : Int) < (k : Int) := by omega
      go_upto_region 13 with fail
      have B5d := B5.drew
      have D1 := Lib.hid (TH1.out.below (Below.refl _ _).drew (Nat.le_refl _))
      have D2 := Lib.hid (TH2.out.below (Below.refl _ _).drew (Nat.le_refl _))
      go_region_held3 (fun _ => True) (exact trivial)
        (first | (go_at_call 18; (with_reducible refine (sameS_any (LA.take k) _ _ _ D1.out D2.out).mono ?_); rintro e w6 ⟨rfl, hb6⟩; have B6 := B5d.trans (hb6.mono B5d.size)) | (go_at_call 9; (with_reducible refine (awake_any _).mono ?_); rintro e w7 ⟨rfl, hb7⟩; have B7 := B6.trans (hb7.mono B6.size)))
      go_wp2
      go_ret
      exact ⟨rfl, B7⟩

theorem app_any (s t : ByteArray) (hs : s.size ≤ maxLen) (ht : t.size ≤ maxLen) (a b c d : Int) (w : World) :
    Calls Try.prog 8 #[.string s, .string t, pv a b c d] w fun e w' => e = .returned (.bool true) ∧ Below w.heap.size w w' := by
  by_cases h1 : 200 < s.size
  · exact app_big s t hs ht (.inl h1) a b c d w
  by_cases h2 : 200 < t.size
  · exact app_big s t hs ht (.inr ⟨h1, h2⟩) a b c d w
  by_cases h0 : chkP a b c d = 0
  · obtain ⟨p, hp, rfl, rfl, rfl, rfl⟩ := chkP_zero h0
    exact app_ok s t (by omega) (by omega) p hp w
  · exact app_err s t (by omega) (by omega) a b c d _ rfl h0 w

set_option maxRecDepth 100000 in
theorem app_lifted (os : Os) (started : os.Started) (H : Type) (enc : TypeId × Value → H) :
    ReturnsInHanded {} Try.checked os 8 .any (Rows.chunkAppendsSpec.pre6 enc Try.prog Try.f8 Rows.chunkAppendsRow.domain false) (Rows.chunkAppendsSpec.post enc Try.prog Try.f8 false true false false) := by
  refine returnsInHanded_of_change (C := Try.checked) ownK started (by kernel_rfl) Try.func8
    (ChangeSpec.witness6 (enc := enc) (C := Try.checked) false ⟨#[], #[.string ⟨#[]⟩, .string ⟨#[]⟩, pv 0 0 0 0], []⟩ 8 (by kernel_rfl) (by kernel_rfl) (by kernel_rfl) (by kernel_rfl)) ?_
  intro W base args ds gs before hval0 hW hcnd _
  have hval : ∀ (j : Nat) t v, Try.f8.params[j]? = some t → args[j]? = some v → Value.okWide Try.prog W .any base t v := hval0
  have hW' := hW
  obtain ⟨p, q, hA0, hV, rfl, hfz, hnd⟩ := hW
  have hA : DataW.TrodAll enc Try.prog W 0 (fun _ => true) true Try.f8.params.toList args.toList ds p := hA0
  rw [Try.params8] at hA hval
  obtain ⟨v0, v1, v2, d0, d1, d2, p0, p1, p2, rfl, rfl, rfl, h0, h1, h2⟩ := trodAll_three hA
  obtain ⟨rfl, rfl⟩ := trodVars_none hV
  have k2 := h2
  have lt2 : ∀ x ∈ p2, x.block < W.heap.size := by obtain ⟨m, hm⟩ := k2; exact DataW.trod_lt m _ _ _ hm
  obtain ⟨x, rfl, rfl, rfl, w0⟩ := open_string Try.underlying9 (hval 0 9 v0 rfl rfl) h0
  obtain ⟨y, rfl, rfl, rfl, w1⟩ := open_string Try.underlying9 (hval 1 9 v1 rfl rfl) h1
  obtain ⟨a, b, c, d, rfl⟩ := open_chunking (hval 2 23 v2 rfl rfl) h2
  clear hA0 hval0
  refine (app_any x y w0 w1 a b c d W).mono fun e W' ⟨he, bel⟩ => ?_
  subst he
  exact ⟨_, rfl, _, _, _, [], _, [], hW', trodAll_mk1 (shut_bool Try.underlying4 _), (trodAll_cons_mk (shut_string Try.underlying9 w0) (trodAll_cons_mk (shut_string Try.underlying9 w1) (trodAll_cons_mk (Below.trod laidOut (by kernel_rfl) (of_decide_eq_true (by kernel_rfl)) k2 bel lt2) trodAll_mk0))), rfl, bel.frame _, fun h => by cases h⟩

theorem app_holds : Rows.ChunkAppendsSaid :=
  OpenClaim.holds_of_wide 8 Try.f8 rfl rfl rfl rfl rfl rfl rfl ⟨rfl, rfl, rfl, rfl, rfl⟩ rfl rfl rfl rfl rfl (by kernel_rfl) Try.func8 (by kernel_rfl)
    (of_decide_eq_true (by kernel_rfl)) (by unfold Func.isWrapper; rw [if_neg (of_decide_eq_false (by kernel_rfl))]; exact ⟨rfl, rfl⟩)
    (fun os started H enc _ => app_lifted os started H enc)
#print axioms app_holds
end Go.Proofs.Ytcdnhnbigincpaa
