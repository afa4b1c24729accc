/- For every data, parameters and place ChunkLocal returns true and leaves its arguments as they were. No condition. -/
import Derived.Test.YtcdnhnbigincpaaLocMath
import Derived.Test.YtcdnhnbigincpaaLawDiv
import Derived.Deep.RegionHeld3
import Derived.Deep.Cut
namespace Go.Proofs.Ytcdnhnbigincpaa
open Go.ChangeShapes Go.WideShapes Go.ChangeAt Go.RowKit
open Go.ChangeMaps (open_string shut_string)

set_option maxHeartbeats 2000000 in
theorem loc_big (s : ByteArray) (hm : s.size ≤ maxLen) (h : 400 < s.size) (a b c d at' : Int) (w : World) :
    Calls Try.prog 6 #[.string s, pv a b c d, .int .u16 at'] w fun e w' => e = .returned (.bool true) ∧ Below w.heap.size w w' := by
  unfold maxLen at hm
  have hB := (Below.refl w.heap.size w).alloc (Nat.le_refl _) (.cells #[.int .i64 a, .int .i64 b, .int .i64 c, .int .i64 d] 23)
  have hp : (400 : Int) < s.size := by omega
  go_enter Try.func6, Try.ntmps6
  go_wp2_with fail
  ((with_reducible refine (awake_any _).mono ?_); rintro e w2 ⟨rfl, hb2⟩)
  go_wp2
  go_ret
  exact ⟨rfl, hB.trans (hb2.mono hB.size)⟩

set_option maxHeartbeats 2000000 in
theorem loc_err (s : ByteArray) (h : s.size ≤ 400) (a b c d at' : Int) (r : Int) (hr : chkP a b c d = r) (h0 : r ≠ 0) (w : World) :
    Calls Try.prog 6 #[.string s, pv a b c d, .int .u16 at'] w fun e w' => e = .returned (.bool true) ∧ Below w.heap.size w w' := by
  have hB := (Below.refl w.heap.size w).alloc (Nat.le_refl _) (.cells #[.int .i64 a, .int .i64 b, .int .i64 c, .int .i64 d] 23)
  have x := PBox.new w a b c d
  have c0 := x.c0
  have c1 := x.c1
  have c2 := x.c2
  have c3 := x.c3
  have hp : ¬ (400 : Int) < s.size := by omega
  have hne : (r != 0) = true := by simpa using h0
  have HA := Lib.hid (show chkA a b c d [s] = r by rw [chkA_one _ _ _ _ _ (by omega), hr])
  clear hr
  go_enter Try.func6, Try.ntmps6
  go_wp2_with fail
  ((with_reducible refine (split_err a b c d s (by omega) _ r HA.out h0).mono ?_); rintro e w1 ⟨rfl, hb1⟩)
  have B1 := hB.trans (hb1.mono hB.size)
  have x1 : PBox w1 w.heap.size a b c d := (hb1.block _ x.lt).trans x
  clear c0 c1 c2 c3 hb1 hB x
  have c0 := x1.c0
  have c1 := x1.c1
  have c2 := x1.c2
  have c3 := x1.c3
  go_wp2_with fail
  ((with_reducible refine (bounds_err a b c d s (by omega) _ r HA.out h0).mono ?_); rintro e w2 ⟨rfl, hb2⟩)
  have B2 := B1.trans (hb2.mono B1.size)
  clear c0 c1 c2 c3 hb2
  go_wp2_with fail
  ((with_reducible refine (awake_any _).mono ?_); rintro e w3 ⟨rfl, hb3⟩)
  go_wp2
  go_ret
  exact ⟨rfl, B2.trans (hb3.mono B2.size)⟩

set_option maxHeartbeats 2000000 in
theorem loc_none (s : ByteArray) (h : s.size = 0) (p : Pm) (hp : p.Ok) (at' : Int) (w : World) :
    Calls Try.prog 6 #[.string s, pv p.least p.most p.window p.bits, .int .u16 at'] w fun e w' => e = .returned (.bool true) ∧ Below w.heap.size w w' := by
  have hB := (Below.refl w.heap.size w).alloc (Nat.le_refl _) (.cells #[.int .i64 p.least, .int .i64 p.most, .int .i64 p.window, .int .i64 p.bits] 23)
  have x := PBox.new w p.least p.most p.window p.bits
  have c0 := x.c0
  have c1 := x.c1
  have c2 := x.c2
  have c3 := x.c3
  have hs4 : ¬ (400 : Int) < s.size := by omega
  have hE : ends tst p (nats s) = [] := by
    have := List.eq_nil_of_length_eq_zero (l := nats s) (by rw [nats_length]; exact h)
    rw [this, ends_nil]
  go_enter Try.func6, Try.ntmps6
  go_wp2_with fail
  ((with_reducible refine (split_ok p hp s (by omega) _).mono ?_); rintro e w1 ⟨v1, rfl, d1, hb1⟩)
  rw [hE] at d1
  obtain ⟨a1, cap1, rfl, _, _, _⟩ := d1
  have B1 := hB.trans (hb1.mono hB.size)
  have x1 : PBox w1 w.heap.size p.least p.most p.window p.bits := (hb1.block _ x.lt).trans x
  clear c0 c1 c2 c3 hb1 hB x
  have c0 := x1.c0
  have c1 := x1.c1
  have c2 := x1.c2
  have c3 := x1.c3
  have hl : (pieces s 0 []).length = 0 := rfl
  rw [hl]
  go_wp2_with fail
  ((with_reducible refine (bounds_ok p hp s (by omega) _).mono ?_); rintro e w2 ⟨v2, rfl, d2, hb2⟩)
  have B2 := B1.trans (hb2.mono B1.size)
  clear c0 c1 c2 c3 hb2 hE
  go_wp2_with fail
  ((with_reducible refine (awake_any _).mono ?_); rintro e w3 ⟨rfl, hb3⟩)
  go_wp2
  go_ret
  exact ⟨rfl, B2.trans (hb3.mono B2.size)⟩

set_option maxHeartbeats 8000000 in
theorem loc_ok (s : ByteArray) (h : s.size ≤ 400) (h0 : 0 < s.size) (p : Pm) (hp : p.Ok) (at' : Nat) (hat : at' < 65536) (w : World) :
    Calls Try.prog 6 #[.string s, pv p.least p.most p.window p.bits, .int .u16 at'] w fun e w' => e = .returned (.bool true) ∧ Below w.heap.size w w' := by
  have hB := (Below.refl w.heap.size w).alloc (Nat.le_refl _) (.cells #[.int .i64 p.least, .int .i64 p.most, .int .i64 p.window, .int .i64 p.bits] 23)
  have x := PBox.new w p.least p.most p.window p.bits
  have c0 := x.c0
  have c1 := x.c1
  have c2 := x.c2
  have c3 := x.c3
  have hs4 : ¬ (400 : Int) < s.size := by omega
  have g := ends_good (tst := tst) hp (nats s)
  have gl := ends_len hp (nats s)
  have gp := ends_pos hp (nats s) (by rw [nats_length]; exact h0)
  have AT := fun E hE k hk => pieces_to_end hp s E hE k hk
  have AF := fun E hE k hk => pieces_from_end hp s E hE k hk
  rw [nats_length] at g gl
  obtain ⟨E, hE⟩ : ∃ E, ends tst p (nats s) = E := ⟨_, rfl⟩
  have hpl : (pieces s 0 E).length = E.length := pieces_length _ _ _
  obtain ⟨k, hk⟩ : ∃ k, at' % E.length = k := ⟨_, rfl⟩
  rw [hE] at g gl gp
  have hkl : k < E.length := by rw [← hk]; exact Nat.mod_lt _ gp
  have hkt : (at' : Int).tmod (E.length : Int) = (k : Int) := by rw [← hk]; exact (Int.ofNat_tmod at' E.length).symm
  obtain ⟨_, g2, _, _, _⟩ := good_mid E 0 g k hkl
  have hez : ((s.extract 0 E[k]).size ≤ 65536) := by simp [ByteArray.size_extract]; omega
  have hez2 : ((s.extract E[k] s.size).size ≤ 65536) := by simp [ByteArray.size_extract]; omega
  have SA := split_ok p hp (s.extract 0 E[k]) hez
  have SF := split_ok p hp (s.extract E[k] s.size) hez2
  rw [AT E hE k hkl] at SA
  rw [AF E hE k hkl] at SF
  obtain ⟨L, hL⟩ : ∃ L, pieces s 0 E = L := ⟨_, rfl⟩
  obtain ⟨x0, hx0⟩ : ∃ x0, E[k] = x0 := ⟨_, rfl⟩
  rw [hL] at SA SF hpl
  rw [hx0] at SA SF g2
  have HSA := Lib.hid SA
  have HSF := Lib.hid SF
  have HE := Lib.hid hE
  have HL := Lib.hid hL
  have HX := Lib.hid hx0
  have HKT := Lib.hid hkt
  have HPL := Lib.hid hpl
  clear hE g AT AF hez hez2 SA SF hL hx0 hk hkt hpl
  have pM := hp.m
  go_enter Try.func6, Try.ntmps6
  go_wp2_with fail
  ((with_reducible refine (split_ok p hp s (by omega) _).mono ?_); rintro e w1 ⟨v1, rfl, d1, hb1⟩)
  rw [HE.out, HL.out] at d1
  have d1h := Lib.hid d1
  have B1 := hB.trans (hb1.mono hB.size)
  have x1 : PBox w1 w.heap.size p.least p.most p.window p.bits := (hb1.block _ x.lt).trans x
  obtain ⟨a1, cap1, rfl, _, hcap1, hcc⟩ := d1
  have hL0 : L ≠ [] := by intro e; have := HPL.out; rw [e] at this; simp at this; omega
  obtain ⟨b1, o1, rfl, _, _⟩ := hcc.resolve_left hL0
  rw [HPL.out] at hcap1 ⊢
  clear c0 c1 c2 c3 hb1 hB x hcc hL0
  have c0 := x1.c0
  have c1 := x1.c1
  have c2 := x1.c2
  have c3 := x1.c3
  go_wp2_with fail
  ((with_reducible refine (bounds_ok p hp s (by omega) _).mono ?_); rintro e w2 ⟨v2, rfl, d2, hb2⟩)
  rw [HE.out] at d2
  have B2 := B1.trans (hb2.mono B1.size)
  have d1h2 := Lib.hid (d1h.out.below hb2 (Nat.le_refl _))
  have x2 : PBox w2 w.heap.size p.least p.most p.window p.bits := (hb2.block _ x1.lt).trans x1
  obtain ⟨a2, cap2, rfl, _, hcap2, hcc⟩ := d2
  obtain ⟨b2, o2, rfl, hb2lt, hcell⟩ := hcc.resolve_left (by intro e; rw [e] at gp; simp at gp)
  have q := hcell k hkl
  rw [HX.out] at q
  have Q := Lib.hid q
  clear c0 c1 c2 c3 hb2 x1 hcc hcell d1h q B1
  have q := Q.out
  have hkt := HKT.out
  go_upto_region 12 with fail
  clear hkt q
  have s5 : w2.drew.cell? ⟨w.heap.size, 0, none⟩ = some (.int .i64 p.least) ∧ w2.drew.cell? ⟨w.heap.size, 1, none⟩ = some (.int .i64 p.most) ∧ w2.drew.cell? ⟨w.heap.size, 2, none⟩ = some (.int .i64 p.window) ∧ w2.drew.cell? ⟨w.heap.size, 3, none⟩ = some (.int .i64 p.bits) ∧ w2.drew.cell? ⟨b2, o2 + k, none⟩ = some (.int .i64 (x0 : Int)) := ⟨x2.c0, x2.c1, x2.c2, x2.c3, Q.out⟩
  have Bd := B2.drew
  go_region_held3 (fun V => V.cell? ⟨w.heap.size, 0, none⟩ = some (.int .i64 p.least) ∧ V.cell? ⟨w.heap.size, 1, none⟩ = some (.int .i64 p.most) ∧ V.cell? ⟨w.heap.size, 2, none⟩ = some (.int .i64 p.window) ∧ V.cell? ⟨w.heap.size, 3, none⟩ = some (.int .i64 p.bits) ∧ V.cell? ⟨b2, o2 + k, none⟩ = some (.int .i64 (x0 : Int))) (first | with_reducible exact s5 | with_reducible exact hh)
    ((go_at_call 10; (with_reducible refine (HSA.out _).mono ?_); rintro e w7 ⟨v7, rfl, d7, hb7⟩; have x7 : PBox w7 w.heap.size p.least p.most p.window p.bits := (hb7.block _ x2.lt).trans x2; have Q7 := Lib.hid ((hb7.cell (p := ⟨b2, o2 + k, none⟩) hb2lt).trans Q.out); have hh := (show w7.cell? ⟨w.heap.size, 0, none⟩ = some (.int .i64 p.least) ∧ w7.cell? ⟨w.heap.size, 1, none⟩ = some (.int .i64 p.most) ∧ w7.cell? ⟨w.heap.size, 2, none⟩ = some (.int .i64 p.window) ∧ w7.cell? ⟨w.heap.size, 3, none⟩ = some (.int .i64 p.bits) ∧ w7.cell? ⟨b2, o2 + k, none⟩ = some (.int .i64 (x0 : Int)) from ⟨x7.c0, x7.c1, x7.c2, x7.c3, Q7.out⟩); have B7 := Bd.trans (hb7.mono Bd.size); have d1h7 := Lib.hid ((d1h2.out.below (Below.refl _ _).drew (Nat.le_refl _)).below hb7 (Nat.le_refl _)); have lt7 : b2 < w7.heap.size := Nat.lt_of_lt_of_le hb2lt hb7.size))
  clear hh s5
  go_upto_region 13 with fail
  have s6 : w7.drew.cell? ⟨w.heap.size, 0, none⟩ = some (.int .i64 p.least) ∧ w7.drew.cell? ⟨w.heap.size, 1, none⟩ = some (.int .i64 p.most) ∧ w7.drew.cell? ⟨w.heap.size, 2, none⟩ = some (.int .i64 p.window) ∧ w7.drew.cell? ⟨w.heap.size, 3, none⟩ = some (.int .i64 p.bits) ∧ w7.drew.cell? ⟨b2, o2 + k, none⟩ = some (.int .i64 (x0 : Int)) := ⟨x7.c0, x7.c1, x7.c2, x7.c3, Q7.out⟩
  have Bd7 := B7.drew
  have D7 := Lib.hid (d7.below (Below.refl _ _).drew (Nat.le_refl _))
  go_region_held3 (fun V => V.cell? ⟨w.heap.size, 0, none⟩ = some (.int .i64 p.least) ∧ V.cell? ⟨w.heap.size, 1, none⟩ = some (.int .i64 p.most) ∧ V.cell? ⟨w.heap.size, 2, none⟩ = some (.int .i64 p.window) ∧ V.cell? ⟨w.heap.size, 3, none⟩ = some (.int .i64 p.bits) ∧ V.cell? ⟨b2, o2 + k, none⟩ = some (.int .i64 (x0 : Int))) (first | with_reducible exact s6 | with_reducible exact hh)
    ((go_at_call 10; (with_reducible refine (HSF.out _).mono ?_); rintro e w8 ⟨v8, rfl, d8, hb8⟩; have x8 : PBox w8 w.heap.size p.least p.most p.window p.bits := (hb8.block _ x7.lt).trans x7; have Q8 := Lib.hid ((hb8.cell (p := ⟨b2, o2 + k, none⟩) lt7).trans Q7.out); have hh := (show w8.cell? ⟨w.heap.size, 0, none⟩ = some (.int .i64 p.least) ∧ w8.cell? ⟨w.heap.size, 1, none⟩ = some (.int .i64 p.most) ∧ w8.cell? ⟨w.heap.size, 2, none⟩ = some (.int .i64 p.window) ∧ w8.cell? ⟨w.heap.size, 3, none⟩ = some (.int .i64 p.bits) ∧ w8.cell? ⟨b2, o2 + k, none⟩ = some (.int .i64 (x0 : Int)) from ⟨x8.c0, x8.c1, x8.c2, x8.c3, Q8.out⟩); have B8 := Bd7.trans (hb8.mono Bd7.size); have d1h8 := Lib.hid ((d1h7.out.below (Below.refl _ _).drew (Nat.le_refl _)).below hb8 (Nat.le_refl _)); have D8 := Lib.hid (D7.out.below hb8 (Nat.le_refl _))))
  clear hh s6
  have D9 := Lib.hid d8
  have T1 := strs_to d1h8.out (k + 1) (by rw [HPL.out]; omega)
  have F1 := fun (b off : Nat) (hh : IsStrs w8 (.slice (some ⟨b, off, none⟩) L.length cap1) L) => strs_from hh (k + 1) (by rw [HPL.out]; omega)
  have F2 := F1 b1 o1 d1h8.out
  rw [HPL.out] at F2
  have T1h := Lib.hid T1
  have F2h := Lib.hid F2
  clear T1 F1 F2 d8
  by_cases hcap : cap1 = k + 1
  · subst hcap
    have hEk : E.length = k + 1 := by omega
    go_wp2_with fail
    ((with_reducible refine (sameS_any (L.take (k + 1)) _ _ _ D8.out T1h.out).mono ?_); rintro e w9 ⟨rfl, hb9⟩)
    have B9 := B8.trans (hb9.mono B8.size)
    have hd : L.drop (k + 1) = [] := List.drop_of_length_le (by rw [HPL.out]; omega)
    have D10 := D9.out.below hb9 (Nat.le_refl _)
    rw [hd] at D10
    go_wp2_with fail
    ((with_reducible refine (sameS_any [] _ _ _ D10 (strs_none _ _ _)).mono ?_); rintro e w10 ⟨rfl, hb10⟩)
    have B10 := B9.trans (hb10.mono B9.size)
    go_wp2_with fail
    ((with_reducible refine (awake_any _).mono ?_); rintro e w11 ⟨rfl, hb11⟩)
    go_wp2
    go_ret
    exact ⟨rfl, B10.trans (hb11.mono B10.size)⟩
  · go_wp2_with fail
    ((with_reducible refine (sameS_any (L.take (k + 1)) _ _ _ D8.out T1h.out).mono ?_); rintro e w9 ⟨rfl, hb9⟩)
    have B9 := B8.trans (hb9.mono B8.size)
    have D10 := Lib.hid (D9.out.below hb9 (Nat.le_refl _))
    have F10 := Lib.hid (F2h.out.below hb9 (Nat.le_refl _))
    go_wp2_with fail
    ((with_reducible refine (sameS_any (L.drop (k + 1)) _ _ _ D10.out F10.out).mono ?_); rintro e w10 ⟨rfl, hb10⟩)
    have B10 := B9.trans (hb10.mono B9.size)
    go_wp2_with fail
    ((with_reducible refine (awake_any _).mono ?_); rintro e w11 ⟨rfl, hb11⟩)
    go_wp2
    go_ret
    exact ⟨rfl, B10.trans (hb11.mono B10.size)⟩

theorem loc_any (s : ByteArray) (hm : s.size ≤ maxLen) (a b c d : Int) (at' : Nat) (hat : at' < 65536) (w : World) :
    Calls Try.prog 6 #[.string s, pv a b c d, .int .u16 at'] w fun e w' => e = .returned (.bool true) ∧ Below w.heap.size w w' := by
  by_cases h : 400 < s.size
  · exact loc_big s hm h a b c d at' w
  by_cases h0 : chkP a b c d = 0
  · obtain ⟨p, hp, rfl, rfl, rfl, rfl⟩ := chkP_zero h0
    by_cases h1 : s.size = 0
    · exact loc_none s h1 p hp at' w
    · exact loc_ok s (by omega) (by omega) p hp at' hat w
  · exact loc_err s (by omega) a b c d at' _ rfl h0 w

theorem u16_in {n : Int} (h : (Lit.int .u16 n).wf = true) : 0 ≤ n ∧ n < 65536 := by
  simp [Lit.wf, IntKind.min, IntKind.max, IntKind.bits, IntKind.signed] at h
  omega

set_option maxRecDepth 100000 in
theorem loc_lifted (os : Os) (started : os.Started) (H : Type) (enc : TypeId × Value → H) :
    ReturnsInHanded {} Try.checked os 6 .any (Rows.chunkLocalSpec.pre6 enc Try.prog Try.f6 Rows.chunkLocalRow.domain false) (Rows.chunkLocalSpec.post enc Try.prog Try.f6 false true false false) := by
  refine returnsInHanded_of_change (C := Try.checked) ownK started (by kernel_rfl) Try.func6
    (ChangeSpec.witness6 (enc := enc) (C := Try.checked) false ⟨#[], #[.string ⟨#[]⟩, pv 0 0 0 0, .int .u16 0], []⟩ 8 (by kernel_rfl) (by kernel_rfl) (by kernel_rfl) (by kernel_rfl)) ?_
  intro W base args ds gs before hval0 hW hcnd _
  have hval : ∀ (j : Nat) t v, Try.f6.params[j]? = some t → args[j]? = some v → Value.okWide Try.prog W .any base t v := hval0
  have hW' := hW
  obtain ⟨p, q, hA0, hV, rfl, hfz, hnd⟩ := hW
  have hA : DataW.TrodAll enc Try.prog W 0 (fun _ => true) true Try.f6.params.toList args.toList ds p := hA0
  rw [Try.params6] at hA hval
  obtain ⟨v0, v1, v2, d0, d1, d2, p0, p1, p2, rfl, rfl, rfl, h0, h1, h2⟩ := trodAll_three hA
  obtain ⟨rfl, rfl⟩ := trodVars_none hV
  have k1 := h1
  have lt1 : ∀ x ∈ p1, x.block < W.heap.size := by obtain ⟨m, hm⟩ := k1; exact DataW.trod_lt m _ _ _ hm
  obtain ⟨s, rfl, rfl, rfl, w0⟩ := open_string Try.underlying9 (hval 0 9 v0 rfl rfl) h0
  obtain ⟨a, b, c, d, rfl⟩ := open_chunking (hval 1 23 v1 rfl rfl) h1
  obtain ⟨z2, rfl, rfl, rfl, w2⟩ := open_int Try.underlying43 (hval 2 43 v2 rfl rfl) h2
  have b2 := u16_in w2
  obtain ⟨n, rfl⟩ := Int.eq_ofNat_of_zero_le b2.1
  clear hA0 hval0
  refine (loc_any s w0 a b c d n (by omega) W).mono fun e W' ⟨he, bel⟩ => ?_
  subst he
  exact ⟨_, rfl, _, _, _, [], _, [], hW', trodAll_mk1 (shut_bool Try.underlying4 _), (trodAll_cons_mk (shut_string Try.underlying9 w0) (trodAll_cons_mk (Below.trod laidOut (by kernel_rfl) (of_decide_eq_true (by kernel_rfl)) k1 bel lt1) (trodAll_cons_mk (shut_int Try.underlying43 w2) trodAll_mk0))), rfl, bel.frame _, fun h => by cases h⟩

theorem loc_holds : Rows.ChunkLocalSaid :=
  OpenClaim.holds_of_wide 6 Try.f6 rfl rfl rfl rfl rfl rfl rfl ⟨rfl, rfl, rfl, rfl, rfl⟩ rfl rfl rfl rfl rfl (by kernel_rfl) Try.func6 (by kernel_rfl)
    (of_decide_eq_true (by kernel_rfl)) (by unfold Func.isWrapper; rw [if_neg (of_decide_eq_false (by kernel_rfl))]; exact ⟨rfl, rfl⟩)
    (fun os started H enc _ => loc_lifted os started H enc)
#print axioms loc_holds
end Go.Proofs.Ytcdnhnbigincpaa
