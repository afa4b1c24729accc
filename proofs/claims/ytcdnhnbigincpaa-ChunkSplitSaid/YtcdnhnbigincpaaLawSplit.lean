/- For every data and parameters ChunkSplit returns true and leaves its arguments as they were: Check, Bounds, Split and Manifest answer as the reference's. No condition. -/
import Derived.Test.YtcdnhnbigincpaaManifest
import Derived.Test.YtcdnhnbigincpaaRef4
import Derived.Test.YtcdnhnbigincpaaLawDiv
namespace Go.Proofs.Ytcdnhnbigincpaa
open Go.ChangeShapes Go.WideShapes Go.ChangeAt Go.RowKit
open Go.ChangeMaps (open_string shut_string)

set_option maxHeartbeats 2000000 in
theorem splitLaw_big (s : ByteArray) (hm : s.size ≤ maxLen) (h : 200 < s.size) (a b c d : Int) (w : World) :
    Calls Try.prog 3 #[.string s, pv a b c d] w fun e w' => e = .returned (.bool true) ∧ Below w.heap.size w w' := by
  unfold maxLen at hm
  have hB := (Below.refl w.heap.size w).alloc (Nat.le_refl _) (.cells #[.int .i64 a, .int .i64 b, .int .i64 c, .int .i64 d] 23)
  have hp : (200 : Int) < s.size := by omega
  go_enter Try.func3, Try.ntmps3
  go_wp2_with fail
  ((with_reducible refine (awake_any _).mono ?_); rintro e w2 ⟨rfl, hb2⟩)
  go_wp2
  go_ret
  exact ⟨rfl, hB.trans (hb2.mono hB.size)⟩

set_option maxHeartbeats 8000000 in
theorem splitLaw_main (s : ByteArray) (hs : s.size ≤ 200) (a b c d z : Int) (w : World) (L : List ByteArray) (E : List Nat) (G : List (Int × Int))
    (C10 : ∀ W, Below w.heap.size w W → Calls Try.prog 10 #[.string s, pv a b c d] W fun e w' => ∃ v, e = .returned (.tuple #[v, .int .i64 z]) ∧ IsStrs w' v L ∧ Below W.heap.size W w')
    (C11 : ∀ W, Below w.heap.size w W → Calls Try.prog 11 #[.string s, pv a b c d] W fun e w' => ∃ v, e = .returned (.tuple #[v, .int .i64 z]) ∧ IsStrs w' v L ∧ Below W.heap.size W w')
    (C12 : ∀ W, Below w.heap.size w W → Calls Try.prog 12 #[.string s, pv a b c d] W fun e w' => ∃ v, e = .returned (.tuple #[v, .int .i64 z]) ∧ IsNats w' v E ∧ Below W.heap.size W w')
    (C13 : ∀ W, Below w.heap.size w W → Calls Try.prog 13 #[.string s, pv a b c d] W fun e w' => ∃ v, e = .returned (.tuple #[v, .int .i64 z]) ∧ IsNats w' v E ∧ Below W.heap.size W w')
    (C14 : ∀ W, Below w.heap.size w W → Calls Try.prog 14 #[.string s, pv a b c d] W fun e w' => ∃ v, e = .returned (.tuple #[v, .int .i64 z]) ∧ IsDigs w' v G ∧ Below W.heap.size W w')
    (C15 : ∀ W, Below w.heap.size w W → Calls Try.prog 15 #[.string s, pv a b c d] W fun e w' => ∃ v, e = .returned (.tuple #[v, .int .i64 z]) ∧ IsDigs w' v G ∧ Below W.heap.size W w')
    (C16 : ∀ W, Below w.heap.size w W → Calls Try.prog 16 #[pv a b c d] W fun e w' => e = .returned (.int .i64 z) ∧ Below W.heap.size W w')
    (C17 : ∀ W, Below w.heap.size w W → Calls Try.prog 17 #[pv a b c d] W fun e w' => e = .returned (.int .i64 z) ∧ Below W.heap.size W w') :
    Calls Try.prog 3 #[.string s, pv a b c d] w fun e w' => e = .returned (.bool true) ∧ Below w.heap.size w w' := by
  have hB := (Below.refl w.heap.size w).alloc (Nat.le_refl _) (.cells #[.int .i64 a, .int .i64 b, .int .i64 c, .int .i64 d] 23)
  have x0 := PBox.new w a b c d
  have hp : ¬ (200 : Int) < s.size := by omega
  have H10 := Lib.hid C10
  have H11 := Lib.hid C11
  have H12 := Lib.hid C12
  have H13 := Lib.hid C13
  have H14 := Lib.hid C14
  have H15 := Lib.hid C15
  have H16 := Lib.hid C16
  have H17 := Lib.hid C17
  clear C10 C11 C12 C13 C14 C15 C16 C17
  have c0 := x0.c0
  have c1 := x0.c1
  have c2 := x0.c2
  have c3 := x0.c3
  go_enter Try.func3, Try.ntmps3
  go_wp2_with fail
  ((with_reducible refine (H10.out _ hB).mono ?_); rintro e w1 ⟨v1, rfl, d1, hb1⟩)
  have B1 := hB.trans (hb1.mono hB.size)
  have x1 : PBox w1 w.heap.size a b c d := (hb1.block _ x0.lt).trans x0
  have D1_1 := Lib.hid d1
  clear c0 c1 c2 c3 hb1 d1  x0
  have c0 := x1.c0
  have c1 := x1.c1
  have c2 := x1.c2
  have c3 := x1.c3
  go_wp2_with fail
  ((with_reducible refine (H11.out _ B1).mono ?_); rintro e w2 ⟨v2, rfl, d2, hb2⟩)
  have B2 := B1.trans (hb2.mono B1.size)
  have x2 : PBox w2 w.heap.size a b c d := (hb2.block _ x1.lt).trans x1
  have D1_2 := Lib.hid (D1_1.out.below hb2 (Nat.le_refl _))
  have D2_2 := Lib.hid d2
  clear c0 c1 c2 c3 hb2 d2 D1_1 x1
  have c0 := x2.c0
  have c1 := x2.c1
  have c2 := x2.c2
  have c3 := x2.c3
  go_wp2_with fail
  ((with_reducible refine (H12.out _ B2).mono ?_); rintro e w3 ⟨v3, rfl, d3, hb3⟩)
  have B3 := B2.trans (hb3.mono B2.size)
  have x3 : PBox w3 w.heap.size a b c d := (hb3.block _ x2.lt).trans x2
  have D1_3 := Lib.hid (D1_2.out.below hb3 (Nat.le_refl _))
  have D2_3 := Lib.hid (D2_2.out.below hb3 (Nat.le_refl _))
  have D3_3 := Lib.hid d3
  clear c0 c1 c2 c3 hb3 d3 D1_2 D2_2 x2
  have c0 := x3.c0
  have c1 := x3.c1
  have c2 := x3.c2
  have c3 := x3.c3
  go_wp2_with fail
  ((with_reducible refine (H13.out _ B3).mono ?_); rintro e w4 ⟨v4, rfl, d4, hb4⟩)
  have B4 := B3.trans (hb4.mono B3.size)
  have x4 : PBox w4 w.heap.size a b c d := (hb4.block _ x3.lt).trans x3
  have D1_4 := Lib.hid (D1_3.out.below hb4 (Nat.le_refl _))
  have D2_4 := Lib.hid (D2_3.out.below hb4 (Nat.le_refl _))
  have D3_4 := Lib.hid (D3_3.out.below hb4 (Nat.le_refl _))
  have D4_4 := Lib.hid d4
  clear c0 c1 c2 c3 hb4 d4 D1_3 D2_3 D3_3 x3
  have c0 := x4.c0
  have c1 := x4.c1
  have c2 := x4.c2
  have c3 := x4.c3
  go_wp2_with fail
  ((with_reducible refine (H14.out _ B4).mono ?_); rintro e w5 ⟨v5, rfl, d5, hb5⟩)
  have B5 := B4.trans (hb5.mono B4.size)
  have x5 : PBox w5 w.heap.size a b c d := (hb5.block _ x4.lt).trans x4
  have D1_5 := Lib.hid (D1_4.out.below hb5 (Nat.le_refl _))
  have D2_5 := Lib.hid (D2_4.out.below hb5 (Nat.le_refl _))
  have D3_5 := Lib.hid (D3_4.out.below hb5 (Nat.le_refl _))
  have D4_5 := Lib.hid (D4_4.out.below hb5 (Nat.le_refl _))
  have D5_5 := Lib.hid d5
  clear c0 c1 c2 c3 hb5 d5 D1_4 D2_4 D3_4 D4_4 x4
  have c0 := x5.c0
  have c1 := x5.c1
  have c2 := x5.c2
  have c3 := x5.c3
  go_wp2_with fail
  ((with_reducible refine (H15.out _ B5).mono ?_); rintro e w6 ⟨v6, rfl, d6, hb6⟩)
  have B6 := B5.trans (hb6.mono B5.size)
  have x6 : PBox w6 w.heap.size a b c d := (hb6.block _ x5.lt).trans x5
  have D1_6 := Lib.hid (D1_5.out.below hb6 (Nat.le_refl _))
  have D2_6 := Lib.hid (D2_5.out.below hb6 (Nat.le_refl _))
  have D3_6 := Lib.hid (D3_5.out.below hb6 (Nat.le_refl _))
  have D4_6 := Lib.hid (D4_5.out.below hb6 (Nat.le_refl _))
  have D5_6 := Lib.hid (D5_5.out.below hb6 (Nat.le_refl _))
  have D6_6 := Lib.hid d6
  clear c0 c1 c2 c3 hb6 d6 D1_5 D2_5 D3_5 D4_5 D5_5 x5
  go_upto_region 9 with fail
  have s4 : w6.drew.cell? ⟨w.heap.size, 0, none⟩ = some (.int .i64 a) ∧ w6.drew.cell? ⟨w.heap.size, 1, none⟩ = some (.int .i64 b) ∧ w6.drew.cell? ⟨w.heap.size, 2, none⟩ = some (.int .i64 c) ∧ w6.drew.cell? ⟨w.heap.size, 3, none⟩ = some (.int .i64 d) := ⟨x6.c0, x6.c1, x6.c2, x6.c3⟩
  have xd : PBox w6.drew w.heap.size a b c d := x6
  have Bd := B6.drew
  have E1 := Lib.hid (D1_6.out.below (Below.refl _ _).drew (Nat.le_refl _))
  have E2 := Lib.hid (D2_6.out.below (Below.refl _ _).drew (Nat.le_refl _))
  have E3 := Lib.hid (D3_6.out.below (Below.refl _ _).drew (Nat.le_refl _))
  have E4 := Lib.hid (D4_6.out.below (Below.refl _ _).drew (Nat.le_refl _))
  have E5 := Lib.hid (D5_6.out.below (Below.refl _ _).drew (Nat.le_refl _))
  have E6 := Lib.hid (D6_6.out.below (Below.refl _ _).drew (Nat.le_refl _))
  clear D1_6 D2_6 D3_6 D4_6 D5_6 D6_6
  go_region_held3 (fun V => V.cell? ⟨w.heap.size, 0, none⟩ = some (.int .i64 a) ∧ V.cell? ⟨w.heap.size, 1, none⟩ = some (.int .i64 b) ∧ V.cell? ⟨w.heap.size, 2, none⟩ = some (.int .i64 c) ∧ V.cell? ⟨w.heap.size, 3, none⟩ = some (.int .i64 d)) (first | with_reducible exact s4 | with_reducible exact hh)
    (first | (go_at_call 16; (with_reducible refine (H16.out _ Bd).mono ?_); rintro e u1 ⟨rfl, hc1⟩; have y1 : PBox u1 w.heap.size a b c d := (hc1.block _ xd.lt).trans xd; have hh := (show u1.cell? ⟨w.heap.size, 0, none⟩ = some (.int .i64 a) ∧ u1.cell? ⟨w.heap.size, 1, none⟩ = some (.int .i64 b) ∧ u1.cell? ⟨w.heap.size, 2, none⟩ = some (.int .i64 c) ∧ u1.cell? ⟨w.heap.size, 3, none⟩ = some (.int .i64 d) from ⟨y1.c0, y1.c1, y1.c2, y1.c3⟩); have F1 := Bd.trans (hc1.mono Bd.size); have E1 := Lib.hid (E1.out.below hc1 (Nat.le_refl _)); have E2 := Lib.hid (E2.out.below hc1 (Nat.le_refl _)); have E3 := Lib.hid (E3.out.below hc1 (Nat.le_refl _)); have E4 := Lib.hid (E4.out.below hc1 (Nat.le_refl _)); have E5 := Lib.hid (E5.out.below hc1 (Nat.le_refl _)); have E6 := Lib.hid (E6.out.below hc1 (Nat.le_refl _)); clear hc1) | (go_at_call 17; (with_reducible refine (H17.out _ F1).mono ?_); rintro e u2 ⟨rfl, hc2⟩; have y2 : PBox u2 w.heap.size a b c d := (hc2.block _ y1.lt).trans y1; have hh := (show u2.cell? ⟨w.heap.size, 0, none⟩ = some (.int .i64 a) ∧ u2.cell? ⟨w.heap.size, 1, none⟩ = some (.int .i64 b) ∧ u2.cell? ⟨w.heap.size, 2, none⟩ = some (.int .i64 c) ∧ u2.cell? ⟨w.heap.size, 3, none⟩ = some (.int .i64 d) from ⟨y2.c0, y2.c1, y2.c2, y2.c3⟩); have F2 := F1.trans (hc2.mono F1.size); have E1 := Lib.hid (E1.out.below hc2 (Nat.le_refl _)); have E2 := Lib.hid (E2.out.below hc2 (Nat.le_refl _)); have E3 := Lib.hid (E3.out.below hc2 (Nat.le_refl _)); have E4 := Lib.hid (E4.out.below hc2 (Nat.le_refl _)); have E5 := Lib.hid (E5.out.below hc2 (Nat.le_refl _)); have E6 := Lib.hid (E6.out.below hc2 (Nat.le_refl _)); clear hc2) | (go_at_call 18; (with_reducible refine (sameS_any L _ _ _ E1.out E2.out).mono ?_); rintro e u3 ⟨rfl, hc3⟩; have y3 : PBox u3 w.heap.size a b c d := (hc3.block _ y2.lt).trans y2; have hh := (show u3.cell? ⟨w.heap.size, 0, none⟩ = some (.int .i64 a) ∧ u3.cell? ⟨w.heap.size, 1, none⟩ = some (.int .i64 b) ∧ u3.cell? ⟨w.heap.size, 2, none⟩ = some (.int .i64 c) ∧ u3.cell? ⟨w.heap.size, 3, none⟩ = some (.int .i64 d) from ⟨y3.c0, y3.c1, y3.c2, y3.c3⟩); have F3 := F2.trans (hc3.mono F2.size); have E3 := Lib.hid (E3.out.below hc3 (Nat.le_refl _)); have E4 := Lib.hid (E4.out.below hc3 (Nat.le_refl _)); have E5 := Lib.hid (E5.out.below hc3 (Nat.le_refl _)); have E6 := Lib.hid (E6.out.below hc3 (Nat.le_refl _)); clear hc3) | (go_at_call 19; (with_reducible refine (sameN_any E _ _ _ E3.out E4.out).mono ?_); rintro e u4 ⟨rfl, hc4⟩; have y4 : PBox u4 w.heap.size a b c d := (hc4.block _ y3.lt).trans y3; have hh := (show u4.cell? ⟨w.heap.size, 0, none⟩ = some (.int .i64 a) ∧ u4.cell? ⟨w.heap.size, 1, none⟩ = some (.int .i64 b) ∧ u4.cell? ⟨w.heap.size, 2, none⟩ = some (.int .i64 c) ∧ u4.cell? ⟨w.heap.size, 3, none⟩ = some (.int .i64 d) from ⟨y4.c0, y4.c1, y4.c2, y4.c3⟩); have F4 := F3.trans (hc4.mono F3.size); have E5 := Lib.hid (E5.out.below hc4 (Nat.le_refl _)); have E6 := Lib.hid (E6.out.below hc4 (Nat.le_refl _)); clear hc4) | (go_at_call 20; (with_reducible refine (sameD_any G _ _ _ E5.out E6.out).mono ?_); rintro e u5 ⟨rfl, hc5⟩; have y5 : PBox u5 w.heap.size a b c d := (hc5.block _ y4.lt).trans y4; have hh := (show u5.cell? ⟨w.heap.size, 0, none⟩ = some (.int .i64 a) ∧ u5.cell? ⟨w.heap.size, 1, none⟩ = some (.int .i64 b) ∧ u5.cell? ⟨w.heap.size, 2, none⟩ = some (.int .i64 c) ∧ u5.cell? ⟨w.heap.size, 3, none⟩ = some (.int .i64 d) from ⟨y5.c0, y5.c1, y5.c2, y5.c3⟩); have F5 := F4.trans (hc5.mono F4.size); clear hc5) | (go_at_call 9; (with_reducible refine (awake_any _).mono ?_); rintro e u6 ⟨rfl, hc6⟩; have y6 : PBox u6 w.heap.size a b c d := (hc6.block _ y5.lt).trans y5; have hh := (show u6.cell? ⟨w.heap.size, 0, none⟩ = some (.int .i64 a) ∧ u6.cell? ⟨w.heap.size, 1, none⟩ = some (.int .i64 b) ∧ u6.cell? ⟨w.heap.size, 2, none⟩ = some (.int .i64 c) ∧ u6.cell? ⟨w.heap.size, 3, none⟩ = some (.int .i64 d) from ⟨y6.c0, y6.c1, y6.c2, y6.c3⟩); have F6 := F5.trans (hc6.mono F5.size); clear hc6))
  go_wp2
  go_ret
  exact ⟨rfl, F6⟩

theorem splitLaw_any (s : ByteArray) (hm : s.size ≤ maxLen) (a b c d : Int) (w : World) :
    Calls Try.prog 3 #[.string s, pv a b c d] w fun e w' => e = .returned (.bool true) ∧ Below w.heap.size w w' := by
  by_cases h : 200 < s.size
  · exact splitLaw_big s hm h a b c d w
  by_cases h0 : chkP a b c d = 0
  · obtain ⟨p, hp, rfl, rfl, rfl, rfl⟩ := chkP_zero h0
    have hs : s.size ≤ 65536 := by omega
    have g := ends_good (tst := tst) hp (nats s)
    rw [nats_length] at g
    have lE : (pieces s 0 (ends tst p (nats s))).length ≤ 65536 := by
      have := ends_len hp (nats s)
      rw [nats_length] at this
      rw [pieces_length]; omega
    refine splitLaw_main s (by omega) _ _ _ _ 0 w (pieces s 0 (ends tst p (nats s))) (ends tst p (nats s)) ((pieces s 0 (ends tst p (nats s))).map digOf) (fun W _ => split_ok p hp s hs W) (fun W _ => refSplit_ok p hp s hs W) (fun W _ => bounds_ok p hp s hs W) (fun W hW => ?_) (fun W _ => manifest_ok p hp s hs W) (fun W hW => ?_) (fun W _ => check_any _ _ _ _ 0 h0 W) (fun W _ => refCheck_any _ _ _ _ 0 h0 W)
    · have := refBounds_any p.least p.most p.window p.bits s (pieces s 0 (ends tst p (nats s))) 0 lE (by rw [total_all hp]; exact hs) W (fun V _ => refSplit_ok p hp s hs V)
      rw [sums_pieces _ 0 g] at this
      exact this
    · exact refManifest_any p.least p.most p.window p.bits s (pieces s 0 (ends tst p (nats s))) 0 lE (fun y hy => by have := piece_size _ _ y hy; omega) W (fun V _ => refSplit_ok p hp s hs V)
  · have hA : chkA a b c d [s] = chkP a b c d := chkA_one _ _ _ _ _ (by omega)
    refine splitLaw_main s (by omega) a b c d (chkP a b c d) w [] [] [] (fun W _ => ?_) (fun W _ => refSplit_err a b c d s hm W _ hA h0) (fun W _ => ?_) (fun W hW => ?_) (fun W _ => ?_) (fun W hW => ?_) (fun W _ => check_any _ _ _ _ _ rfl W) (fun W _ => refCheck_any _ _ _ _ _ rfl W)
    · exact (split_err a b c d s (by omega) W _ hA h0).mono (by rintro e w' ⟨rfl, hb⟩; exact ⟨_, rfl, isStrs_nil _, hb⟩)
    · exact (bounds_err a b c d s (by omega) W _ hA h0).mono (by rintro e w' ⟨rfl, hb⟩; exact ⟨_, rfl, isNats_nil _, hb⟩)
    · exact refBounds_any a b c d s [] (chkP a b c d) (by simp) (by simp [total]) W (fun V _ => refSplit_err a b c d s hm V _ hA h0)
    · exact (manifest_err a b c d s (by omega) W _ hA h0).mono (by rintro e w' ⟨rfl, hb⟩; exact ⟨_, rfl, digs_none _ _ _, hb⟩)
    · exact refManifest_any a b c d s [] (chkP a b c d) (by simp) (by simp) W (fun V _ => refSplit_err a b c d s hm V _ hA h0)

set_option maxRecDepth 100000 in
theorem splitLaw_lifted (os : Os) (started : os.Started) (H : Type) (enc : TypeId × Value → H) :
    ReturnsInHanded {} Try.checked os 3 .any (Rows.chunkSplitSpec.pre6 enc Try.prog Try.f3 Rows.chunkSplitRow.domain false) (Rows.chunkSplitSpec.post enc Try.prog Try.f3 false true false false) := by
  refine returnsInHanded_of_change (C := Try.checked) ownK started (by kernel_rfl) Try.func3
    (ChangeSpec.witness6 (enc := enc) (C := Try.checked) false ⟨#[], #[.string ⟨#[]⟩, pv 0 0 0 0], []⟩ 8 (by kernel_rfl) (by kernel_rfl) (by kernel_rfl) (by kernel_rfl)) ?_
  intro W base args ds gs before hval0 hW hcnd _
  have hval : ∀ (j : Nat) t v, Try.f3.params[j]? = some t → args[j]? = some v → Value.okWide Try.prog W .any base t v := hval0
  have hW' := hW
  obtain ⟨p, q, hA0, hV, rfl, hfz, hnd⟩ := hW
  have hA : DataW.TrodAll enc Try.prog W 0 (fun _ => true) true Try.f3.params.toList args.toList ds p := hA0
  rw [Try.params3] at hA hval
  obtain ⟨v0, v1, d0, d1, p0, p1, rfl, rfl, rfl, h0, h1⟩ := trodAll_two hA
  obtain ⟨rfl, rfl⟩ := trodVars_none hV
  have k1 := h1
  have lt1 : ∀ x ∈ p1, x.block < W.heap.size := by obtain ⟨m, hm⟩ := k1; exact DataW.trod_lt m _ _ _ hm
  obtain ⟨s, rfl, rfl, rfl, w0⟩ := open_string Try.underlying9 (hval 0 9 v0 rfl rfl) h0
  obtain ⟨a, b, c, d, rfl⟩ := open_chunking (hval 1 23 v1 rfl rfl) h1
  clear hA0 hval0
  refine (splitLaw_any s w0 a b c d W).mono fun e W' ⟨he, bel⟩ => ?_
  subst he
  exact ⟨_, rfl, _, _, _, [], _, [], hW', trodAll_mk1 (shut_bool Try.underlying4 _), (trodAll_cons_mk (shut_string Try.underlying9 w0) (trodAll_cons_mk (Below.trod laidOut (by kernel_rfl) (of_decide_eq_true (by kernel_rfl)) k1 bel lt1) trodAll_mk0)), rfl, bel.frame _, fun h => by cases h⟩

theorem splitLaw_holds : Rows.ChunkSplitSaid :=
  OpenClaim.holds_of_wide 3 Try.f3 rfl rfl rfl rfl rfl rfl rfl ⟨rfl, rfl, rfl, rfl, rfl⟩ rfl rfl rfl rfl rfl (by kernel_rfl) Try.func3 (by kernel_rfl)
    (of_decide_eq_true (by kernel_rfl)) (by unfold Func.isWrapper; rw [if_neg (of_decide_eq_false (by kernel_rfl))]; exact ⟨rfl, rfl⟩)
    (fun os started H enc _ => splitLaw_lifted os started H enc)
#print axioms splitLaw_holds
end Go.Proofs.Ytcdnhnbigincpaa
