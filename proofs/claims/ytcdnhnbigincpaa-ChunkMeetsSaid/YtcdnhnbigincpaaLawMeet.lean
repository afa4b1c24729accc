/- For every two data, rest and parameters ChunkMeets returns true and leaves its arguments as they were. No condition. -/
import Derived.Test.YtcdnhnbigincpaaMeet
import Derived.Test.YtcdnhnbigincpaaLawDiv
import Derived.Deep.RegionHeld3
import Derived.Deep.Cut
namespace Go.Proofs.Ytcdnhnbigincpaa
open Go.ChangeShapes Go.WideShapes Go.ChangeAt Go.RowKit
open Go.ChangeMaps (open_string shut_string)

set_option maxHeartbeats 4000000 in
theorem meet_big (x y r : ByteArray) (hx : x.size ≤ maxLen) (hy : y.size ≤ maxLen) (hr : r.size ≤ maxLen) (h : 100 < x.size ∨ (¬ 100 < x.size ∧ 100 < y.size) ∨ (¬ 100 < x.size ∧ ¬ 100 < y.size ∧ 300 < r.size)) (a b c d : Int) (w : World) :
    Calls Try.prog 7 #[.string x, .string y, .string r, pv a b c d] w fun e w' => e = .returned (.bool true) ∧ Below w.heap.size w w' := by
  unfold maxLen at hx hy hr
  have hB := (Below.refl w.heap.size w).alloc (Nat.le_refl _) (.cells #[.int .i64 a, .int .i64 b, .int .i64 c, .int .i64 d] 23)
  rcases h with h | ⟨h1, h⟩ | ⟨h1, h2, h⟩
  · have t1 : (100 : Int) < x.size := by omega
    go_enter Try.func7, Try.ntmps7
    go_wp2_with fail
    ((with_reducible refine (awake_any _).mono ?_); rintro e w2 ⟨rfl, hb2⟩)
    go_wp2
    go_ret
    exact ⟨rfl, hB.trans (hb2.mono hB.size)⟩
  · have t0 : ¬ (100 : Int) < x.size := by omega
    have t1 : (100 : Int) < y.size := by omega
    go_enter Try.func7, Try.ntmps7
    go_wp2_with fail
    ((with_reducible refine (awake_any _).mono ?_); rintro e w2 ⟨rfl, hb2⟩)
    go_wp2
    go_ret
    exact ⟨rfl, hB.trans (hb2.mono hB.size)⟩
  · have t0 : ¬ (100 : Int) < x.size := by omega
    have t1 : ¬ (100 : Int) < y.size := by omega
    have t2 : (300 : Int) < r.size := by omega
    go_enter Try.func7, Try.ntmps7
    go_wp2_with fail
    ((with_reducible refine (awake_any _).mono ?_); rintro e w2 ⟨rfl, hb2⟩)
    go_wp2
    go_ret
    exact ⟨rfl, hB.trans (hb2.mono hB.size)⟩

set_option maxHeartbeats 4000000 in
theorem meet_err (x y r : ByteArray) (hx : x.size ≤ 100) (hy : y.size ≤ 100) (hr : r.size ≤ 300) (a b c d : Int) (z : Int) (hz : chkP a b c d = z) (h0 : z ≠ 0) (w : World) :
    Calls Try.prog 7 #[.string x, .string y, .string r, pv a b c d] w fun e w' => e = .returned (.bool true) ∧ Below w.heap.size w w' := by
  have hB := (Below.refl w.heap.size w).alloc (Nat.le_refl _) (.cells #[.int .i64 a, .int .i64 b, .int .i64 c, .int .i64 d] 23)
  have x0 := PBox.new w a b c d
  have c0 := x0.c0
  have c1 := x0.c1
  have c2 := x0.c2
  have c3 := x0.c3
  have t0 : ¬ (100 : Int) < x.size := by omega
  have t1 : ¬ (100 : Int) < y.size := by omega
  have t2 : ¬ (300 : Int) < r.size := by omega
  have hne : (z != 0) = true := by simpa using h0
  have HZ := Lib.hid hz
  clear hz
  go_enter Try.func7, Try.ntmps7
  go_wp2_with fail
  ((with_reducible refine (check_any a b c d z HZ.out _).mono ?_); rintro e w2 ⟨rfl, hb2⟩)
  have B2 := hB.trans (hb2.mono hB.size)
  clear c0 c1 c2 c3 hb2
  go_wp2_with fail
  ((with_reducible refine (awake_any _).mono ?_); rintro e w3 ⟨rfl, hb3⟩)
  go_wp2
  go_ret
  exact ⟨rfl, B2.trans (hb3.mono B2.size)⟩

/-- A part of a slice of numbers. -/
theorem nats_from_slice {W : World} {b off cap : Nat} {L : List Nat} (h : IsNats W (.slice (some ⟨b, off, none⟩) L.length cap) L) (m : Nat) (hm : m ≤ L.length) : IsNats W (.slice (some ⟨b, off + m, none⟩) (L.length - m) (cap - m)) (L.drop m) := by
  obtain ⟨a', cap', e, h1, h2, h3⟩ := h
  cases e
  have hl : (L.drop m).length = L.length - m := by rw [List.length_drop]
  refine ⟨_, cap - m, by rw [hl], by omega, by omega, ?_⟩
  rcases h3 with rfl | ⟨b', off', e, hb, hc⟩
  · left; simp
  · right
    cases e
    exact ⟨b, off + m, rfl, hb, fun j hj => by rw [List.getElem_drop, Nat.add_assoc]; exact hc (m + j) (by omega)⟩

set_option maxHeartbeats 8000000 in
theorem meet_ok (x y r : ByteArray) (hx : x.size ≤ 100) (hy : y.size ≤ 100) (hr : r.size ≤ 300) (p : Pm) (hp : p.Ok) (w : World) :
    Calls Try.prog 7 #[.string x, .string y, .string r, pv p.least p.most p.window p.bits] w fun e w' => e = .returned (.bool true) ∧ Below w.heap.size w w' := by
  have hB := (Below.refl w.heap.size w).alloc (Nat.le_refl _) (.cells #[.int .i64 p.least, .int .i64 p.most, .int .i64 p.window, .int .i64 p.bits] 23)
  have x0 := PBox.new w p.least p.most p.window p.bits
  have c0 := x0.c0
  have c1 := x0.c1
  have c2 := x0.c2
  have c3 := x0.c3
  have t0 : ¬ (100 : Int) < x.size := by omega
  have t1 : ¬ (100 : Int) < y.size := by omega
  have t2 : ¬ (300 : Int) < r.size := by omega
  have z1 : ¬ 9223372036854775807 < x.size + r.size := by omega
  have z2 : ¬ 9223372036854775807 < y.size + r.size := by omega
  have CX := lends_ok p hp (x ++ r) (by rw [ByteArray.size_append]; omega)
  have CY := lends_ok p hp (y ++ r) (by rw [ByteArray.size_append]; omega)
  rw [nats_append] at CX CY
  have meets := fun i k hi hk h hR => rems_meet hp (nats x) (nats y) (nats r) i k hi hk h hR
  have lastX := rems_last hp (nats x ++ nats r)
  have lastY := rems_last hp (nats y ++ nats r)
  obtain ⟨X, hX⟩ : ∃ X, rems p (nats x ++ nats r) = X := ⟨_, rfl⟩
  obtain ⟨Y, hY⟩ : ∃ Y, rems p (nats y ++ nats r) = Y := ⟨_, rfl⟩
  have lenX : X.length ≤ 400 := by
    have := ends_len hp (nats x ++ nats r)
    rw [← hX, rems_length]
    rw [List.length_append, nats_length, nats_length] at this
    omega
  have lenY : Y.length ≤ 400 := by
    have := ends_len hp (nats y ++ nats r)
    rw [← hY, rems_length]
    rw [List.length_append, nats_length, nats_length] at this
    omega
  simp only [hX, hY, nats_length] at meets
  rw [hX] at CX
  rw [hY] at CY
  have MEETS : Hid (∀ (i k : Nat) (hi : i < X.length) (hk : k < Y.length), X[i] = Y[k] → X[i] ≤ r.size → X.drop i = Y.drop k) := Lib.hid meets
  have NONE : Hid ((∀ (i k : Nat) (hi : i < X.length) (hk : k < Y.length), ¬ (X[i] = Y[k] ∧ X[i] ≤ r.size)) → x.size + r.size = 0 ∨ y.size + r.size = 0) := Lib.hid (by
    intro hno
    rcases Nat.eq_zero_or_pos (x.size + r.size) with h | h
    · exact .inl h
    rcases Nat.eq_zero_or_pos (y.size + r.size) with h' | h'
    · exact .inr h'
    obtain ⟨i, hi, ei⟩ := lastX (by rw [List.length_append, nats_length, nats_length]; omega)
    obtain ⟨k, hk, ek⟩ := lastY (by rw [List.length_append, nats_length, nats_length]; omega)
    simp only [hX] at hi ei
    simp only [hY] at hk ek
    exact absurd ⟨by rw [ei, ek], by omega⟩ (hno i k hi hk))
  have HCX := Lib.hid CX
  have HCY := Lib.hid CY
  clear CX CY meets lastX lastY hX hY
  go_enter Try.func7, Try.ntmps7
  go_wp2_with fail
  ((with_reducible refine (check_any _ _ _ _ 0 (chkP_ok hp) _).mono ?_); rintro e w1 ⟨rfl, hb1⟩)
  have B1 := hB.trans (hb1.mono hB.size)
  have x1 : PBox w1 w.heap.size p.least p.most p.window p.bits := (hb1.block _ x0.lt).trans x0
  clear c0 c1 c2 c3 hb1 hB x0
  go_upto_region 3 with fail
  have s4 : w1.drew.cell? ⟨w.heap.size, 0, none⟩ = some (.int .i64 p.least) ∧ w1.drew.cell? ⟨w.heap.size, 1, none⟩ = some (.int .i64 p.most) ∧ w1.drew.cell? ⟨w.heap.size, 2, none⟩ = some (.int .i64 p.window) ∧ w1.drew.cell? ⟨w.heap.size, 3, none⟩ = some (.int .i64 p.bits) := ⟨x1.c0, x1.c1, x1.c2, x1.c3⟩
  have Bd := B1.drew
  go_region_held3 (fun V => V.cell? ⟨w.heap.size, 0, none⟩ = some (.int .i64 p.least) ∧ V.cell? ⟨w.heap.size, 1, none⟩ = some (.int .i64 p.most) ∧ V.cell? ⟨w.heap.size, 2, none⟩ = some (.int .i64 p.window) ∧ V.cell? ⟨w.heap.size, 3, none⟩ = some (.int .i64 p.bits)) (first | with_reducible exact s4 | with_reducible exact hh)
    (first | (go_at_call 23; (with_reducible refine (HCX.out _).mono ?_); rintro e w2 ⟨v2, rfl, d2, hb2⟩; have x2 : PBox w2 w.heap.size p.least p.most p.window p.bits := (hb2.block _ x1.lt).trans x1; have hh := (show w2.cell? ⟨w.heap.size, 0, none⟩ = some (.int .i64 p.least) ∧ w2.cell? ⟨w.heap.size, 1, none⟩ = some (.int .i64 p.most) ∧ w2.cell? ⟨w.heap.size, 2, none⟩ = some (.int .i64 p.window) ∧ w2.cell? ⟨w.heap.size, 3, none⟩ = some (.int .i64 p.bits) from ⟨x2.c0, x2.c1, x2.c2, x2.c3⟩); have B2 := Bd.trans (hb2.mono Bd.size)) | (go_at_call 23; (with_reducible refine (HCY.out _).mono ?_); rintro e w3 ⟨v3, rfl, d3, hb3⟩; have x3 : PBox w3 w.heap.size p.least p.most p.window p.bits := (hb3.block _ x2.lt).trans x2; have hh := (show w3.cell? ⟨w.heap.size, 0, none⟩ = some (.int .i64 p.least) ∧ w3.cell? ⟨w.heap.size, 1, none⟩ = some (.int .i64 p.most) ∧ w3.cell? ⟨w.heap.size, 2, none⟩ = some (.int .i64 p.window) ∧ w3.cell? ⟨w.heap.size, 3, none⟩ = some (.int .i64 p.bits) from ⟨x3.c0, x3.c1, x3.c2, x3.c3⟩); have B3 := B2.trans (hb3.mono B2.size); have D2 := d2.below hb3 (Nat.le_refl _)))
  obtain ⟨aX, capX, rfl, _, hcapX, hcX⟩ := D2
  obtain ⟨aY, capY, rfl, _, hcapY, hcY⟩ := d3
  have CXh := Lib.hid hcX
  have CYh := Lib.hid hcY
  have IX := Lib.hid (show IsNats w3 (.slice aX X.length capX) X from ⟨aX, capX, rfl, by unfold maxLen; omega, hcapX, hcX⟩)
  have IY := Lib.hid (show IsNats w3 (.slice aY Y.length capY) Y from ⟨aY, capY, rfl, by unfold maxLen; omega, hcapY, hcY⟩)
  clear hcX hcY hh s4 Bd B2 B1 x1 x2 x3 hb2 hb3 d2 HCX HCY
  go_wp2
  go_loopw [46] (fun s46 wr => ∃ i : Nat, i ≤ X.length ∧ s46 = .int .i64 i ∧ wr = w3 ∧ Hid (∀ (i' k : Nat) (hi : i' < X.length) (hk : k < Y.length), i' < i → ¬ (X[i'] = Y[k] ∧ X[i'] ≤ r.size))) (fun i _ => X.length - (intOf i).toNat)
  case atStart => exact ⟨0, Nat.zero_le _, rfl, rfl, Lib.hid fun _ _ _ _ h => absurd h (Nat.not_lt_zero _)⟩
  case round =>
    obtain ⟨i, hi, rfl, rfl, hbef⟩ := hrel
    by_cases hlt : i < X.length
    · obtain ⟨b1, o1, rfl, hb1, hcell⟩ := CXh.out.resolve_left (by intro e; rw [e] at hlt; simp at hlt)
      have q := hcell i hlt
      obtain ⟨m, hm⟩ : ∃ m, X[i] = m := ⟨_, rfl⟩
      rw [hm] at q
      have HM := Lib.hid hm
      clear hcell hm
      go_wp2
      go_loopw [53] (fun s53 wr' => ∃ k : Nat, k ≤ Y.length ∧ s53 = .int .i64 k ∧ wr' = wr ∧ Hid (∀ (k' : Nat) (hk : k' < Y.length), k' < k → ¬ (m = Y[k'] ∧ m ≤ r.size))) (fun i _ => Y.length - (intOf i).toNat)
      case atStart => exact ⟨0, Nat.zero_le _, rfl, rfl, Lib.hid fun _ _ h => absurd h (Nat.not_lt_zero _)⟩
      case round =>
        obtain ⟨k, hk, rfl, rfl, hbef2⟩ := hrel
        by_cases hlt2 : k < Y.length
        · obtain ⟨b2, o2, rfl, hb2, hcell⟩ := CYh.out.resolve_left (by intro e; rw [e] at hlt2; simp at hlt2)
          have q2 := hcell k hlt2
          obtain ⟨m2, hm2⟩ : ∃ m2, Y[k] = m2 := ⟨_, rfl⟩
          rw [hm2] at q2
          have HM2 := Lib.hid hm2
          clear hcell hm2
          have cx : ¬ capX = i := by omega
          have cy : ¬ capY = k := by omega
          by_cases e : m = m2
          · by_cases le : m ≤ r.size
            · have hd := Lib.hid (MEETS.out i k hlt hlt2 (by rw [HM.out, HM2.out]; exact e) (by rw [HM.out]; exact le))
              have FX := Lib.hid (nats_from_slice IX.out i (by omega))
              have FY := Lib.hid (nats_from_slice IY.out k (by omega))
              subst e
              clear hbef hbef2
              go_upto_region 11 with fail
              have FXd := Lib.hid (FX.out.below (Below.refl _ _).drew (Nat.le_refl _))
              have FYd := Lib.hid (FY.out.below (Below.refl _ _).drew (Nat.le_refl _))
              rw [hd.out] at FXd
              have Bd := B3.drew
              go_region_held3 (fun _ => True) (exact trivial)
                (first | (go_at_call 19; (with_reducible refine (sameN_any (Y.drop k) _ _ _ FXd.out FYd.out).mono ?_); rintro e w5 ⟨rfl, hb5⟩; have B5 := Bd.trans (hb5.mono Bd.size)) | (go_at_call 9; (with_reducible refine (awake_any _).mono ?_); rintro e w6 ⟨rfl, hb6⟩; have B6 := B5.trans (hb6.mono B5.size)))
              go_wp2
              go_ret
              exact ⟨rfl, B6⟩
            · have nb : Hid (∀ (k' : Nat) (hk : k' < Y.length), k' < k + 1 → ¬ (m = Y[k'] ∧ m ≤ r.size)) := Lib.hid fun _ _ _ h => le h.2
              subst e
              clear hbef2
              go_wp2
              go_roundw
              case rel => exact ⟨k + 1, by omega, by go_num, (by first | trivial | rfl), nb⟩
              case measure => simp [intOf]; omega
          · have nb : Hid (∀ (k' : Nat) (hk : k' < Y.length), k' < k + 1 → ¬ (m = Y[k'] ∧ m ≤ r.size)) := Lib.hid fun k' h' h1 h => by
              rcases Nat.lt_or_ge k' k with h2 | h2
              · exact hbef2.out k' h' h2 h
              · obtain rfl : k' = k := by omega
                exact e (h.1.trans HM2.out)
            have e2 : ((m : Int) == (m2 : Int)) = false := by rw [beq_eq_false_iff_ne]; omega
            clear hbef2
            go_wp2
            go_roundw
            case rel => exact ⟨k + 1, by omega, by go_num, (by first | trivial | rfl), nb⟩
            case measure => simp [intOf]; omega
        · have nb : Hid (∀ (i' k : Nat) (hi : i' < X.length) (hk : k < Y.length), i' < i + 1 → ¬ (X[i'] = Y[k] ∧ X[i'] ≤ r.size)) := Lib.hid fun i' k' hi' hk' h1 h => by
            rcases Nat.lt_or_ge i' i with h2 | h2
            · exact hbef.out i' k' hi' hk' h2 h
            · obtain rfl : i' = i := by omega
              exact hbef2.out k' hk' (by omega) ⟨HM.out ▸ h.1, HM.out ▸ h.2⟩
          clear hbef hbef2
          go_wp2
          go_roundw
          case rel => exact ⟨i + 1, by omega, by go_num, (by first | trivial | rfl), nb⟩
          case measure => simp [intOf]; omega
    · have hz := NONE.out fun i' k hi' hk => hbef.out i' k hi' hk (by omega)
      clear hbef
      rcases hz with hz | hz
      · have e0 : ((x.size : Int) + (r.size : Int)) = 0 := by omega
        go_wp2_with fail
        ((with_reducible refine (awake_any _).mono ?_); rintro e w4 ⟨rfl, hb4⟩)
        go_wp2
        go_ret
        exact ⟨rfl, B3.trans (hb4.mono B3.size)⟩
      · by_cases hz0 : x.size + r.size = 0
        · have e0 : ((x.size : Int) + (r.size : Int)) = 0 := by omega
          go_wp2_with fail
          ((with_reducible refine (awake_any _).mono ?_); rintro e w4 ⟨rfl, hb4⟩)
          go_wp2
          go_ret
          exact ⟨rfl, B3.trans (hb4.mono B3.size)⟩
        · have e0 : (((x.size : Int) + (r.size : Int)) == 0) = false := by rw [beq_eq_false_iff_ne]; omega
          have e1 : ((y.size : Int) + (r.size : Int)) = 0 := by omega
          go_wp2_with fail
          ((with_reducible refine (awake_any _).mono ?_); rintro e w4 ⟨rfl, hb4⟩)
          go_wp2
          go_ret
          exact ⟨rfl, B3.trans (hb4.mono B3.size)⟩

theorem meet_any (x y r : ByteArray) (hx : x.size ≤ maxLen) (hy : y.size ≤ maxLen) (hr : r.size ≤ maxLen) (a b c d : Int) (w : World) :
    Calls Try.prog 7 #[.string x, .string y, .string r, pv a b c d] w fun e w' => e = .returned (.bool true) ∧ Below w.heap.size w w' := by
  by_cases h1 : 100 < x.size
  · exact meet_big x y r hx hy hr (.inl h1) a b c d w
  by_cases h2 : 100 < y.size
  · exact meet_big x y r hx hy hr (.inr (.inl ⟨h1, h2⟩)) a b c d w
  by_cases h3 : 300 < r.size
  · exact meet_big x y r hx hy hr (.inr (.inr ⟨h1, h2, h3⟩)) a b c d w
  by_cases h0 : chkP a b c d = 0
  · obtain ⟨p, hp, rfl, rfl, rfl, rfl⟩ := chkP_zero h0
    exact meet_ok x y r (by omega) (by omega) (by omega) p hp w
  · exact meet_err x y r (by omega) (by omega) (by omega) a b c d _ rfl h0 w

set_option maxRecDepth 100000 in
theorem meet_lifted (os : Os) (started : os.Started) (H : Type) (enc : TypeId × Value → H) :
    ReturnsInHanded {} Try.checked os 7 .any (Rows.chunkMeetsSpec.pre6 enc Try.prog Try.f7 Rows.chunkMeetsRow.domain false) (Rows.chunkMeetsSpec.post enc Try.prog Try.f7 false true false false) := by
  refine returnsInHanded_of_change (C := Try.checked) ownK started (by kernel_rfl) Try.func7
    (ChangeSpec.witness6 (enc := enc) (C := Try.checked) false ⟨#[], #[.string ⟨#[]⟩, .string ⟨#[]⟩, .string ⟨#[]⟩, pv 0 0 0 0], []⟩ 8 (by kernel_rfl) (by kernel_rfl) (by kernel_rfl) (by kernel_rfl)) ?_
  intro W base args ds gs before hval0 hW hcnd _
  have hval : ∀ (j : Nat) t v, Try.f7.params[j]? = some t → args[j]? = some v → Value.okWide Try.prog W .any base t v := hval0
  have hW' := hW
  obtain ⟨p, q, hA0, hV, rfl, hfz, hnd⟩ := hW
  have hA : DataW.TrodAll enc Try.prog W 0 (fun _ => true) true Try.f7.params.toList args.toList ds p := hA0
  rw [Try.params7] at hA hval
  obtain ⟨v0, v1, v2, v3, d0, d1, d2, d3, p0, p1, p2, p3, rfl, rfl, rfl, h0, h1, h2, h3⟩ := trodAll_four hA
  obtain ⟨rfl, rfl⟩ := trodVars_none hV
  have k3 := h3
  have lt3 : ∀ x ∈ p3, x.block < W.heap.size := by obtain ⟨m, hm⟩ := k3; exact DataW.trod_lt m _ _ _ hm
  obtain ⟨x, rfl, rfl, rfl, w0⟩ := open_string Try.underlying9 (hval 0 9 v0 rfl rfl) h0
  obtain ⟨y, rfl, rfl, rfl, w1⟩ := open_string Try.underlying9 (hval 1 9 v1 rfl rfl) h1
  obtain ⟨r, rfl, rfl, rfl, w2⟩ := open_string Try.underlying9 (hval 2 9 v2 rfl rfl) h2
  obtain ⟨a, b, c, d, rfl⟩ := open_chunking (hval 3 23 v3 rfl rfl) h3
  clear hA0 hval0
  refine (meet_any x y r w0 w1 w2 a b c d W).mono fun e W' ⟨he, bel⟩ => ?_
  subst he
  exact ⟨_, rfl, _, _, _, [], _, [], hW', trodAll_mk1 (shut_bool Try.underlying4 _), (trodAll_cons_mk (shut_string Try.underlying9 w0) (trodAll_cons_mk (shut_string Try.underlying9 w1) (trodAll_cons_mk (shut_string Try.underlying9 w2) (trodAll_cons_mk (Below.trod laidOut (by kernel_rfl) (of_decide_eq_true (by kernel_rfl)) k3 bel lt3) trodAll_mk0)))), rfl, bel.frame _, fun h => by cases h⟩

theorem meet_holds : Rows.ChunkMeetsSaid :=
  OpenClaim.holds_of_wide 7 Try.f7 rfl rfl rfl rfl rfl rfl rfl ⟨rfl, rfl, rfl, rfl, rfl⟩ rfl rfl rfl rfl rfl (by kernel_rfl) Try.func7 (by kernel_rfl)
    (of_decide_eq_true (by kernel_rfl)) (by unfold Func.isWrapper; rw [if_neg (of_decide_eq_false (by kernel_rfl))]; exact ⟨rfl, rfl⟩)
    (fun os started H enc _ => meet_lifted os started H enc)
#print axioms meet_holds
end Go.Proofs.Ytcdnhnbigincpaa
