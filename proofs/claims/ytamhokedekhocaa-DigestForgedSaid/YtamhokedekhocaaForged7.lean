/- The two ways from a root to an element on the right, where the ways hash different strings, at this translation. -/
import Derived.Test.YtamhokedekhocaaForged3
namespace Go.Proofs.Ytamhokedekhocaa
open Go.RowKit
attribute [local go_sem] eq_arr

set_option maxHeartbeats 20000000 in
theorem apart_more_other (n k i m b off cap b2 off2 cap2 : Nat) (d0 d1 p0 p1 x0 x1 y0 y1 r0 r1 : Int) (S T : ByteArray) (hk : leftN n = k) (hk1 : k < n) (hn : 2 ≤ n) (hn2 : n ≤ 1099511627776) (hi : k ≤ i) (hi2 : i < n) (w : World)
    (hc0 : n ≤ cap) (hc1 : m + 1 ≤ cap2) (hc2 : cap2 ≤ maxLen) (hb : b2 < w.heap.size) (e0 : w.cell? ⟨b2, off2 + m * 2, none⟩ = some (.int .u64 p0)) (e1 : w.cell? ⟨b2, off2 + m * 2 + 1, none⟩ = some (.int .u64 p1))
    (h1 : ∀ W, Below w.heap.size w W → Calls Try.prog 23 #[.slice (some ⟨b, off, none⟩) k cap] W fun e w' => e = .returned (.agg #[.int .u64 x0, .int .u64 x1]) ∧ Below W.heap.size W w')
    (h2 : ∀ W, Below w.heap.size w W → Calls Try.prog 23 #[.slice (some ⟨b, off + k * 2, none⟩) (n - k) (cap - k)] W fun e w' => e = .returned (.agg #[.int .u64 y0, .int .u64 y1]) ∧ Below W.heap.size W w')
    (h3 : ∀ W, Below w.heap.size w W → Calls Try.prog 51 #[.int .i64 ((n : Int) - (k : Int)), .int .i64 ((i : Int) - (k : Int)), .agg #[.int .u64 d0, .int .u64 d1], .slice (some ⟨b2, off2, none⟩) m cap2] W fun e w' => e = .returned (.agg #[.int .u64 r0, .int .u64 r1]) ∧ Below W.heap.size W w')
    (h4 : ∀ W, Calls Try.prog 36 #[.agg #[.int .u64 x0, .int .u64 x1], .agg #[.int .u64 y0, .int .u64 y1]] W fun e w' => e = .returned (.string S) ∧ Below W.heap.size W w')
    (h5 : ∀ W, Calls Try.prog 36 #[.agg #[.int .u64 p0, .int .u64 p1], .agg #[.int .u64 r0, .int .u64 r1]] W fun e w' => e = .returned (.string T) ∧ Below W.heap.size W w')
    (hne : ¬ S.toList = T.toList) (h6 : ∀ W, Calls Try.prog 50 #[.string S, .string T] W fun e w' => e = .returned (.bool true) ∧ Below W.heap.size W w') :
    Calls Try.prog 29 #[.slice (some ⟨b, off, none⟩) n cap, .int .i64 i, .agg #[.int .u64 d0, .int .u64 d1], .slice (some ⟨b2, off2, none⟩) (m + 1) cap2] w fun e w' => e = .returned (.bool true) ∧ Below w.heap.size w w' := by
  unfold maxLen at hc2
  have H1 := Lib.hid h1
  have H2 := Lib.hid h2
  have H3 := Lib.hid h3
  have H4 := Lib.hid h4
  have H5 := Lib.hid h5
  have H6 := Lib.hid h6
  have HK := Lib.hid hk
  clear h1 h2 h3 h4 h5 h6 hk
  have hne' : (S.toList == T.toList) = false := beq_eq_false_iff_ne.2 hne
  clear hne
  have t1 : ((n : Int) == 1) = false := by simp; omega
  have t2 : ((m : Int) + 1 == 0) = false := by simp; omega
  have t3 : (0 : Int) ≤ (m : Int) := by omega
  have t4 : (m : Int) < (m : Int) + 1 := by omega
  have t5 : (m : Int) ≤ (cap2 : Int) := by omega
  have t6 : ¬ (i : Int) < (k : Int) := by omega
  have t7 : (k : Int) ≤ (i : Int) := by omega
  have t8 : (i : Int) < (n : Int) := by omega
  have t9 : (n : Int) ≤ 1099511627776 := by omega
  have w3 : IntKind.i64.wrap ((n : Int) - (k : Int)) = (n : Int) - (k : Int) := by rw [IntKind.wrap_i64]; omega
  have w4 : IntKind.i64.wrap ((i : Int) - (k : Int)) = (i : Int) - (k : Int) := by rw [IntKind.wrap_i64]; omega
  have u2 : (0 : Int) ≤ (k : Int) := by omega
  have u3 : (k : Int) ≤ (n : Int) := by omega
  have u4 : (k : Int) ≤ (cap : Int) := by omega
  have u5 : (n : Int) ≤ (cap : Int) := by omega
  have w1 : IntKind.i64.wrap (m : Int) = (m : Int) := by rw [IntKind.wrap_i64]; omega
  have w2 : IntKind.i64.wrap ((m : Int) + 1 - 1) = (m : Int) := by rw [IntKind.wrap_i64]; omega
  go_enter Try.func29, Try.ntmps29
  go_wp2_with (go_at_call 43; refine (left_any n hn hn2 _).mono ?_; rintro e w' ⟨rfl, rfl⟩; rw [HK.out])
  rename_i Q' K' hK'
  have key : ∀ (A B : Nat) (W : World), Cut w d0 d1 A B x0 x1 y0 y1 W → Exit.then K' Q' Exit.normal { tmps := #[Value.slice (some { block := b, off := off }) n cap, Value.int IntKind.i64 (i : Int), Value.agg #[Value.int IntKind.u64 d0, Value.int IntKind.u64 d1], Value.slice (some { block := b2, off := off2 }) (m + 1) cap2, undef, undef, Value.pointer (some { block := w.heap.size, off := 0 }), undef, Value.bool false, Value.int IntKind.i64 (k : Int), Value.int IntKind.i64 (m : Int), Value.pointer (some { block := A, off := 0 }), Value.pointer (some { block := B, off := 0 }), undef, undef, Value.slice (some { block := b, off := off }) n cap, Value.int IntKind.i64 (n : Int), Value.bool false, Value.bool false, Value.slice (some { block := b2, off := off2 }) (m + 1) cap2, Value.int IntKind.i64 ((m : Int) + 1), Value.bool false, Value.bool false, undef, undef, undef, undef, undef, undef, undef, undef, undef, undef, undef, undef, undef, undef, undef, undef, undef, Value.slice (some { block := b, off := off }) n cap, Value.int IntKind.i64 (n : Int), Value.int IntKind.i64 (k : Int), Value.slice (some { block := b2, off := off2 }) (m + 1) cap2, Value.int IntKind.i64 ((m : Int) + 1), Value.int IntKind.i64 (m : Int), Value.slice (some { block := b, off := off }) n cap, Value.int IntKind.i64 (k : Int), Value.slice (some { block := b, off := off }) k cap, Value.agg #[Value.int IntKind.u64 x0, Value.int IntKind.u64 x1], Value.slice (some { block := b, off := off }) n cap, Value.int IntKind.i64 (k : Int), Value.slice (some { block := b, off := off + k * 2 }) (n - k) (cap - k), Value.agg #[Value.int IntKind.u64 y0, Value.int IntKind.u64 y1], undef, undef, undef, undef, undef, undef, undef, undef, undef, undef, undef, undef, undef, undef, undef, undef, undef, undef, undef, undef, undef, undef, undef, undef, undef, undef, undef, undef, undef, undef, undef, undef, undef, undef, undef, undef, undef, undef, undef, undef, undef, undef, undef, undef, undef, undef, undef, undef, undef, undef, undef, undef, undef, undef, undef, undef, undef, undef, undef, undef, undef, undef, undef, undef, undef, undef, undef, undef, undef, undef, undef, undef, undef, undef, undef, undef, undef, undef, undef, undef, undef, undef], defers := [] } W := by
    intro A B W hP
    go_wp2
    have start := hP.drew
    have startB : ∀ o, Cut w d0 d1 A B x0 x1 y0 y1 (W.alloc o).drew := fun o => (hP.alloc o).drew
    have fZ : Two (W.alloc (.cells #[.int .u64 0, .int .u64 0] 24)).drew W.heap.size 0 0 := Two.fresh W 0 0 24
    have lZ : W.heap.size < (W.alloc (.cells #[.int .u64 0, .int .u64 0] 24)).drew.heap.size := by simp
    have nA := hP.zA
    have nB := hP.zB
    have nS := hP.base.size
    go_region_held3 (fun V => V.cell? ⟨w.heap.size, 0, none⟩ = some (.int .u64 d0) ∧ V.cell? ⟨w.heap.size, 1, none⟩ = some (.int .u64 d1)) (first | with_reducible exact hQ.cut.base.cells | with_reducible exact hC.base.cells | with_reducible exact (hC.alloc _).base.cells | with_reducible exact start.base.cells | with_reducible exact (startB _).base.cells)
      (first
      | (go_at_call 51; (with_reducible refine (H3.out _ (by first | exact start.base.below | exact (startB _).base.below)).mono ?_); rintro e wC ⟨rfl, hq⟩;
         first
         | (have T0 : Two wC W.heap.size 0 0 := by with_reducible exact Two.below fZ hq lZ
            have zC : W.heap.size < wC.heap.size := Nat.lt_of_lt_of_le lZ hq.size
            have hC : Cut w d0 d1 A B x0 x1 y0 y1 wC := by with_reducible exact (startB _).on hq
            have hQ := hC.more2 T0 nS zC (by omega) (by omega) r0 r1
            obtain ⟨_, _, _, _⟩ := T0
            clear hq)
         | (have hC : Cut w d0 d1 A B x0 x1 y0 y1 wC := by with_reducible exact start.on hq
            have hQ := hC.more r0 r1
            clear hq)))
    · have s7 := hQ.drew
      go_wp2
      go_region_held3 (fun V => V.cell? ⟨A, 0, none⟩ = some (.int .u64 x0) ∧ V.cell? ⟨A, 1, none⟩ = some (.int .u64 x1) ∧ V.cell? ⟨B, 0, none⟩ = some (.int .u64 y0) ∧ V.cell? ⟨B, 1, none⟩ = some (.int .u64 y1) ∧ V.cell? ⟨wC.heap.size, 0, none⟩ = some (.int .u64 r0) ∧ V.cell? ⟨wC.heap.size, 1, none⟩ = some (.int .u64 r1) ∧ V.cell? ⟨b2, off2 + m * 2, none⟩ = some (.int .u64 p0) ∧ V.cell? ⟨b2, off2 + m * 2 + 1, none⟩ = some (.int .u64 p1)) (first | with_reducible exact hh.cells hb e0 e1 | with_reducible exact s7.cells hb e0 e1)
        (first | (go_at_call 36; (with_reducible refine (H4.out _).mono ?_); rintro e wD ⟨rfl, hq⟩; have hh := Cut3.on (by first | with_reducible exact hh | with_reducible exact s7) hq; clear hq) | (go_at_call 36; (with_reducible refine (H5.out _).mono ?_); rintro e wD ⟨rfl, hq⟩; have hh := Cut3.on (by first | with_reducible exact hh | with_reducible exact s7) hq; clear hq))
      go_wp2
      have s8 := hh.drew
      clear hh
      go_region_held3 (fun V => V.cell? ⟨A, 0, none⟩ = some (.int .u64 x0) ∧ V.cell? ⟨A, 1, none⟩ = some (.int .u64 x1) ∧ V.cell? ⟨B, 0, none⟩ = some (.int .u64 y0) ∧ V.cell? ⟨B, 1, none⟩ = some (.int .u64 y1) ∧ V.cell? ⟨wC.heap.size, 0, none⟩ = some (.int .u64 r0) ∧ V.cell? ⟨wC.heap.size, 1, none⟩ = some (.int .u64 r1) ∧ V.cell? ⟨b2, off2 + m * 2, none⟩ = some (.int .u64 p0) ∧ V.cell? ⟨b2, off2 + m * 2 + 1, none⟩ = some (.int .u64 p1)) (first | with_reducible exact hh.cells hb e0 e1 | with_reducible exact s8.cells hb e0 e1)
        (first | (go_at_call 36; (with_reducible refine (H4.out _).mono ?_); rintro e wD ⟨rfl, hq⟩; have hh := Cut3.on (by first | with_reducible exact hh | with_reducible exact s8) hq; clear hq) | (go_at_call 36; (with_reducible refine (H5.out _).mono ?_); rintro e wD ⟨rfl, hq⟩; have hh := Cut3.on (by first | with_reducible exact hh | with_reducible exact s8) hq; clear hq) | (go_at_call 50; (with_reducible refine (H6.out _).mono ?_); rintro e wD ⟨rfl, hq⟩; have hh := Cut3.on (by first | with_reducible exact hh | with_reducible exact s8) hq; clear hq))
      go_wp2
      go_ret
      exact ⟨rfl, hh.cut.base.below⟩
    · have s7 := hQ.drew
      go_wp2
      go_region_held3 (fun V => V.cell? ⟨A, 0, none⟩ = some (.int .u64 x0) ∧ V.cell? ⟨A, 1, none⟩ = some (.int .u64 x1) ∧ V.cell? ⟨B, 0, none⟩ = some (.int .u64 y0) ∧ V.cell? ⟨B, 1, none⟩ = some (.int .u64 y1) ∧ V.cell? ⟨W.heap.size, 0, none⟩ = some (.int .u64 r0) ∧ V.cell? ⟨W.heap.size, 1, none⟩ = some (.int .u64 r1) ∧ V.cell? ⟨b2, off2 + m * 2, none⟩ = some (.int .u64 p0) ∧ V.cell? ⟨b2, off2 + m * 2 + 1, none⟩ = some (.int .u64 p1)) (first | with_reducible exact hh.cells hb e0 e1 | with_reducible exact s7.cells hb e0 e1)
        (first | (go_at_call 36; (with_reducible refine (H4.out _).mono ?_); rintro e wD ⟨rfl, hq⟩; have hh := Cut3.on (by first | with_reducible exact hh | with_reducible exact s7) hq; clear hq) | (go_at_call 36; (with_reducible refine (H5.out _).mono ?_); rintro e wD ⟨rfl, hq⟩; have hh := Cut3.on (by first | with_reducible exact hh | with_reducible exact s7) hq; clear hq))
      go_wp2
      have s8 := hh.drew
      clear hh
      go_region_held3 (fun V => V.cell? ⟨A, 0, none⟩ = some (.int .u64 x0) ∧ V.cell? ⟨A, 1, none⟩ = some (.int .u64 x1) ∧ V.cell? ⟨B, 0, none⟩ = some (.int .u64 y0) ∧ V.cell? ⟨B, 1, none⟩ = some (.int .u64 y1) ∧ V.cell? ⟨W.heap.size, 0, none⟩ = some (.int .u64 r0) ∧ V.cell? ⟨W.heap.size, 1, none⟩ = some (.int .u64 r1) ∧ V.cell? ⟨b2, off2 + m * 2, none⟩ = some (.int .u64 p0) ∧ V.cell? ⟨b2, off2 + m * 2 + 1, none⟩ = some (.int .u64 p1)) (first | with_reducible exact hh.cells hb e0 e1 | with_reducible exact s8.cells hb e0 e1)
        (first | (go_at_call 36; (with_reducible refine (H4.out _).mono ?_); rintro e wD ⟨rfl, hq⟩; have hh := Cut3.on (by first | with_reducible exact hh | with_reducible exact s8) hq; clear hq) | (go_at_call 36; (with_reducible refine (H5.out _).mono ?_); rintro e wD ⟨rfl, hq⟩; have hh := Cut3.on (by first | with_reducible exact hh | with_reducible exact s8) hq; clear hq) | (go_at_call 50; (with_reducible refine (H6.out _).mono ?_); rintro e wD ⟨rfl, hq⟩; have hh := Cut3.on (by first | with_reducible exact hh | with_reducible exact s8) hq; clear hq))
      go_wp2
      go_ret
      exact ⟨rfl, hh.cut.base.below⟩
  clear hK'
  have start0 := (Base.first w d0 d1).drew
  have start1 : ∀ o, Base w d0 d1 (((w.alloc (.cells #[.int .u64 d0, .int .u64 d1] 24))).alloc o).drew := fun o => ((Base.first w d0 d1).alloc o).drew
  have start2 : ∀ o o', Base w d0 d1 ((((w.alloc (.cells #[.int .u64 d0, .int .u64 d1] 24))).alloc o).alloc o').drew := fun o o' => (((Base.first w d0 d1).alloc o).alloc o').drew
  have g0 := Two.fresh (w.alloc (.cells #[.int .u64 d0, .int .u64 d1] 24)) 0 0 24
  have g2 := Two.fresh ((w.alloc (.cells #[.int .u64 d0, .int .u64 d1] 24)).alloc (.cells #[.int .u64 0, .int .u64 0] 24)) 0 0 24
  have g1 := g0.alloc (by simp) (.cells #[.int .u64 0, .int .u64 0] 24)
  rw [World.size_alloc] at g0 g1
  rw [World.size_alloc, World.size_alloc] at g2
  have f1 : Two (((w.alloc (.cells #[.int .u64 d0, .int .u64 d1] 24))).alloc (.cells #[.int .u64 0, .int .u64 0] 24)).drew (w.heap.size + 1) 0 0 := g0
  have f2 : Two ((((w.alloc (.cells #[.int .u64 d0, .int .u64 d1] 24))).alloc (.cells #[.int .u64 0, .int .u64 0] 24)).alloc (.cells #[.int .u64 0, .int .u64 0] 24)).drew (w.heap.size + 1) 0 0 := g1
  have f3 : Two ((((w.alloc (.cells #[.int .u64 d0, .int .u64 d1] 24))).alloc (.cells #[.int .u64 0, .int .u64 0] 24)).alloc (.cells #[.int .u64 0, .int .u64 0] 24)).drew (w.heap.size + 1 + 1) 0 0 := g2
  have l1 : w.heap.size + 1 < (((w.alloc (.cells #[.int .u64 d0, .int .u64 d1] 24))).alloc (.cells #[.int .u64 0, .int .u64 0] 24)).drew.heap.size := by simp
  have l2 : w.heap.size + 1 < ((((w.alloc (.cells #[.int .u64 d0, .int .u64 d1] 24))).alloc (.cells #[.int .u64 0, .int .u64 0] 24)).alloc (.cells #[.int .u64 0, .int .u64 0] 24)).drew.heap.size := by simp
  have l3 : w.heap.size + 1 + 1 < ((((w.alloc (.cells #[.int .u64 d0, .int .u64 d1] 24))).alloc (.cells #[.int .u64 0, .int .u64 0] 24)).alloc (.cells #[.int .u64 0, .int .u64 0] 24)).drew.heap.size := by simp
  clear g0 g1 g2
  go_region_held3 (fun W => True) (trivial)
    (first
      | (go_at_call 23; (with_reducible refine (H1.out _ (by first | exact start0.below | exact (start1 _).below | exact (start2 _ _).below)).mono ?_); rintro e wA ⟨rfl, hb⟩;
         first
         | (have Q1 : Two wA (w.heap.size + 1) 0 0 := by with_reducible exact Two.below f2 hb l2
            have Q2 : Two wA (w.heap.size + 1 + 1) 0 0 := by with_reducible exact Two.below f3 hb l3
            have hA : Base w d0 d1 wA := by with_reducible exact (start2 _ _).on hb
            have zA : w.heap.size + 1 + 1 < wA.heap.size := Nat.lt_of_lt_of_le l3 hb.size
            have yA : w.heap.size + 1 < wA.heap.size := by omega
            clear hb)
         | (have Q1 : Two wA (w.heap.size + 1) 0 0 := by with_reducible exact Two.below f1 hb l1
            have hA : Base w d0 d1 wA := by with_reducible exact (start1 _).on hb
            have yA : w.heap.size + 1 < wA.heap.size := Nat.lt_of_lt_of_le l1 hb.size
            clear hb)
         | (have hA : Base w d0 d1 wA := by with_reducible exact start0.on hb
            clear hb))
      | (go_at_call 23; (with_reducible refine (H2.out _ (by first | exact hA.below | exact (hA.alloc _).below | exact ((hA.alloc _).alloc _).below)).mono ?_); rintro e wB ⟨rfl, hb⟩;
         first
         | (have R1 : Two wB (w.heap.size + 1) 0 0 := by with_reducible exact Two.below Q1 hb yA
            have R2 : Two wB (w.heap.size + 1 + 1) 0 0 := by with_reducible exact Two.below Q2 hb zA
            have zB : w.heap.size + 1 + 1 < wB.heap.size := Nat.lt_of_lt_of_le zA hb.size
            have yB : w.heap.size + 1 < wB.heap.size := by omega
            have hB : Base w d0 d1 wB := by with_reducible exact hA.on hb
            have hP0 := cut_old hB R1 R2 (by omega) yB (by omega) zB (by omega) x0 x1 y0 y1
            have hP1 := (cut_old hB R2 R1 (by omega) zB (by omega) yB (by omega) x0 x1 y0 y1)
            obtain ⟨_, _, _, _⟩ := R1
            obtain ⟨_, _, _, _⟩ := R2
            clear hb)
         | (have R1 : Two wB (w.heap.size + 1) 0 0 := by with_reducible exact Two.below (Q1.alloc yA _) hb (by rw [World.size_alloc]; omega)
            have R3 : Two wB wA.heap.size 0 0 := by with_reducible exact Two.below (Two.fresh wA 0 0 24) hb (by rw [World.size_alloc]; omega)
            have hz := hb.size
            rw [World.size_alloc] at hz
            have zB : wA.heap.size < wB.heap.size := by omega
            have yB : w.heap.size + 1 < wB.heap.size := by omega
            have m1 : ¬ w.heap.size + 1 = wA.heap.size := by omega
            have m2 : ¬ wA.heap.size = w.heap.size + 1 := by omega
            have hB : Base w d0 d1 wB := by with_reducible exact (hA.alloc _).on hb
            have hP0 := cut_old hB R1 R3 (by omega) yB (by omega) zB (by omega) x0 x1 y0 y1
            have hP1 := (cut_old hB R3 R1 (by omega) zB (by omega) yB (by omega) x0 x1 y0 y1)
            obtain ⟨_, _, _, _⟩ := R1
            obtain ⟨_, _, _, _⟩ := R3
            clear hb)
         | (have R1 : Two wB (w.heap.size + 1) 0 0 := by with_reducible exact Two.below Q1 hb yA
            have yB : w.heap.size + 1 < wB.heap.size := Nat.lt_of_lt_of_le yA hb.size
            have m1 : ¬ w.heap.size + 1 = wB.heap.size := by omega
            have m2 : ¬ wB.heap.size = w.heap.size + 1 := by omega
            have hB : Base w d0 d1 wB := by with_reducible exact hA.on hb
            have hP0 := cut_mid hB R1 (by omega) yB x0 x1 y0 y1
            have hP1 := (cut_mid hB R1 (by omega) yB y0 y1 x0 x1).swap
            obtain ⟨_, _, _, _⟩ := R1
            clear hb)
         | (have R3 : Two wB wA.heap.size 0 0 := by with_reducible exact Two.below ((Two.fresh wA 0 0 24).alloc (by rw [World.size_alloc]; omega) _) hb (by rw [World.size_alloc, World.size_alloc]; omega)
            have R4 : Two wB (wA.heap.size + 1) 0 0 := by
              have := Two.fresh (wA.alloc (.cells #[.int .u64 0, .int .u64 0] 24)) 0 0 24
              rw [World.size_alloc] at this
              with_reducible exact Two.below this hb (by rw [World.size_alloc, World.size_alloc]; omega)
            have hz := hb.size
            rw [World.size_alloc, World.size_alloc] at hz
            have zB : wA.heap.size + 1 < wB.heap.size := by omega
            have yB : wA.heap.size < wB.heap.size := by omega
            have hB : Base w d0 d1 wB := by with_reducible exact ((hA.alloc _).alloc _).on hb
            have hs := hA.size
            have hP0 := cut_old hB R3 R4 (by omega) yB (by omega) zB (by omega) x0 x1 y0 y1
            have hP1 := (cut_old hB R4 R3 (by omega) zB (by omega) yB (by omega) x0 x1 y0 y1)
            obtain ⟨_, _, _, _⟩ := R3
            obtain ⟨_, _, _, _⟩ := R4
            clear hb)
         | (have R3 : Two wB wA.heap.size 0 0 := by with_reducible exact Two.below (Two.fresh wA 0 0 24) hb (by rw [World.size_alloc]; omega)
            have hz := hb.size
            rw [World.size_alloc] at hz
            have zB : wA.heap.size < wB.heap.size := by omega
            have m1 : ¬ wB.heap.size = wA.heap.size := by omega
            have m2 : ¬ wA.heap.size = wB.heap.size := by omega
            have hB : Base w d0 d1 wB := by with_reducible exact (hA.alloc _).on hb
            have hP0 := cut_mid hB R3 hA.size zB x0 x1 y0 y1
            have hP1 := (cut_mid hB R3 hA.size zB y0 y1 x0 x1).swap
            obtain ⟨_, _, _, _⟩ := R3
            clear hb)
         | (have hB : Base w d0 d1 wB := by with_reducible exact hA.on hb
            have hP0 := cut_new hB x0 x1 y0 y1
            have hP1 := (cut_new hB y0 y1 x0 x1).swap
            clear hb)))

  all_goals exact key _ _ _ (by with_reducible first | exact hP0 | exact hP1)
end Go.Proofs.Ytamhokedekhocaa
