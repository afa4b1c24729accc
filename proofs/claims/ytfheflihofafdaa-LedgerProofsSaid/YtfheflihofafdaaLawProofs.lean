/- For every ledger and index, LedgerProofs returns true and leaves its arguments as they were. -/
import Derived.Test.YtfheflihofafdaaEqual
namespace Go.Proofs.Ytfheflihofafdaa
open Go.ChangeShapes Go.WideShapes Go.ChangeAt Go.RowKit Go.Great Pt Tr
attribute [local go_sem] eq_arr

set_option maxRecDepth 100000 in
set_option maxHeartbeats 8000000 in
theorem proofs_big (a : Option Addr) (len c : Nat) (i : Int) (w : World) (KG : ∀ W, Below w.heap.size w W → Calls Try.prog 10 #[.agg #[.slice a len c]] W fun e w' => e = .returned (.bool true) ∧ Below W.heap.size W w') :
    Calls Try.prog 4 #[.agg #[.slice a len c], .int .i64 i] w fun e w' => e = .returned (.bool true) ∧ Below w.heap.size w w' := by
  have HG := Lib.hid KG
  have hb0 : Below w.heap.size w (w.alloc (.cells #[.slice a len c] 24)) := bla (Below.refl _ _) _
  clear KG
  go_enter Try.func4, Try.ntmps4
  go_wp2_with fail
  ((with_reducible refine (HG.out _ hb0).mono ?_); rintro e w1 ⟨rfl, hb1⟩)
  have hb2 := bl hb0 hb1
  go_wp2_with fail
  ((with_reducible refine (awake_any _).mono ?_); rintro e w3 ⟨rfl, hb3⟩)
  have hb4 := bl hb2 hb3
  go_wp2
  go_ret
  exact ⟨rfl, hb4⟩
set_option maxRecDepth 100000 in
set_option maxHeartbeats 8000000 in
theorem proofs_walk (a : Option Addr) (len c : Nat) (i ep ex x0 x1 : Int) (P X : List Dig) (w : World) (KG : ∀ W, Below w.heap.size w W → Calls Try.prog 10 #[.agg #[.slice a len c]] W fun e w' => e = .returned (.bool false) ∧ Below W.heap.size W w')
    (K17 : ∀ W, Below w.heap.size w W → Calls Try.prog 17 #[.agg #[.slice a len c], .int .i64 i] W fun e w' => ∃ u, e = .returned (.tuple #[u, .int .i64 ep]) ∧ IsDigs w' u P ∧ Below W.heap.size W w')
    (K18 : ∀ W, Below w.heap.size w W → Calls Try.prog 18 #[.agg #[.slice a len c], .int .i64 i] W fun e w' => ∃ u, e = .returned (.tuple #[u, .int .i64 ep]) ∧ IsDigs w' u P ∧ Below W.heap.size W w')
    (K19 : ∀ W, Below w.heap.size w W → Calls Try.prog 19 #[.agg #[.slice a len c], .int .i64 i] W fun e w' => ∃ u, e = .returned (.tuple #[u, .int .i64 ex]) ∧ IsDigs w' u X ∧ Below W.heap.size W w')
    (K20 : ∀ W, Below w.heap.size w W → Calls Try.prog 20 #[.agg #[.slice a len c], .int .i64 i] W fun e w' => ∃ u, e = .returned (.tuple #[u, .int .i64 ex]) ∧ IsDigs w' u X ∧ Below W.heap.size W w')
    (K21 : ∀ W, Below w.heap.size w W → Calls Try.prog 21 #[.agg #[.slice a len c]] W fun e w' => e = .returned (.agg #[.int .u64 x0, .int .u64 x1]) ∧ Below W.heap.size W w')
    (K22 : ∀ W, Below w.heap.size w W → Calls Try.prog 22 #[.agg #[.slice a len c]] W fun e w' => e = .returned (.agg #[.int .u64 x0, .int .u64 x1]) ∧ Below W.heap.size W w')
    (K23 : ∀ W u v L, IsDigs W u L → IsDigs W v L → Calls Try.prog 23 #[u, v] W fun e w' => e = .returned (.bool true) ∧ Below W.heap.size W w') :
    Calls Try.prog 4 #[.agg #[.slice a len c], .int .i64 i] w fun e w' => e = .returned (.bool true) ∧ Below w.heap.size w w' := by
  have HG := Lib.hid KG
  have H17 := Lib.hid K17
  have H18 := Lib.hid K18
  have H19 := Lib.hid K19
  have H20 := Lib.hid K20
  have H21 := Lib.hid K21
  have H22 := Lib.hid K22
  have H23 := Lib.hid K23
  clear KG K17 K18 K19 K20 K21 K22 K23
  have HB0 : Hid (Below w.heap.size w (w.alloc (.cells #[.slice a len c] 24))) := Lib.hid (bla (Below.refl _ _) _)
  have HX0 : Hid ((w.alloc (.cells #[.slice a len c] 24)).heap[w.heap.size]? = some (.cells #[.slice a len c] 24 (0, 0))) := Lib.hid (World.alloc_heap_new _ _)
  go_enter Try.func4, Try.ntmps4
  go_wp2_with fail
  ((with_reducible refine (HG.out _ HB0.out).mono ?_); rintro e w1 ⟨rfl, hb1⟩)
  have HB1 := Lib.hid (bl HB0.out hb1)
  have HX1 := Lib.hid ((hb1.block _ (lt_of_block HX0.out)).trans HX0.out)
  have c0 : w1.cell? ⟨w.heap.size, 0, none⟩ = some (.slice a len c) := by rw [Lib.cell_of_heap HX1.out]; rfl
  clear hb1
  go_wp2_with fail
  ((with_reducible refine (H17.out _ HB1.out).mono ?_); rintro e w2 ⟨u2, rfl, hu2, hb2⟩)
  have HU2 := Lib.hid hu2
  obtain ⟨a2, c2, hu, _⟩ := hu2
  subst hu
  have HB2 := Lib.hid (bl HB1.out hb2)
  have HX2 := Lib.hid ((hb2.block _ (lt_of_block HX1.out)).trans HX1.out)
  clear c0 hb2
  have c0 : w2.cell? ⟨w.heap.size, 0, none⟩ = some (.slice a len c) := by rw [Lib.cell_of_heap HX2.out]; rfl
  go_wp2_with fail
  ((with_reducible refine (H18.out _ HB2.out).mono ?_); rintro e w3 ⟨u3, rfl, hu3, hb3⟩)
  have HU3 := Lib.hid hu3
  obtain ⟨a3, c3, hu, _⟩ := hu3
  subst hu
  have HB3 := Lib.hid (bl HB2.out hb3)
  have HX3 := Lib.hid ((hb3.block _ (lt_of_block HX2.out)).trans HX2.out)
  have HU23 := Lib.hid (HU2.out.below hb3)
  clear c0 hb3
  have c0 : w3.cell? ⟨w.heap.size, 0, none⟩ = some (.slice a len c) := by rw [Lib.cell_of_heap HX3.out]; rfl
  go_wp2_with fail
  ((with_reducible refine (H19.out _ HB3.out).mono ?_); rintro e w4 ⟨u4, rfl, hu4, hb4⟩)
  have HU4 := Lib.hid hu4
  obtain ⟨a4, c4, hu, _⟩ := hu4
  subst hu
  have HB4 := Lib.hid (bl HB3.out hb4)
  have HX4 := Lib.hid ((hb4.block _ (lt_of_block HX3.out)).trans HX3.out)
  have HU24 := Lib.hid (HU23.out.below hb4)
  have HU34 := Lib.hid (HU3.out.below hb4)
  clear c0 hb4
  have c0 : w4.cell? ⟨w.heap.size, 0, none⟩ = some (.slice a len c) := by rw [Lib.cell_of_heap HX4.out]; rfl
  go_wp2_with fail
  ((with_reducible refine (H20.out _ HB4.out).mono ?_); rintro e w5 ⟨u5, rfl, hu5, hb5⟩)
  have HU5 := Lib.hid hu5
  obtain ⟨a5, c5, hu, _⟩ := hu5
  subst hu
  have HB5 := Lib.hid (bl HB4.out hb5)
  have HX5 := Lib.hid ((hb5.block _ (lt_of_block HX4.out)).trans HX4.out)
  have HU25 := Lib.hid (HU24.out.below hb5)
  have HU35 := Lib.hid (HU34.out.below hb5)
  have HU45 := Lib.hid (HU4.out.below hb5)
  clear c0 hb5
  have c0 : w5.cell? ⟨w.heap.size, 0, none⟩ = some (.slice a len c) := by rw [Lib.cell_of_heap HX5.out]; rfl
  go_wp2_with fail
  have below : Below (w5.heap.size) w5 w5 := Below.refl _ _
  have HBW : Hid (w5.heap.size ≤ w5.heap.size) := Lib.hid below.size
  have HKEEP : Hid (Keep (w5.heap.size) w5 [((w.heap.size, .cells #[.slice a len c] 24) : Nat × Obj)] w5) := Lib.hid ⟨below, by
    intro p hp
    simp only [List.mem_cons, List.not_mem_nil, or_false] at hp
    subst hp
    exact HX5.out⟩
  clear below
  have HOLD0 : Hid (∀ b ∈ ([] : List RBox), b.al = none → w5.heap[b.blk]? = some (.cells b.z b.T (0, 0)) ∧ w5.heap.size ≤ b.blk ∧ ∀ p ∈ [((w.heap.size, .cells #[.slice a len c] 24) : Nat × Obj)], p.1 ≠ b.blk) := Lib.hid (by intro b hb; cases hb)
  have hep : (ep == ep) = true := by simp
  have hex : (ex == ex) = true := by simp
  have hxx : (x0 == x0 && x1 == x1) = true := by simp
  refine wp_region_box (w5.heap.size) w5 [(w.heap.size, .cells #[.slice a len c] 24)] [] (fun i => ([(.agg #[.slice a len c]), (.agg #[.int .u64 x0, .int .u64 x1]), (.agg #[.slice a len c]), (.agg #[.int .u64 x0, .int .u64 x1]), (.bool true), (.bool true), (.slice a2 P.length c2), (.slice a3 P.length c3), (.bool true), (.bool true), (.bool true), (.int .i64 ep), (.int .i64 ep), (.bool true), (.bool true), (.bool true), (.slice a4 X.length c4), (.slice a5 X.length c5), (.bool true), (.bool true), (.bool true), (.int .i64 ex), (.int .i64 ex), (.bool true), (.bool true), (.bool true), (.bool true), (.bool true), (.bool true)] : List Value).getD i undef) (by kernel_rfl) (by kernel_rfl) (by kernel_rfl) (by rfl) (by simp) (by rfl) HBW.out HKEEP.out HOLD0.out ?_ ?_
  · refine ⟨?_, ?_, ?_, ?_, ?_, ?_, ?_, ?_, ?_, ?_, ?_, ?_, ?_, ?_, ?_, ?_, ?_, ?_, ?_, ?_, ?_, ?_, ?_, ?_, ?_, ?_, ?_, ?_, ?_, trivial⟩
    · refine stepG_plain rfl rfl fun g ac W hK hk => ?_
      have h2 : ac.tmps[2]? = some (.pointer (some ⟨w.heap.size, 0, none⟩)) := hk.keep 2 rfl
      have mxq := hK.get 0 rfl
      have q0 : W.cell? ⟨w.heap.size, 0, none⟩ = some (.slice a len c) := by rw [Lib.cell_of_heap mxq]; rfl
      refine wpOp_of rfl rfl ?_
      unfold Oper.wp
      simp [execOp, go_sem, h2, q0]
      first | exact ⟨rfl, Below.refl _ _⟩ | exact Below.refl _ _
    · refine stepG_plain rfl rfl fun g ac W hK hk => ?_
      have h40 : ac.tmps[40]? = some (.agg #[.slice a len c]) := hk.has 0 _ 40 rfl rfl rfl (by simp) rfl
      refine wpOp_of rfl rfl ?_
      unfold Oper.wp
      simp [execOp, go_sem, h40]
      refine (H21.out W (bl HB5.out hK.1)).mono ?_
      rintro e w' ⟨rfl, hb⟩
      exact ⟨rfl, hb⟩
    · refine stepG_plain rfl rfl fun g ac W hK hk => ?_
      have h2 : ac.tmps[2]? = some (.pointer (some ⟨w.heap.size, 0, none⟩)) := hk.keep 2 rfl
      have mxq := hK.get 0 rfl
      have q0 : W.cell? ⟨w.heap.size, 0, none⟩ = some (.slice a len c) := by rw [Lib.cell_of_heap mxq]; rfl
      refine wpOp_of rfl rfl ?_
      unfold Oper.wp
      simp [execOp, go_sem, h2, q0]
      first | exact ⟨rfl, Below.refl _ _⟩ | exact Below.refl _ _
    · refine stepG_plain rfl rfl fun g ac W hK hk => ?_
      have h42 : ac.tmps[42]? = some (.agg #[.slice a len c]) := hk.has 2 _ 42 rfl rfl rfl (by simp) rfl
      refine wpOp_of rfl rfl ?_
      unfold Oper.wp
      simp [execOp, go_sem, h42]
      refine (H22.out W (bl HB5.out hK.1)).mono ?_
      rintro e w' ⟨rfl, hb⟩
      exact ⟨rfl, hb⟩
    · refine stepG_plain rfl rfl fun g ac W hK hk => ?_
      have h41 : ac.tmps[41]? = some (.agg #[.int .u64 x0, .int .u64 x1]) := hk.has 1 _ 41 rfl rfl rfl (by simp) rfl
      have h43 : ac.tmps[43]? = some (.agg #[.int .u64 x0, .int .u64 x1]) := hk.has 3 _ 43 rfl rfl rfl (by simp) rfl
      refine wpOp_of rfl rfl ?_
      unfold Oper.wp
      simp [execOp, go_sem, h41, h43]
      first | exact ⟨rfl, Below.refl _ _⟩ | exact Below.refl _ _
    · refine stepG_plain rfl rfl fun g ac W hK hk => ?_
      have h44 : ac.tmps[44]? = some (.bool true) := hk.has 4 _ 44 rfl rfl rfl (by simp) rfl
      refine wpOp_of rfl rfl ?_
      unfold Oper.wp
      simp [execOp, go_sem, h44]
      first | exact ⟨rfl, Below.refl _ _⟩ | exact Below.refl _ _
    · refine stepG_plain rfl rfl fun g ac W hK hk => ?_
      have h5 : ac.tmps[5]? = some (.slice a2 P.length c2) := hk.keep 5 rfl
      have hg : ac.tmps[45]? = some (.bool true) := hk.has 5 _ 45 rfl rfl rfl (by simp) rfl
      refine wpOp_of rfl (by simp [Region.wanted, yielded, hg]) ?_
      unfold Oper.wp
      simp [execOp, go_sem, h5]
      first | exact ⟨rfl, Below.refl _ _⟩ | exact Below.refl _ _
    · refine stepG_plain rfl rfl fun g ac W hK hk => ?_
      have h7 : ac.tmps[7]? = some (.slice a3 P.length c3) := hk.keep 7 rfl
      have hg : ac.tmps[45]? = some (.bool true) := hk.has 5 _ 45 rfl rfl rfl (by simp) rfl
      refine wpOp_of rfl (by simp [Region.wanted, yielded, hg]) ?_
      unfold Oper.wp
      simp [execOp, go_sem, h7]
      first | exact ⟨rfl, Below.refl _ _⟩ | exact Below.refl _ _
    · refine stepG_plain rfl rfl fun g ac W hK hk => ?_
      have h46 : ac.tmps[46]? = some (.slice a2 P.length c2) := hk.has 6 _ 46 rfl rfl rfl (by simp) rfl
      have h47 : ac.tmps[47]? = some (.slice a3 P.length c3) := hk.has 7 _ 47 rfl rfl rfl (by simp) rfl
      have hg : ac.tmps[45]? = some (.bool true) := hk.has 5 _ 45 rfl rfl rfl (by simp) rfl
      refine wpOp_of rfl (by simp [Region.wanted, yielded, hg]) ?_
      unfold Oper.wp
      simp [execOp, go_sem, h46, h47]
      refine (H23.out W _ _ P (HU25.out.below hK.1) (HU35.out.below hK.1)).mono ?_
      rintro e w' ⟨rfl, hb⟩
      exact ⟨rfl, hb⟩
    · refine stepG_plain rfl rfl fun g ac W hK hk => ?_
      have h45 : ac.tmps[45]? = some (.bool true) := hk.has 5 _ 45 rfl rfl rfl (by simp) rfl
      have h48 : ac.tmps[48]? = some (.bool true) := hk.has 8 _ 48 rfl rfl rfl (by simp) rfl
      refine wpOp_of rfl rfl ?_
      unfold Oper.wp
      simp [execOp, go_sem, h45, h48]
      first | exact ⟨rfl, Below.refl _ _⟩ | exact Below.refl _ _
    · refine stepG_plain rfl rfl fun g ac W hK hk => ?_
      have h49 : ac.tmps[49]? = some (.bool true) := hk.has 9 _ 49 rfl rfl rfl (by simp) rfl
      refine wpOp_of rfl rfl ?_
      unfold Oper.wp
      simp [execOp, go_sem, h49]
      first | exact ⟨rfl, Below.refl _ _⟩ | exact Below.refl _ _
    · refine stepG_plain rfl rfl fun g ac W hK hk => ?_
      have h6 : ac.tmps[6]? = some (.int .i64 ep) := hk.keep 6 rfl
      have hg : ac.tmps[50]? = some (.bool true) := hk.has 10 _ 50 rfl rfl rfl (by simp) rfl
      refine wpOp_of rfl (by simp [Region.wanted, yielded, hg]) ?_
      unfold Oper.wp
      simp [execOp, go_sem, h6]
      first | exact ⟨rfl, Below.refl _ _⟩ | exact Below.refl _ _
    · refine stepG_plain rfl rfl fun g ac W hK hk => ?_
      have h8 : ac.tmps[8]? = some (.int .i64 ep) := hk.keep 8 rfl
      have hg : ac.tmps[50]? = some (.bool true) := hk.has 10 _ 50 rfl rfl rfl (by simp) rfl
      refine wpOp_of rfl (by simp [Region.wanted, yielded, hg]) ?_
      unfold Oper.wp
      simp [execOp, go_sem, h8]
      first | exact ⟨rfl, Below.refl _ _⟩ | exact Below.refl _ _
    · refine stepG_plain rfl rfl fun g ac W hK hk => ?_
      have h51 : ac.tmps[51]? = some (.int .i64 ep) := hk.has 11 _ 51 rfl rfl rfl (by simp) rfl
      have h52 : ac.tmps[52]? = some (.int .i64 ep) := hk.has 12 _ 52 rfl rfl rfl (by simp) rfl
      have hg : ac.tmps[50]? = some (.bool true) := hk.has 10 _ 50 rfl rfl rfl (by simp) rfl
      refine wpOp_of rfl (by simp [Region.wanted, yielded, hg]) ?_
      unfold Oper.wp
      simp [execOp, go_sem, h51, h52]
      first | exact ⟨rfl, Below.refl _ _⟩ | exact Below.refl _ _
    · refine stepG_plain rfl rfl fun g ac W hK hk => ?_
      have h50 : ac.tmps[50]? = some (.bool true) := hk.has 10 _ 50 rfl rfl rfl (by simp) rfl
      have h53 : ac.tmps[53]? = some (.bool true) := hk.has 13 _ 53 rfl rfl rfl (by simp) rfl
      refine wpOp_of rfl rfl ?_
      unfold Oper.wp
      simp [execOp, go_sem, h50, h53]
      first | exact ⟨rfl, Below.refl _ _⟩ | exact Below.refl _ _
    · refine stepG_plain rfl rfl fun g ac W hK hk => ?_
      have h54 : ac.tmps[54]? = some (.bool true) := hk.has 14 _ 54 rfl rfl rfl (by simp) rfl
      refine wpOp_of rfl rfl ?_
      unfold Oper.wp
      simp [execOp, go_sem, h54]
      first | exact ⟨rfl, Below.refl _ _⟩ | exact Below.refl _ _
    · refine stepG_plain rfl rfl fun g ac W hK hk => ?_
      have h9 : ac.tmps[9]? = some (.slice a4 X.length c4) := hk.keep 9 rfl
      have hg : ac.tmps[55]? = some (.bool true) := hk.has 15 _ 55 rfl rfl rfl (by simp) rfl
      refine wpOp_of rfl (by simp [Region.wanted, yielded, hg]) ?_
      unfold Oper.wp
      simp [execOp, go_sem, h9]
      first | exact ⟨rfl, Below.refl _ _⟩ | exact Below.refl _ _
    · refine stepG_plain rfl rfl fun g ac W hK hk => ?_
      have h11 : ac.tmps[11]? = some (.slice a5 X.length c5) := hk.keep 11 rfl
      have hg : ac.tmps[55]? = some (.bool true) := hk.has 15 _ 55 rfl rfl rfl (by simp) rfl
      refine wpOp_of rfl (by simp [Region.wanted, yielded, hg]) ?_
      unfold Oper.wp
      simp [execOp, go_sem, h11]
      first | exact ⟨rfl, Below.refl _ _⟩ | exact Below.refl _ _
    · refine stepG_plain rfl rfl fun g ac W hK hk => ?_
      have h56 : ac.tmps[56]? = some (.slice a4 X.length c4) := hk.has 16 _ 56 rfl rfl rfl (by simp) rfl
      have h57 : ac.tmps[57]? = some (.slice a5 X.length c5) := hk.has 17 _ 57 rfl rfl rfl (by simp) rfl
      have hg : ac.tmps[55]? = some (.bool true) := hk.has 15 _ 55 rfl rfl rfl (by simp) rfl
      refine wpOp_of rfl (by simp [Region.wanted, yielded, hg]) ?_
      unfold Oper.wp
      simp [execOp, go_sem, h56, h57]
      refine (H23.out W _ _ X (HU45.out.below hK.1) (HU5.out.below hK.1)).mono ?_
      rintro e w' ⟨rfl, hb⟩
      exact ⟨rfl, hb⟩
    · refine stepG_plain rfl rfl fun g ac W hK hk => ?_
      have h55 : ac.tmps[55]? = some (.bool true) := hk.has 15 _ 55 rfl rfl rfl (by simp) rfl
      have h58 : ac.tmps[58]? = some (.bool true) := hk.has 18 _ 58 rfl rfl rfl (by simp) rfl
      refine wpOp_of rfl rfl ?_
      unfold Oper.wp
      simp [execOp, go_sem, h55, h58]
      first | exact ⟨rfl, Below.refl _ _⟩ | exact Below.refl _ _
    · refine stepG_plain rfl rfl fun g ac W hK hk => ?_
      have h59 : ac.tmps[59]? = some (.bool true) := hk.has 19 _ 59 rfl rfl rfl (by simp) rfl
      refine wpOp_of rfl rfl ?_
      unfold Oper.wp
      simp [execOp, go_sem, h59]
      first | exact ⟨rfl, Below.refl _ _⟩ | exact Below.refl _ _
    · refine stepG_plain rfl rfl fun g ac W hK hk => ?_
      have h10 : ac.tmps[10]? = some (.int .i64 ex) := hk.keep 10 rfl
      have hg : ac.tmps[60]? = some (.bool true) := hk.has 20 _ 60 rfl rfl rfl (by simp) rfl
      refine wpOp_of rfl (by simp [Region.wanted, yielded, hg]) ?_
      unfold Oper.wp
      simp [execOp, go_sem, h10]
      first | exact ⟨rfl, Below.refl _ _⟩ | exact Below.refl _ _
    · refine stepG_plain rfl rfl fun g ac W hK hk => ?_
      have h12 : ac.tmps[12]? = some (.int .i64 ex) := hk.keep 12 rfl
      have hg : ac.tmps[60]? = some (.bool true) := hk.has 20 _ 60 rfl rfl rfl (by simp) rfl
      refine wpOp_of rfl (by simp [Region.wanted, yielded, hg]) ?_
      unfold Oper.wp
      simp [execOp, go_sem, h12]
      first | exact ⟨rfl, Below.refl _ _⟩ | exact Below.refl _ _
    · refine stepG_plain rfl rfl fun g ac W hK hk => ?_
      have h61 : ac.tmps[61]? = some (.int .i64 ex) := hk.has 21 _ 61 rfl rfl rfl (by simp) rfl
      have h62 : ac.tmps[62]? = some (.int .i64 ex) := hk.has 22 _ 62 rfl rfl rfl (by simp) rfl
      have hg : ac.tmps[60]? = some (.bool true) := hk.has 20 _ 60 rfl rfl rfl (by simp) rfl
      refine wpOp_of rfl (by simp [Region.wanted, yielded, hg]) ?_
      unfold Oper.wp
      simp [execOp, go_sem, h61, h62]
      first | exact ⟨rfl, Below.refl _ _⟩ | exact Below.refl _ _
    · refine stepG_plain rfl rfl fun g ac W hK hk => ?_
      have h60 : ac.tmps[60]? = some (.bool true) := hk.has 20 _ 60 rfl rfl rfl (by simp) rfl
      have h63 : ac.tmps[63]? = some (.bool true) := hk.has 23 _ 63 rfl rfl rfl (by simp) rfl
      refine wpOp_of rfl rfl ?_
      unfold Oper.wp
      simp [execOp, go_sem, h60, h63]
      first | exact ⟨rfl, Below.refl _ _⟩ | exact Below.refl _ _
    · refine stepG_plain rfl rfl fun g ac W hK hk => ?_
      have h64 : ac.tmps[64]? = some (.bool true) := hk.has 24 _ 64 rfl rfl rfl (by simp) rfl
      refine wpOp_of rfl rfl ?_
      unfold Oper.wp
      simp [execOp, go_sem, h64]
      first | exact ⟨rfl, Below.refl _ _⟩ | exact Below.refl _ _
    · refine stepG_plain rfl rfl fun g ac W hK hk => ?_
      have hg : ac.tmps[65]? = some (.bool true) := hk.has 25 _ 65 rfl rfl rfl (by simp) rfl
      refine wpOp_of rfl (by simp [Region.wanted, yielded, hg]) ?_
      unfold Oper.wp
      simp [execOp, go_sem]
      refine (awake_any W).mono ?_
      rintro e w' ⟨rfl, hb⟩
      exact ⟨rfl, hb⟩
    · refine stepG_plain rfl rfl fun g ac W hK hk => ?_
      have h65 : ac.tmps[65]? = some (.bool true) := hk.has 25 _ 65 rfl rfl rfl (by simp) rfl
      have h66 : ac.tmps[66]? = some (.bool true) := hk.has 26 _ 66 rfl rfl rfl (by simp) rfl
      refine wpOp_of rfl rfl ?_
      unfold Oper.wp
      simp [execOp, go_sem, h65, h66]
      first | exact ⟨rfl, Below.refl _ _⟩ | exact Below.refl _ _
    · refine stepG_plain rfl rfl fun g ac W hK hk => ?_
      have h67 : ac.tmps[67]? = some (.bool true) := hk.has 27 _ 67 rfl rfl rfl (by simp) rfl
      refine wpOp_of rfl rfl ?_
      unfold Oper.wp
      simp [execOp, go_sem, h67]
      first | exact ⟨rfl, Below.refl _ _⟩ | exact Below.refl _ _
  · intro g W hK hsz hB hd
    simp [frameOf, Act.put, valG]
    have HW := Lib.hid (bl HB5.out hK.1)
    clear hK hB hd hsz
    go_wp2
    go_ret
    exact ⟨rfl, HW.out⟩

theorem proofsLaw_any (L : List Rec) (v : Value) (i : Int) (w : World) (h : IsRecs w v L) (hf : ∀ x ∈ L, x.Fit) :
    Calls Try.prog 4 #[.agg #[v], .int .i64 i] w fun e w' => e = .returned (.bool true) ∧ Below w.heap.size w w' := by
  obtain ⟨a, c, e, _⟩ := id h
  subst e
  have hW : ∀ W, Below w.heap.size w W → IsRecs W (.slice a L.length c) L := fun W hb => h.below hb (Nat.le_refl _)
  cases hbig : bigL L with
  | true => exact proofs_big a L.length c i w fun W hb => great_any L _ W (hW W hb) hf true hbig
  | false =>
    have hlen : L.length < 999 := by
      unfold bigL at hbig
      simp only [Bool.or_eq_false_iff, decide_eq_false_iff_not] at hbig
      omega
    exact proofs_walk a L.length c i (proveE L i) (extE L i) (headM L).1 (headM L).2 (proveM L i) (extM L i) w (fun W hb => great_any L _ W (hW W hb) hf false hbig)
      (fun W hb => prove_any L _ i W (hW W hb) hf hlen) (fun W hb => refProve_any L _ i W (hW W hb) hf (by omega)) (fun W hb => extend_any L _ i W (hW W hb) hf hlen) (fun W hb => refExtend_any L _ i W (hW W hb) hf hlen)
      (fun W hb => head_any L _ W (hW W hb) hf) (fun W hb => refHead_any L _ W (hW W hb) hf) (fun W u v M hu hv => by
        refine (equal_any M M u v W hu hv).mono ?_
        rintro e w' ⟨rfl, hb⟩
        exact ⟨by simp, hb⟩)

set_option maxRecDepth 100000 in
theorem proofs_lifted (os : Os) (started : os.Started) (H : Type) (enc : TypeId × Value → H) :
    ReturnsInHanded {} Try.checked os 4 .any (Rows.ledgerProofsSpec.pre6 enc Try.prog Try.f4 Rows.ledgerProofsRow.domain false) (Rows.ledgerProofsSpec.post enc Try.prog Try.f4 false true false false) := by
  refine returnsInHanded_of_change (C := Try.checked) ownK started (by kernel_rfl) Try.func4
    (ChangeSpec.witness6 (enc := enc) (C := Try.checked) false ⟨#[], #[.agg #[.slice none 0 0], .int .i64 0], []⟩ 8 (by kernel_rfl) (by kernel_rfl) (by kernel_rfl) (by kernel_rfl)) ?_
  intro W base args ds gs before hval0 hW hcnd _
  have hval : ∀ (j : Nat) t v, Try.f4.params[j]? = some t → args[j]? = some v → Value.okWide Try.prog W .any base t v := hval0
  have hW' := hW
  obtain ⟨p, q, hA0, hV, rfl, hfz, hnd⟩ := hW
  have hA : DataW.TrodAll enc Try.prog W 0 (fun _ => true) true Try.f4.params.toList args.toList ds p := hA0
  rw [Try.params4] at hA hval
  obtain ⟨v0, v1, d0, d1, p0, p1, rfl, rfl, rfl, h0, h1⟩ := trodAll_two hA
  obtain ⟨rfl, rfl⟩ := trodVars_none hV
  have k0 := h0
  have lt0 : ∀ x ∈ p0, x.block < W.heap.size := by obtain ⟨m, hm⟩ := k0; exact DataW.trod_lt m _ _ _ hm
  obtain ⟨u, L, rfl, i0, hf⟩ := open_ledger (hval 0 24 v0 rfl rfl) h0
  obtain ⟨i, rfl, rfl, rfl, w1⟩ := open_int Try.underlying3 (hval 1 3 v1 rfl rfl) h1
  clear hA0 hval0
  refine (proofsLaw_any L u i W i0 hf).mono fun e W' ⟨he, bel⟩ => ?_
  subst he
  exact ⟨_, rfl, _, _, _, [], _, [], hW', trodAll_mk1 (shut_bool Try.underlying4 _), (trodAll_cons_mk (Below.trod laidOut (by kernel_rfl) (of_decide_eq_true (by kernel_rfl)) k0 bel lt0) (trodAll_cons_mk (shut_int Try.underlying3 w1) trodAll_mk0)), rfl, bel.frame _, fun h => by cases h⟩

set_option maxRecDepth 100000 in
theorem proofs_holds : Rows.LedgerProofsSaid :=
  OpenClaim.holds_of_wide 4 Try.f4 rfl rfl rfl rfl rfl rfl rfl ⟨rfl, rfl, rfl, rfl, rfl⟩ rfl rfl rfl rfl rfl (by kernel_rfl) Try.func4 (by kernel_rfl)
    (of_decide_eq_true (by kernel_rfl)) (by unfold Func.isWrapper; rw [if_neg (of_decide_eq_false (by kernel_rfl))]; exact ⟨rfl, rfl⟩)
    (fun os started H enc _ => proofs_lifted os started H enc)
#print axioms proofs_holds
end Go.Proofs.Ytfheflihofafdaa
