/- For every ledger, LedgerGrowth returns true and leaves its argument as it was: the growth proof from each beginning of a valid ledger holds. -/
import Derived.Test.YtfheflihofafdaaLawRecords
namespace Go.Proofs.Ytfheflihofafdaa
open Go.ChangeShapes Go.WideShapes Go.ChangeAt Go.RowKit Go.Great Pt Tr
attribute [local go_sem] eq_arr

set_option maxRecDepth 100000 in
set_option maxHeartbeats 8000000 in
theorem growth_big (a : Option Addr) (len c : Nat) (w : World) (KG : ∀ W, Below w.heap.size w W → Calls Try.prog 10 #[.agg #[.slice a len c]] W fun e w' => e = .returned (.bool true) ∧ Below W.heap.size W w') :
    Calls Try.prog 7 #[.agg #[.slice a len c]] w fun e w' => e = .returned (.bool true) ∧ Below w.heap.size w w' := by
  have HG := Lib.hid KG
  clear KG
  have HB0 : Hid (Below w.heap.size w (w.alloc (.cells #[.slice a len c] 24))) := Lib.hid (bla (Below.refl _ _) _)
  have HX0 : Hid ((w.alloc (.cells #[.slice a len c] 24)).heap[w.heap.size]? = some (.cells #[.slice a len c] 24 (0, 0))) := Lib.hid (World.alloc_heap_new _ _)
  go_enter Try.func7, Try.ntmps7
  go_wp2_with fail
  ((with_reducible refine (HG.out _ HB0.out).mono ?_); rintro e w1 ⟨rfl, hb1⟩)
  have HB1 := Lib.hid (bl HB0.out hb1)
  have HX1 := Lib.hid ((hb1.block _ (lt_of_block HX0.out)).trans HX0.out)
  clear hb1
  go_wp2_with fail
  ((with_reducible refine (awake_any _).mono ?_); rintro e w9 ⟨rfl, hb9⟩)
  have hb := bl HB1.out hb9
  go_wp2
  go_ret
  exact ⟨rfl, hb⟩
set_option maxRecDepth 100000 in
set_option maxHeartbeats 8000000 in
theorem growth_bad (a : Option Addr) (len c : Nat) (ec : Int) (w : World) (he : ec ≠ 0) (KG : ∀ W, Below w.heap.size w W → Calls Try.prog 10 #[.agg #[.slice a len c]] W fun e w' => e = .returned (.bool false) ∧ Below W.heap.size W w')
    (KC : ∀ W, Below w.heap.size w W → Calls Try.prog 14 #[.agg #[.slice a len c]] W fun e w' => e = .returned (.int .i64 ec) ∧ Below W.heap.size W w') :
    Calls Try.prog 7 #[.agg #[.slice a len c]] w fun e w' => e = .returned (.bool true) ∧ Below w.heap.size w w' := by
  have HG := Lib.hid KG
  have HC := Lib.hid KC
  have hne : (ec != 0) = true := by simpa using he
  clear KG KC he
  have HB0 : Hid (Below w.heap.size w (w.alloc (.cells #[.slice a len c] 24))) := Lib.hid (bla (Below.refl _ _) _)
  have HX0 : Hid ((w.alloc (.cells #[.slice a len c] 24)).heap[w.heap.size]? = some (.cells #[.slice a len c] 24 (0, 0))) := Lib.hid (World.alloc_heap_new _ _)
  go_enter Try.func7, Try.ntmps7
  go_wp2_with fail
  ((with_reducible refine (HG.out _ HB0.out).mono ?_); rintro e w1 ⟨rfl, hb1⟩)
  have HB1 := Lib.hid (bl HB0.out hb1)
  have HX1 := Lib.hid ((hb1.block _ (lt_of_block HX0.out)).trans HX0.out)
  clear hb1
  have x0 : w1.cell? ⟨w.heap.size, 0, none⟩ = some (.slice a len c) := by rw [Lib.cell_of_heap HX1.out]; rfl
  go_wp2_with fail
  ((with_reducible refine (HC.out _ HB1.out).mono ?_); rintro e w2 ⟨rfl, hb2⟩)
  have HB2 := Lib.hid (bl HB1.out hb2)
  have HX2 := Lib.hid ((hb2.block _ (lt_of_block HX1.out)).trans HX1.out)
  clear x0 hb2
  go_wp2_with fail
  ((with_reducible refine (awake_any _).mono ?_); rintro e w9 ⟨rfl, hb9⟩)
  have hb := bl HB2.out hb9
  go_wp2
  go_ret
  exact ⟨rfl, hb⟩
set_option maxRecDepth 100000 in
set_option maxHeartbeats 8000000 in
theorem growth_walk (a : Option Addr) (c len : Nat) (x0 x1 : Int) (P : Nat → List Dig) (Y0 Y1 : Nat → Int) (w : World) (hlen : len ≤ 20) (hlc : len ≤ c)
    (KG : ∀ W, Below w.heap.size w W → Calls Try.prog 10 #[.agg #[.slice a len c]] W fun e w' => e = .returned (.bool false) ∧ Below W.heap.size W w')
    (KC : ∀ W, Below w.heap.size w W → Calls Try.prog 14 #[.agg #[.slice a len c]] W fun e w' => e = .returned (.int .i64 0) ∧ Below W.heap.size W w')
    (K19 : ∀ k (_ : k ≤ len), ∀ W, Below w.heap.size w W → Calls Try.prog 19 #[.agg #[.slice a len c], .int .i64 k] W fun e w' => ∃ u, e = .returned (.tuple #[u, .int .i64 0]) ∧ IsDigs w' u (P k) ∧ Below W.heap.size W w')
    (K21 : ∀ W, Below w.heap.size w W → Calls Try.prog 21 #[.agg #[.slice a len c]] W fun e w' => e = .returned (.agg #[.int .u64 x0, .int .u64 x1]) ∧ Below W.heap.size W w')
    (KH : ∀ k (_ : k ≤ len), ∀ W, Below w.heap.size w W → Calls Try.prog 21 #[.agg #[.slice a k c]] W fun e w' => e = .returned (.agg #[.int .u64 (Y0 k), .int .u64 (Y1 k)]) ∧ Below W.heap.size W w')
    (K26 : ∀ k (_ : k ≤ len), ∀ W u, IsDigs W u (P k) → Calls Try.prog 26 #[.agg #[.int .u64 (Y0 k), .int .u64 (Y1 k)], .int .i64 k, .agg #[.int .u64 x0, .int .u64 x1], .int .i64 len, u] W fun e w' => e = .returned (.bool true) ∧ Below W.heap.size W w') :
    Calls Try.prog 7 #[.agg #[.slice a len c]] w fun e w' => e = .returned (.bool true) ∧ Below w.heap.size w w' := by
  have HG := Lib.hid KG
  have HC := Lib.hid KC
  have H19 := Lib.hid K19
  have H21 := Lib.hid K21
  have HH := Lib.hid KH
  have H26 := Lib.hid K26
  clear KG KC K19 K21 KH K26
  have HB0 : Hid (Below w.heap.size w (w.alloc (.cells #[.slice a len c] 24))) := Lib.hid (bla (Below.refl _ _) _)
  have HX0 : Hid ((w.alloc (.cells #[.slice a len c] 24)).heap[w.heap.size]? = some (.cells #[.slice a len c] 24 (0, 0))) := Lib.hid (World.alloc_heap_new _ _)
  go_enter Try.func7, Try.ntmps7
  go_wp2_with fail
  ((with_reducible refine (HG.out _ HB0.out).mono ?_); rintro e w1 ⟨rfl, hb1⟩)
  have HB1 := Lib.hid (bl HB0.out hb1)
  have HX1 := Lib.hid ((hb1.block _ (lt_of_block HX0.out)).trans HX0.out)
  clear hb1
  have x0 : w1.cell? ⟨w.heap.size, 0, none⟩ = some (.slice a len c) := by rw [Lib.cell_of_heap HX1.out]; rfl
  go_wp2_with fail
  ((with_reducible refine (HC.out _ HB1.out).mono ?_); rintro e w2 ⟨rfl, hb2⟩)
  have HB2 := Lib.hid (bl HB1.out hb2)
  have HX2 := Lib.hid ((hb2.block _ (lt_of_block HX1.out)).trans HX1.out)
  clear x0 hb2
  have x0' : w2.cell? ⟨w.heap.size, 0, none⟩ = some (.slice a len c) := by rw [Lib.cell_of_heap HX2.out]; rfl
  go_wp2_with fail
  go_loopw [20] (fun i wr => ∃ k : Nat, k ≤ len + 1 ∧ i = .int .i64 k ∧ Hid (Below w.heap.size w wr) ∧ Hid (wr.heap[w.heap.size]? = some (.cells #[.slice a len c] 24 (0, 0)))) (fun i _ => len + 1 - (intOf i).toNat)
  case atStart => exact ⟨0, Nat.zero_le _, rfl, HB2, HX2⟩
  case round =>
    clear x0' HB2 HX2 HB1 HX1 HB0 HX0
    obtain ⟨k, hk, rfl, HB, HX⟩ := hrel
    by_cases hlt : k < len + 1
    · have hle : k ≤ len := by omega
      have K26' := Lib.hid fun W u hu => H26.out k hle W u hu
      have KH' := Lib.hid fun W hW => HH.out k hle W hW
      generalize Y0 k = y0 at *
      generalize Y1 k = y1 at *
      have xb : wr.cell? ⟨w.heap.size, 0, none⟩ = some (.slice a len c) := by rw [Lib.cell_of_heap HX.out]; rfl
      have z1 : (0 : Int) ≤ (k : Int) := by omega
      have z2 : (k : Int) ≤ (c : Int) := by omega
      have z3 : (k : Int) < (len : Int) + 1 := by omega
      go_wp2_with fail
      ((with_reducible refine (H19.out k hle _ HB.out).mono ?_); rintro e w5 ⟨u, rfl, hu, hb5⟩)
      have HU := Lib.hid hu
      obtain ⟨au, cu, hue, _⟩ := hu
      subst hue
      have HB5 := Lib.hid (bl HB.out hb5)
      have HX5 := Lib.hid ((hb5.block _ (lt_of_block HX.out)).trans HX.out)
      clear xb hb5
      go_wp2_with fail
      have below : Below (w5.heap.size) w5 w5 := Below.refl _ _
      have HBW : Hid (w5.heap.size ≤ w5.heap.size) := Lib.hid below.size
      have HKEEP : Hid (Keep (w5.heap.size) w5 [((w.heap.size, .cells #[.slice a len c] 24) : Nat × Obj)] w5) := Lib.hid ⟨below, by
        intro p hp
        simp only [List.mem_cons, List.not_mem_nil, or_false] at hp
        subst hp
        exact HX5.out⟩
      clear below
      have HOLD0 : Hid (∀ xb ∈ ([] : List RBox), xb.al = none → w5.heap[xb.blk]? = some (.cells xb.z xb.T (0, 0)) ∧ w5.heap.size ≤ xb.blk ∧ ∀ p ∈ [((w.heap.size, .cells #[.slice a len c] 24) : Nat × Obj)], p.1 ≠ xb.blk) := Lib.hid (by intro xb hb; cases hb)
      refine wp_region_box (w5.heap.size) w5 [(w.heap.size, .cells #[.slice a len c] 24)] [] (fun i => ([(.int .i64 0), (.bool false), (.bool false), (.pointer (some ⟨w.heap.size, 0, none⟩)), (.slice a len c), (.int .i64 k), (.slice a k c), (.agg #[.slice a k c]), (.agg #[.int .u64 y0, .int .u64 y1]), (.int .i64 k), (.agg #[.slice a len c]), (.agg #[.int .u64 x0, .int .u64 x1]), (.int .i64 len), (.slice au (P k).length cu), (.bool true), (.bool false), (.bool false)] : List Value).getD i undef) (by kernel_rfl) (by kernel_rfl) (by kernel_rfl) (by rfl) (by simp) (by rfl) HBW.out HKEEP.out HOLD0.out ?_ ?_
      · refine ⟨?_, ?_, ?_, ?_, ?_, ?_, ?_, ?_, ?_, ?_, ?_, ?_, ?_, ?_, ?_, ?_, ?_, trivial⟩
        · refine stepG_plain rfl rfl fun g ac W hK hk => ?_
          have h6 : ac.tmps[6]? = some (.int .i64 0) := hk.keep 6 rfl
          refine wpOp_of rfl rfl ?_
          unfold Oper.wp
          simp [execOp, go_sem, h6]
          first | exact ⟨rfl, Below.refl _ _⟩ | exact Below.refl _ _
        · refine stepG_plain rfl rfl fun g ac W hK hk => ?_
          have h29 : ac.tmps[29]? = some (.int .i64 0) := hk.has 0 _ 29 rfl rfl rfl (by simp) rfl
          refine wpOp_of rfl rfl ?_
          unfold Oper.wp
          simp [execOp, go_sem, h29]
          first | exact ⟨rfl, Below.refl _ _⟩ | exact Below.refl _ _
        · refine stepG_plain rfl rfl fun g ac W hK hk => ?_
          have h30 : ac.tmps[30]? = some (.bool false) := hk.has 1 _ 30 rfl rfl rfl (by simp) rfl
          refine wpOp_of rfl rfl ?_
          unfold Oper.wp
          simp [execOp, go_sem, h30]
          first | exact ⟨rfl, Below.refl _ _⟩ | exact Below.refl _ _
        · refine stepG_plain rfl rfl fun g ac W hK hk => ?_
          have h1 : ac.tmps[1]? = some (.pointer (some ⟨w.heap.size, 0, none⟩)) := hk.keep 1 rfl
          have hg : ac.tmps[31]? = some (.bool false) := hk.has 2 _ 31 rfl rfl rfl (by simp) rfl
          refine wpOp_of rfl (by simp [Region.wanted, yielded, hg]) ?_
          unfold Oper.wp
          simp [execOp, go_sem, h1]
          first | exact ⟨rfl, Below.refl _ _⟩ | exact Below.refl _ _
        · refine stepG_plain rfl rfl fun g ac W hK hk => ?_
          have h32 : ac.tmps[32]? = some (.pointer (some ⟨w.heap.size, 0, none⟩)) := hk.has 3 _ 32 rfl rfl rfl (by simp) rfl
          have hg : ac.tmps[31]? = some (.bool false) := hk.has 2 _ 31 rfl rfl rfl (by simp) rfl
          have mxq := hK.get 0 rfl
          have q0 : W.cell? ⟨w.heap.size, 0, none⟩ = some (.slice a len c) := by rw [Lib.cell_of_heap mxq]; rfl
          refine wpOp_of rfl (by simp [Region.wanted, yielded, hg]) ?_
          unfold Oper.wp
          simp [execOp, go_sem, h32, q0]
          first | exact ⟨rfl, Below.refl _ _⟩ | exact Below.refl _ _
        · refine stepG_plain rfl rfl fun g ac W hK hk => ?_
          have h4 : ac.tmps[4]? = some (.int .i64 k) := hk.keep 4 rfl
          have hg : ac.tmps[31]? = some (.bool false) := hk.has 2 _ 31 rfl rfl rfl (by simp) rfl
          refine wpOp_of rfl (by simp [Region.wanted, yielded, hg]) ?_
          unfold Oper.wp
          simp [execOp, go_sem, h4]
          first | exact ⟨rfl, Below.refl _ _⟩ | exact Below.refl _ _
        · refine stepG_plain rfl rfl fun g ac W hK hk => ?_
          have h33 : ac.tmps[33]? = some (.slice a len c) := hk.has 4 _ 33 rfl rfl rfl (by simp) rfl
          have h34 : ac.tmps[34]? = some (.int .i64 k) := hk.has 5 _ 34 rfl rfl rfl (by simp) rfl
          have hg : ac.tmps[31]? = some (.bool false) := hk.has 2 _ 31 rfl rfl rfl (by simp) rfl
          have z1 : (0 : Int) ≤ (k : Int) := by omega
          have z2 : (k : Int) ≤ (c : Int) := by omega
          refine wpOp_of rfl (by simp [Region.wanted, yielded, hg]) ?_
          unfold Oper.wp
          simp [execOp, go_sem, h33, h34, z1, z2]
          first | exact ⟨rfl, Below.refl _ _⟩ | exact Below.refl _ _
        · refine stepG_plain rfl rfl fun g ac W hK hk => ?_
          have h35 : ac.tmps[35]? = some (.slice a k c) := hk.has 6 _ 35 rfl rfl rfl (by simp) rfl
          have hg : ac.tmps[31]? = some (.bool false) := hk.has 2 _ 31 rfl rfl rfl (by simp) rfl
          refine wpOp_of rfl (by simp [Region.wanted, yielded, hg]) ?_
          unfold Oper.wp
          simp [execOp, go_sem, h35]
          first | exact ⟨rfl, Below.refl _ _⟩ | exact Below.refl _ _
        · refine stepG_plain rfl rfl fun g ac W hK hk => ?_
          have h36 : ac.tmps[36]? = some (.agg #[.slice a k c]) := hk.has 7 _ 36 rfl rfl rfl (by simp) rfl
          have hg : ac.tmps[31]? = some (.bool false) := hk.has 2 _ 31 rfl rfl rfl (by simp) rfl
          refine wpOp_of rfl (by simp [Region.wanted, yielded, hg]) ?_
          unfold Oper.wp
          simp [execOp, go_sem, h36]
          refine (KH'.out W (bl HB5.out hK.1)).mono ?_
          rintro e w' ⟨rfl, hb⟩
          exact ⟨rfl, hb⟩
        · refine stepG_plain rfl rfl fun g ac W hK hk => ?_
          have h4 : ac.tmps[4]? = some (.int .i64 k) := hk.keep 4 rfl
          have hg : ac.tmps[31]? = some (.bool false) := hk.has 2 _ 31 rfl rfl rfl (by simp) rfl
          refine wpOp_of rfl (by simp [Region.wanted, yielded, hg]) ?_
          unfold Oper.wp
          simp [execOp, go_sem, h4]
          first | exact ⟨rfl, Below.refl _ _⟩ | exact Below.refl _ _
        · refine stepG_plain rfl rfl fun g ac W hK hk => ?_
          have h1 : ac.tmps[1]? = some (.pointer (some ⟨w.heap.size, 0, none⟩)) := hk.keep 1 rfl
          have hg : ac.tmps[31]? = some (.bool false) := hk.has 2 _ 31 rfl rfl rfl (by simp) rfl
          have mxq := hK.get 0 rfl
          have q0 : W.cell? ⟨w.heap.size, 0, none⟩ = some (.slice a len c) := by rw [Lib.cell_of_heap mxq]; rfl
          refine wpOp_of rfl (by simp [Region.wanted, yielded, hg]) ?_
          unfold Oper.wp
          simp [execOp, go_sem, h1, q0]
          first | exact ⟨rfl, Below.refl _ _⟩ | exact Below.refl _ _
        · refine stepG_plain rfl rfl fun g ac W hK hk => ?_
          have h39 : ac.tmps[39]? = some (.agg #[.slice a len c]) := hk.has 10 _ 39 rfl rfl rfl (by simp) rfl
          have hg : ac.tmps[31]? = some (.bool false) := hk.has 2 _ 31 rfl rfl rfl (by simp) rfl
          refine wpOp_of rfl (by simp [Region.wanted, yielded, hg]) ?_
          unfold Oper.wp
          simp [execOp, go_sem, h39]
          refine (H21.out W (bl HB5.out hK.1)).mono ?_
          rintro e w' ⟨rfl, hb⟩
          exact ⟨rfl, hb⟩
        · refine stepG_plain rfl rfl fun g ac W hK hk => ?_
          have h3 : ac.tmps[3]? = some (.int .i64 len) := hk.keep 3 rfl
          have hg : ac.tmps[31]? = some (.bool false) := hk.has 2 _ 31 rfl rfl rfl (by simp) rfl
          refine wpOp_of rfl (by simp [Region.wanted, yielded, hg]) ?_
          unfold Oper.wp
          simp [execOp, go_sem, h3]
          first | exact ⟨rfl, Below.refl _ _⟩ | exact Below.refl _ _
        · refine stepG_plain rfl rfl fun g ac W hK hk => ?_
          have h5 : ac.tmps[5]? = some (.slice au (P k).length cu) := hk.keep 5 rfl
          have hg : ac.tmps[31]? = some (.bool false) := hk.has 2 _ 31 rfl rfl rfl (by simp) rfl
          refine wpOp_of rfl (by simp [Region.wanted, yielded, hg]) ?_
          unfold Oper.wp
          simp [execOp, go_sem, h5]
          first | exact ⟨rfl, Below.refl _ _⟩ | exact Below.refl _ _
        · refine stepG_plain rfl rfl fun g ac W hK hk => ?_
          have h37 : ac.tmps[37]? = some (.agg #[.int .u64 y0, .int .u64 y1]) := hk.has 8 _ 37 rfl rfl rfl (by simp) rfl
          have h38 : ac.tmps[38]? = some (.int .i64 k) := hk.has 9 _ 38 rfl rfl rfl (by simp) rfl
          have h40 : ac.tmps[40]? = some (.agg #[.int .u64 x0, .int .u64 x1]) := hk.has 11 _ 40 rfl rfl rfl (by simp) rfl
          have h41 : ac.tmps[41]? = some (.int .i64 len) := hk.has 12 _ 41 rfl rfl rfl (by simp) rfl
          have h42 : ac.tmps[42]? = some (.slice au (P k).length cu) := hk.has 13 _ 42 rfl rfl rfl (by simp) rfl
          have hg : ac.tmps[31]? = some (.bool false) := hk.has 2 _ 31 rfl rfl rfl (by simp) rfl
          refine wpOp_of rfl (by simp [Region.wanted, yielded, hg]) ?_
          unfold Oper.wp
          simp [execOp, go_sem, h37, h38, h40, h41, h42]
          refine (K26'.out W _ (HU.out.below hK.1)).mono ?_
          rintro e w' ⟨rfl, hb⟩
          exact ⟨rfl, hb⟩
        · refine stepG_plain rfl rfl fun g ac W hK hk => ?_
          have h43 : ac.tmps[43]? = some (.bool true) := hk.has 14 _ 43 rfl rfl rfl (by simp) rfl
          have hg : ac.tmps[31]? = some (.bool false) := hk.has 2 _ 31 rfl rfl rfl (by simp) rfl
          refine wpOp_of rfl (by simp [Region.wanted, yielded, hg]) ?_
          unfold Oper.wp
          simp [execOp, go_sem, h43]
          first | exact ⟨rfl, Below.refl _ _⟩ | exact Below.refl _ _
        · refine stepG_plain rfl rfl fun g ac W hK hk => ?_
          have h31 : ac.tmps[31]? = some (.bool false) := hk.has 2 _ 31 rfl rfl rfl (by simp) rfl
          have h44 : ac.tmps[44]? = some (.bool false) := hk.has 15 _ 44 rfl rfl rfl (by simp) rfl
          refine wpOp_of rfl rfl ?_
          unfold Oper.wp
          simp [execOp, go_sem, h31, h44]
          first | exact ⟨rfl, Below.refl _ _⟩ | exact Below.refl _ _
      · intro g W hK hsz hB hd
        simp [frameOf, Act.put, valG]
        have HW := Lib.hid (bl HB5.out hK.1)
        have HXW : Hid (W.heap[w.heap.size]? = some (.cells #[.slice a len c] 24 (0, 0))) := Lib.hid (hK.get 0 rfl)
        clear hK hB hd hsz
        go_wp2
        go_roundw
        case rel => exact ⟨k + 1, by omega, by go_num, HW, HXW⟩
        case measure => simp [intOf]; omega
    · obtain rfl : k = len + 1 := by omega
      go_wp2_with fail
      ((with_reducible refine (awake_any _).mono ?_); rintro e w9 ⟨rfl, hb9⟩)
      have hb := bl HB.out hb9
      go_wp2
      go_ret
      exact ⟨rfl, hb⟩
theorem recs_take {w : World} {a : Option Addr} {c : Nat} {L : List Rec} (h : IsRecs w (.slice a L.length c) L) (k : Nat) (hk : k ≤ L.length) : IsRecs w (.slice a k c) (L.take k) := by
  obtain ⟨a', c', e, h1, h2, h3⟩ := h
  cases e
  have hl : (L.take k).length = k := by rw [List.length_take]; omega
  refine ⟨a, c, by rw [hl], by omega, by omega, ?_⟩
  rcases h3 with rfl | ⟨b, off, rfl, hb, hc⟩
  · left; simp
  · right
    refine ⟨b, off, rfl, hb, fun j hj => ?_⟩
    rw [hl] at hj
    have := hc j (by omega)
    rw [List.getElem_take]; exact this
theorem growthLaw_any (L : List Rec) (v : Value) (w : World) (h : IsRecs w v L) (hf : ∀ x ∈ L, x.Fit) :
    Calls Try.prog 7 #[.agg #[v]] w fun e w' => e = .returned (.bool true) ∧ Below w.heap.size w w' := by
  obtain ⟨a, c, e, h1, h2, h3⟩ := id h
  subst e
  have hW : ∀ W, Below w.heap.size w W → IsRecs W (.slice a L.length c) L := fun W hb => h.below hb (Nat.le_refl _)
  cases hbig : bigL L with
  | true => exact growth_big a L.length c w fun W hb => great_any L _ W (hW W hb) hf true hbig
  | false =>
    have hlen := big_len hbig
    by_cases hc : chkL L = 0
    · refine growth_walk a c L.length (headM L).1 (headM L).2 (fun k => extM L k) (fun k => (headM (L.take k)).1) (fun k => (headM (L.take k)).2) w hlen h2 (fun W hb => great_any L _ W (hW W hb) hf false hbig) (fun W hb => check_any L _ W (hW W hb) hf 0 hc) (fun k hk W hb => ?_) (fun W hb => head_any L _ W (hW W hb) hf) (fun k hk W hb => ?_) (fun k hk W u hu => ?_)
      · have := extend_any L _ k W (hW W hb) hf (by omega)
        rw [ext_code hc hk] at this
        exact this
      · exact head_any (L.take k) _ W (recs_take (hW W hb) k hk) (fun x hx => hf x (List.mem_of_mem_take hx))
      · have := extends_any (headM (L.take k)) k (headM L) L.length _ u W hu
        rw [growth_holds L k hk hc] at this
        exact this
    · exact growth_bad a L.length c (chkL L) w hc (fun W hb => great_any L _ W (hW W hb) hf false hbig) (fun W hb => check_any L _ W (hW W hb) hf _ rfl)

set_option maxRecDepth 100000 in
theorem growthL_lifted (os : Os) (started : os.Started) (H : Type) (enc : TypeId × Value → H) :
    ReturnsInHanded {} Try.checked os 7 .any (Rows.ledgerGrowthSpec.pre6 enc Try.prog Try.f7 Rows.ledgerGrowthRow.domain false) (Rows.ledgerGrowthSpec.post enc Try.prog Try.f7 false true false false) := by
  refine returnsInHanded_of_change (C := Try.checked) ownK started (by kernel_rfl) Try.func7
    (ChangeSpec.witness6 (enc := enc) (C := Try.checked) false ⟨#[], #[.agg #[.slice none 0 0]], []⟩ 8 (by kernel_rfl) (by kernel_rfl) (by kernel_rfl) (by kernel_rfl)) ?_
  intro W base args ds gs before hval0 hW hcnd _
  have hval : ∀ (j : Nat) t v, Try.f7.params[j]? = some t → args[j]? = some v → Value.okWide Try.prog W .any base t v := hval0
  have hW' := hW
  obtain ⟨p, q, hA0, hV, rfl, hfz, hnd⟩ := hW
  have hA : DataW.TrodAll enc Try.prog W 0 (fun _ => true) true Try.f7.params.toList args.toList ds p := hA0
  rw [Try.params7] at hA hval
  obtain ⟨v0, d0, rfl, rfl, h0⟩ := trodAll_one hA
  obtain ⟨rfl, rfl⟩ := trodVars_none hV
  have k0 := h0
  have lt0 : ∀ x ∈ p, x.block < W.heap.size := by obtain ⟨m, hm⟩ := k0; exact DataW.trod_lt m _ _ _ hm
  obtain ⟨u, L, rfl, i0, hf⟩ := open_ledger (hval 0 24 v0 rfl rfl) h0
  clear hA0 hval0
  refine (growthLaw_any L u W i0 hf).mono fun e W' ⟨he, bel⟩ => ?_
  subst he
  exact ⟨_, rfl, _, _, _, [], _, [], hW', trodAll_mk1 (shut_bool Try.underlying4 _), trodAll_mk1 (Below.trod laidOut (by kernel_rfl) (of_decide_eq_true (by kernel_rfl)) k0 bel lt0), rfl, bel.frame _, fun h => by cases h⟩

set_option maxRecDepth 100000 in
theorem growthL_holds : Rows.LedgerGrowthSaid :=
  OpenClaim.holds_of_wide 7 Try.f7 rfl rfl rfl rfl rfl rfl rfl ⟨rfl, rfl, rfl, rfl, rfl⟩ rfl rfl rfl rfl rfl (by kernel_rfl) Try.func7 (by kernel_rfl)
    (of_decide_eq_true (by kernel_rfl)) (by unfold Func.isWrapper; rw [if_neg (of_decide_eq_false (by kernel_rfl))]; exact ⟨rfl, rfl⟩)
    (fun os started H enc _ => growthL_lifted os started H enc)
#print axioms growthL_holds
end Go.Proofs.Ytfheflihofafdaa
