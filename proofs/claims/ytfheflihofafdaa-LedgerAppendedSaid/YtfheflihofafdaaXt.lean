/- Extends of program and reference, at this translation. -/
import Derived.Test.YtfheflihofafdaaExt
namespace Go.Proofs.Ytfheflihofafdaa
open Go.RowKit Go.Great Pt Tr

theorem eq_arr63 (n : Nat) (a b c d : Int) (w : World) : (Op.equalIn (n + 1 + 1) 40 (.agg #[.int .u64 a, .int .u64 b]) (.agg #[.int .u64 c, .int .u64 d])).run Try.prog w = .ok (a == c && b == d) w := by
  have hi := fun (n : Nat) (x y : Int) (w : World) => run_equalIn_int (P := Try.prog) w n 38 .u64 .u64 x y Try.underlying38
  unfold Op.equalIn
  simp [go_sem, run_underlying Try.underlying40, Try.sizeOf38]
  rw [show List.range' 0 2 = [0, 1] from rfl]
  simp only [List.forIn_cons, List.forIn_nil]
  cases h1 : (a == c) <;> cases h2 : (b == d) <;> simp [go_sem, Try.isAgg38, hi, h1, h2]
theorem eq_roots (a b c d p q r s : Int) (w : World) :
    (Op.equalIn 10000 63 (.agg #[.int .u64 a, .int .u64 b, .int .u64 c, .int .u64 d]) (.agg #[.int .u64 p, .int .u64 q, .int .u64 r, .int .u64 s])).run Try.prog w = .ok (a == p && b == q && (c == r && d == s)) w := by
  have hS : Try.prog.underlying 63 = some (.struct (Try.prog.fieldsOf 63)) := by kernel_rfl
  have hp : Try.prog.stoodInHeld 63 = false := by kernel_rfl
  have h25 := fun (a b c d : Int) (w : World) => eq_arr63 9997 a b c d w
  rw [show (10000 : Nat) = 9999 + 1 from rfl, run_equalIn_agg w 9999 63 _ _ hS hp]
  simp only [Program.fieldsOf, Try.underlying63]
  simp [Op.eqFields, go_sem, Try.isAgg40, Try.sizeOf40, h25]
  by_cases h1 : a = p <;> by_cases h2 : b = q <;> by_cases h3 : c = r <;> by_cases h4 : d = s <;> simp [h1, h2, h3, h4]
attribute [local go_sem] eq_arr
attribute [local go_sem 2000] eq_roots

set_option maxRecDepth 100000 in
set_option maxHeartbeats 8000000 in
theorem xt_neg (n m o0 o1 h0 h1 : Int) (len cap : Nat) (a : Option Addr) (h : n < 0) (w : World) :
    Calls Try.prog 26 #[.agg #[.int .u64 o0, .int .u64 o1], .int .i64 n, .agg #[.int .u64 h0, .int .u64 h1], .int .i64 m, .slice a len cap] w fun e w' => e = .returned (.bool false) ∧ Below w.heap.size w w' := by
  have d1 : decide (n < 0) = true := by simpa using h
  have hb : Below w.heap.size w ((w.alloc (.cells #[.int .u64 o0, .int .u64 o1] 40)).alloc (.cells #[.int .u64 h0, .int .u64 h1] 40)) := bla (bla (Below.refl _ _) _) _
  go_enter Try.func26, Try.ntmps26
  go_wp2
  go_ret
  exact ⟨rfl, hb⟩
set_option maxRecDepth 100000 in
set_option maxHeartbeats 8000000 in
theorem xt_gt (n m o0 o1 h0 h1 : Int) (len cap : Nat) (a : Option Addr) (hh0 : 0 ≤ n) (h : m < n) (w : World) :
    Calls Try.prog 26 #[.agg #[.int .u64 o0, .int .u64 o1], .int .i64 n, .agg #[.int .u64 h0, .int .u64 h1], .int .i64 m, .slice a len cap] w fun e w' => e = .returned (.bool false) ∧ Below w.heap.size w w' := by
  have d1 : decide (n < 0) = false := by simp; omega
  have d2 : decide (m < n) = true := by simpa using h
  have hb : Below w.heap.size w ((w.alloc (.cells #[.int .u64 o0, .int .u64 o1] 40)).alloc (.cells #[.int .u64 h0, .int .u64 h1] 40)) := bla (bla (Below.refl _ _) _) _
  go_enter Try.func26, Try.ntmps26
  go_wp2
  go_ret
  exact ⟨rfl, hb⟩
set_option maxRecDepth 100000 in
set_option maxHeartbeats 8000000 in
theorem xt_big (n m o0 o1 h0 h1 : Int) (len cap : Nat) (a : Option Addr) (hh0 : 0 ≤ n) (hh1 : n ≤ m) (h : 10000 < m) (w : World) :
    Calls Try.prog 26 #[.agg #[.int .u64 o0, .int .u64 o1], .int .i64 n, .agg #[.int .u64 h0, .int .u64 h1], .int .i64 m, .slice a len cap] w fun e w' => e = .returned (.bool false) ∧ Below w.heap.size w w' := by
  have d1 : decide (n < 0) = false := by simp; omega
  have d2 : decide (m < n) = false := by simp; omega
  have d3 : decide ((10000 : Int) < m) = true := by simpa using h
  have hb : Below w.heap.size w ((w.alloc (.cells #[.int .u64 o0, .int .u64 o1] 40)).alloc (.cells #[.int .u64 h0, .int .u64 h1] 40)) := bla (bla (Below.refl _ _) _) _
  go_enter Try.func26, Try.ntmps26
  go_wp2
  go_ret
  exact ⟨rfl, hb⟩
set_option maxRecDepth 100000 in
set_option maxHeartbeats 8000000 in
theorem xt_zero (m o0 o1 h0 h1 e0 e1 : Int) (len cap : Nat) (a : Option Addr) (q : Bool) (hm : 0 ≤ m) (hm2 : m ≤ 10000) (hq : (o0 == e0 && o1 == e1) = true) (hb0 : ((len : Int) == 0) = q) (w : World)
    (h2 : ∀ W, Calls Try.prog 40 #[.slice none 0 0] W fun e w' => e = .returned (.agg #[.int .u64 e0, .int .u64 e1]) ∧ Below W.heap.size W w') :
    Calls Try.prog 26 #[.agg #[.int .u64 o0, .int .u64 o1], .int .i64 0, .agg #[.int .u64 h0, .int .u64 h1], .int .i64 m, .slice a len cap] w fun e w' => e = .returned (.bool q) ∧ Below w.heap.size w w' := by
  have H2 := Lib.hid h2
  have HQ := Lib.hid hq
  have HB0 := Lib.hid hb0
  clear h2 hq hb0
  have d2 : decide (m < 0) = false := by simp; omega
  have d3 : decide ((10000 : Int) < m) = false := by simp; omega
  go_enter Try.func26, Try.ntmps26
  go_wp2_with fail
  have below : Below (w.heap.size) w ((w.alloc (.cells #[.int .u64 o0, .int .u64 o1] 40)).alloc (.cells #[.int .u64 h0, .int .u64 h1] 40)) := bla (bla (Below.refl _ _) _) _
  have HBW : Hid (w.heap.size ≤ ((w.alloc (.cells #[.int .u64 o0, .int .u64 o1] 40)).alloc (.cells #[.int .u64 h0, .int .u64 h1] 40)).heap.size) := Lib.hid below.size
  have HKEEP : Hid (Keep (w.heap.size) w [((w.heap.size, .cells #[.int .u64 o0, .int .u64 o1] 40) : Nat × Obj)] ((w.alloc (.cells #[.int .u64 o0, .int .u64 o1] 40)).alloc (.cells #[.int .u64 h0, .int .u64 h1] 40))) := Lib.hid ⟨below, by
    intro p hp
    simp only [List.mem_cons, List.not_mem_nil, or_false] at hp
    subst hp
    exact ((Below.heap_alloc _ _ _ (by simp)).trans (World.alloc_heap_new _ _))⟩
  have HOLD0 : Hid (∀ b ∈ [(⟨none, none, w.heap.size + 1, #[.int .u64 h0, .int .u64 h1], #[.int .u64 h0, .int .u64 h1], 40⟩ : RBox)], b.al = none → ((w.alloc (.cells #[.int .u64 o0, .int .u64 o1] 40)).alloc (.cells #[.int .u64 h0, .int .u64 h1] 40)).heap[b.blk]? = some (.cells b.z b.T (0, 0)) ∧ w.heap.size ≤ b.blk ∧ ∀ p ∈ [((w.heap.size, .cells #[.int .u64 o0, .int .u64 o1] 40) : Nat × Obj)], p.1 ≠ b.blk) := Lib.hid (by
    intro b hb
    simp only [List.mem_cons, List.not_mem_nil, or_false] at hb
    subst hb
    intro _
    refine ⟨(by have := World.alloc_heap_new (w.alloc (.cells #[.int .u64 o0, .int .u64 o1] 40)) (.cells #[.int .u64 h0, .int .u64 h1] 40); rw [World.size_alloc] at this; exact this), (by show w.heap.size ≤ w.heap.size + 1; omega), fun p hp => ?_⟩
    simp only [List.mem_cons, List.not_mem_nil, or_false] at hp
    subst hp
    show w.heap.size ≠ w.heap.size + 1
    omega)
  clear below
  refine wp_region_box (w.heap.size) w [(w.heap.size, .cells #[.int .u64 o0, .int .u64 o1] 40)] [⟨none, none, w.heap.size + 1, #[.int .u64 h0, .int .u64 h1], #[.int .u64 h0, .int .u64 h1], 40⟩] (fun i => ([(.agg #[.int .u64 o0, .int .u64 o1]), (.agg #[.int .u64 e0, .int .u64 e1]), (.bool true), (.bool true), (.slice a len cap), (.int .i64 (len : Int)), (.bool q), (.bool q), (.bool q)] : List Value).getD i undef) (by kernel_rfl) (by kernel_rfl) (by kernel_rfl) (by rfl) (by simp) (by rfl) HBW.out HKEEP.out HOLD0.out ?_ ?_
  · refine ⟨?_, ?_, ?_, ?_, ?_, ?_, ?_, ?_, ?_, trivial⟩
    · refine stepG_plain rfl rfl fun g ac W hK hk => ?_
      have h5 : ac.tmps[5]? = some (.pointer (some ⟨w.heap.size, 0, none⟩)) := hk.keep 5 rfl
      have mxq := hK.get 0 rfl
      have q0 : W.cell? ⟨w.heap.size, 0, none⟩ = some (.int .u64 o0) := by rw [Lib.cell_of_heap mxq]; rfl
      have q1 : W.cell? ⟨w.heap.size, 1, none⟩ = some (.int .u64 o1) := by rw [Lib.cell_of_heap mxq]; rfl
      refine wpOp_of rfl rfl ?_
      unfold Oper.wp
      simp [execOp, go_sem, h5, q0, q1]
      first | exact ⟨rfl, Below.refl _ _⟩ | exact Below.refl _ _
    · refine stepG_plain rfl rfl fun g ac W hK hk => ?_
      refine wpOp_of rfl rfl ?_
      unfold Oper.wp
      simp [execOp, go_sem]
      refine (H2.out W).mono ?_
      rintro e w' ⟨rfl, hb⟩
      exact ⟨rfl, hb⟩
    · refine stepG_plain rfl rfl fun g ac W hK hk => ?_
      have h26 : ac.tmps[26]? = some (.agg #[.int .u64 o0, .int .u64 o1]) := hk.has 0 _ 26 rfl rfl rfl (by simp) rfl
      have h27 : ac.tmps[27]? = some (.agg #[.int .u64 e0, .int .u64 e1]) := hk.has 1 _ 27 rfl rfl rfl (by simp) rfl
      have hqq := HQ.out
      refine wpOp_of rfl rfl ?_
      unfold Oper.wp
      simp [execOp, go_sem, h26, h27, hqq]
      first | exact ⟨rfl, Below.refl _ _⟩ | exact Below.refl _ _
    · refine stepG_plain rfl rfl fun g ac W hK hk => ?_
      have h28 : ac.tmps[28]? = some (.bool true) := hk.has 2 _ 28 rfl rfl rfl (by simp) rfl
      refine wpOp_of rfl rfl ?_
      unfold Oper.wp
      simp [execOp, go_sem, h28]
      first | exact ⟨rfl, Below.refl _ _⟩ | exact Below.refl _ _
    · refine stepG_plain rfl rfl fun g ac W hK hk => ?_
      have h4 : ac.tmps[4]? = some (.slice a len cap) := hk.keep 4 rfl
      have hg : ac.tmps[29]? = some (.bool true) := hk.has 3 _ 29 rfl rfl rfl (by simp) rfl
      refine wpOp_of rfl (by simp [Region.wanted, yielded, hg]) ?_
      unfold Oper.wp
      simp [execOp, go_sem, h4]
      first | exact ⟨rfl, Below.refl _ _⟩ | exact Below.refl _ _
    · refine stepG_plain rfl rfl fun g ac W hK hk => ?_
      have h30 : ac.tmps[30]? = some (.slice a len cap) := hk.has 4 _ 30 rfl rfl rfl (by simp) rfl
      have hg : ac.tmps[29]? = some (.bool true) := hk.has 3 _ 29 rfl rfl rfl (by simp) rfl
      refine wpOp_of rfl (by simp [Region.wanted, yielded, hg]) ?_
      unfold Oper.wp
      simp [execOp, go_sem, h30]
      first | exact ⟨rfl, Below.refl _ _⟩ | exact Below.refl _ _
    · refine stepG_plain rfl rfl fun g ac W hK hk => ?_
      have h31 : ac.tmps[31]? = some (.int .i64 (len : Int)) := hk.has 5 _ 31 rfl rfl rfl (by simp) rfl
      have hg : ac.tmps[29]? = some (.bool true) := hk.has 3 _ 29 rfl rfl rfl (by simp) rfl
      have hqb := HB0.out
      refine wpOp_of rfl (by simp [Region.wanted, yielded, hg]) ?_
      unfold Oper.wp
      simp [execOp, go_sem, h31, hqb]
      first | exact ⟨rfl, Below.refl _ _⟩ | exact Below.refl _ _
    · refine stepG_plain rfl rfl fun g ac W hK hk => ?_
      have h29 : ac.tmps[29]? = some (.bool true) := hk.has 3 _ 29 rfl rfl rfl (by simp) rfl
      have h32 : ac.tmps[32]? = some (.bool q) := hk.has 6 _ 32 rfl rfl rfl (by simp) rfl
      refine wpOp_of rfl rfl ?_
      unfold Oper.wp
      simp [execOp, go_sem, h29, h32]
      first | exact ⟨rfl, Below.refl _ _⟩ | exact Below.refl _ _
    · refine stepG_plain rfl rfl fun g ac W hK hk => ?_
      have h33 : ac.tmps[33]? = some (.bool q) := hk.has 7 _ 33 rfl rfl rfl (by simp) rfl
      refine wpOp_of rfl rfl ?_
      unfold Oper.wp
      simp [execOp, go_sem, h33]
      first | exact ⟨rfl, Below.refl _ _⟩ | exact Below.refl _ _
  · intro g W hK hsz hB hd
    simp [frameOf, Act.put, valG]
    have HW := Lib.hid hK.1
    clear hK hB hd hsz
    go_wp2
    go_ret
    exact ⟨rfl, HW.out⟩
set_option maxRecDepth 100000 in
set_option maxHeartbeats 8000000 in
theorem xt_zerono (m o0 o1 h0 h1 e0 e1 : Int) (len cap : Nat) (a : Option Addr) (hm : 0 ≤ m) (hm2 : m ≤ 10000) (hq : (o0 == e0 && o1 == e1) = false) (w : World)
    (h2 : ∀ W, Calls Try.prog 40 #[.slice none 0 0] W fun e w' => e = .returned (.agg #[.int .u64 e0, .int .u64 e1]) ∧ Below W.heap.size W w') :
    Calls Try.prog 26 #[.agg #[.int .u64 o0, .int .u64 o1], .int .i64 0, .agg #[.int .u64 h0, .int .u64 h1], .int .i64 m, .slice a len cap] w fun e w' => e = .returned (.bool false) ∧ Below w.heap.size w w' := by
  have H2 := Lib.hid h2
  have HQ := Lib.hid hq

  clear h2 hq
  have d2 : decide (m < 0) = false := by simp; omega
  have d3 : decide ((10000 : Int) < m) = false := by simp; omega
  go_enter Try.func26, Try.ntmps26
  go_wp2_with fail
  have below : Below (w.heap.size) w ((w.alloc (.cells #[.int .u64 o0, .int .u64 o1] 40)).alloc (.cells #[.int .u64 h0, .int .u64 h1] 40)) := bla (bla (Below.refl _ _) _) _
  have HBW : Hid (w.heap.size ≤ ((w.alloc (.cells #[.int .u64 o0, .int .u64 o1] 40)).alloc (.cells #[.int .u64 h0, .int .u64 h1] 40)).heap.size) := Lib.hid below.size
  have HKEEP : Hid (Keep (w.heap.size) w [((w.heap.size, .cells #[.int .u64 o0, .int .u64 o1] 40) : Nat × Obj)] ((w.alloc (.cells #[.int .u64 o0, .int .u64 o1] 40)).alloc (.cells #[.int .u64 h0, .int .u64 h1] 40))) := Lib.hid ⟨below, by
    intro p hp
    simp only [List.mem_cons, List.not_mem_nil, or_false] at hp
    subst hp
    exact ((Below.heap_alloc _ _ _ (by simp)).trans (World.alloc_heap_new _ _))⟩
  have HOLD0 : Hid (∀ b ∈ [(⟨none, none, w.heap.size + 1, #[.int .u64 h0, .int .u64 h1], #[.int .u64 h0, .int .u64 h1], 40⟩ : RBox)], b.al = none → ((w.alloc (.cells #[.int .u64 o0, .int .u64 o1] 40)).alloc (.cells #[.int .u64 h0, .int .u64 h1] 40)).heap[b.blk]? = some (.cells b.z b.T (0, 0)) ∧ w.heap.size ≤ b.blk ∧ ∀ p ∈ [((w.heap.size, .cells #[.int .u64 o0, .int .u64 o1] 40) : Nat × Obj)], p.1 ≠ b.blk) := Lib.hid (by
    intro b hb
    simp only [List.mem_cons, List.not_mem_nil, or_false] at hb
    subst hb
    intro _
    refine ⟨(by have := World.alloc_heap_new (w.alloc (.cells #[.int .u64 o0, .int .u64 o1] 40)) (.cells #[.int .u64 h0, .int .u64 h1] 40); rw [World.size_alloc] at this; exact this), (by show w.heap.size ≤ w.heap.size + 1; omega), fun p hp => ?_⟩
    simp only [List.mem_cons, List.not_mem_nil, or_false] at hp
    subst hp
    show w.heap.size ≠ w.heap.size + 1
    omega)
  clear below
  refine wp_region_box (w.heap.size) w [(w.heap.size, .cells #[.int .u64 o0, .int .u64 o1] 40)] [⟨none, none, w.heap.size + 1, #[.int .u64 h0, .int .u64 h1], #[.int .u64 h0, .int .u64 h1], 40⟩] (fun i => ([(.agg #[.int .u64 o0, .int .u64 o1]), (.agg #[.int .u64 e0, .int .u64 e1]), (.bool false), (.bool false), (undef), (undef), (undef), (.bool false), (.bool false)] : List Value).getD i undef) (by kernel_rfl) (by kernel_rfl) (by kernel_rfl) (by rfl) (by simp) (by rfl) HBW.out HKEEP.out HOLD0.out ?_ ?_
  · refine ⟨?_, ?_, ?_, ?_, ?_, ?_, ?_, ?_, ?_, trivial⟩
    · refine stepG_plain rfl rfl fun g ac W hK hk => ?_
      have h5 : ac.tmps[5]? = some (.pointer (some ⟨w.heap.size, 0, none⟩)) := hk.keep 5 rfl
      have mxq := hK.get 0 rfl
      have q0 : W.cell? ⟨w.heap.size, 0, none⟩ = some (.int .u64 o0) := by rw [Lib.cell_of_heap mxq]; rfl
      have q1 : W.cell? ⟨w.heap.size, 1, none⟩ = some (.int .u64 o1) := by rw [Lib.cell_of_heap mxq]; rfl
      refine wpOp_of rfl rfl ?_
      unfold Oper.wp
      simp [execOp, go_sem, h5, q0, q1]
      first | exact ⟨rfl, Below.refl _ _⟩ | exact Below.refl _ _
    · refine stepG_plain rfl rfl fun g ac W hK hk => ?_
      refine wpOp_of rfl rfl ?_
      unfold Oper.wp
      simp [execOp, go_sem]
      refine (H2.out W).mono ?_
      rintro e w' ⟨rfl, hb⟩
      exact ⟨rfl, hb⟩
    · refine stepG_plain rfl rfl fun g ac W hK hk => ?_
      have h26 : ac.tmps[26]? = some (.agg #[.int .u64 o0, .int .u64 o1]) := hk.has 0 _ 26 rfl rfl rfl (by simp) rfl
      have h27 : ac.tmps[27]? = some (.agg #[.int .u64 e0, .int .u64 e1]) := hk.has 1 _ 27 rfl rfl rfl (by simp) rfl
      have hqq := HQ.out
      refine wpOp_of rfl rfl ?_
      unfold Oper.wp
      simp [execOp, go_sem, h26, h27, hqq]
      first | exact ⟨rfl, Below.refl _ _⟩ | exact Below.refl _ _
    · refine stepG_plain rfl rfl fun g ac W hK hk => ?_
      have h28 : ac.tmps[28]? = some (.bool false) := hk.has 2 _ 28 rfl rfl rfl (by simp) rfl
      refine wpOp_of rfl rfl ?_
      unfold Oper.wp
      simp [execOp, go_sem, h28]
      first | exact ⟨rfl, Below.refl _ _⟩ | exact Below.refl _ _
    · refine stepG_plain rfl rfl fun g ac W hK hk => ?_
      have hg : ac.tmps[29]? = some (.bool false) := hk.has 3 _ 29 rfl rfl rfl (by simp) rfl
      exact wpOp_skip rfl (by simp [Region.wanted, yielded, hg]) ⟨rfl, Below.refl _ _⟩
    · refine stepG_plain rfl rfl fun g ac W hK hk => ?_
      have hg : ac.tmps[29]? = some (.bool false) := hk.has 3 _ 29 rfl rfl rfl (by simp) rfl
      exact wpOp_skip rfl (by simp [Region.wanted, yielded, hg]) ⟨rfl, Below.refl _ _⟩
    · refine stepG_plain rfl rfl fun g ac W hK hk => ?_
      have hg : ac.tmps[29]? = some (.bool false) := hk.has 3 _ 29 rfl rfl rfl (by simp) rfl
      exact wpOp_skip rfl (by simp [Region.wanted, yielded, hg]) ⟨rfl, Below.refl _ _⟩
    · refine stepG_plain rfl rfl fun g ac W hK hk => ?_
      have h29 : ac.tmps[29]? = some (.bool false) := hk.has 3 _ 29 rfl rfl rfl (by simp) rfl
      have h32 : ac.tmps[32]? = some (undef) := hk.has 6 _ 32 rfl rfl rfl (by simp) rfl
      refine wpOp_of rfl rfl ?_
      unfold Oper.wp
      simp [execOp, go_sem, h29, h32]
      first | exact ⟨rfl, Below.refl _ _⟩ | exact Below.refl _ _
    · refine stepG_plain rfl rfl fun g ac W hK hk => ?_
      have h33 : ac.tmps[33]? = some (.bool false) := hk.has 7 _ 33 rfl rfl rfl (by simp) rfl
      refine wpOp_of rfl rfl ?_
      unfold Oper.wp
      simp [execOp, go_sem, h33]
      first | exact ⟨rfl, Below.refl _ _⟩ | exact Below.refl _ _
  · intro g W hK hsz hB hd
    simp [frameOf, Act.put, valG]
    have HW := Lib.hid hK.1
    clear hK hB hd hsz
    go_wp2
    go_ret
    exact ⟨rfl, HW.out⟩
set_option maxRecDepth 100000 in
set_option maxHeartbeats 8000000 in
theorem xt_eq (n o0 o1 h0 h1 : Int) (len cap : Nat) (a : Option Addr) (q : Bool) (hb0 : ((len : Int) == 0) = q) (hn : 0 < n) (hm2 : n ≤ 10000) (hq : (o0 == h0 && o1 == h1) = true) (w : World) :
    Calls Try.prog 26 #[.agg #[.int .u64 o0, .int .u64 o1], .int .i64 n, .agg #[.int .u64 h0, .int .u64 h1], .int .i64 n, .slice a len cap] w fun e w' => e = .returned (.bool q) ∧ Below w.heap.size w w' := by
  have d1 : decide (n < 0) = false := by simp; omega
  have d2 : decide (n < n) = false := by simp
  have d3 : decide ((10000 : Int) < n) = false := by simp; omega
  have d4 : (n == 0) = false := by simp; omega
  have d5 : (n == n) = true := by simp
  have hb : Below w.heap.size w ((w.alloc (.cells #[.int .u64 o0, .int .u64 o1] 40)).alloc (.cells #[.int .u64 h0, .int .u64 h1] 40)) := bla (bla (Below.refl _ _) _) _
  go_enter Try.func26, Try.ntmps26
  go_wp2
  go_ret
  exact ⟨rfl, hb⟩
set_option maxRecDepth 100000 in
set_option maxHeartbeats 8000000 in
theorem xt_eqno (n o0 o1 h0 h1 : Int) (len cap : Nat) (a : Option Addr) (hn : 0 < n) (hm2 : n ≤ 10000) (hq : (o0 == h0 && o1 == h1) = false) (w : World) :
    Calls Try.prog 26 #[.agg #[.int .u64 o0, .int .u64 o1], .int .i64 n, .agg #[.int .u64 h0, .int .u64 h1], .int .i64 n, .slice a len cap] w fun e w' => e = .returned (.bool false) ∧ Below w.heap.size w w' := by
  have d1 : decide (n < 0) = false := by simp; omega
  have d2 : decide (n < n) = false := by simp
  have d3 : decide ((10000 : Int) < n) = false := by simp; omega
  have d4 : (n == 0) = false := by simp; omega
  have d5 : (n == n) = true := by simp
  have hb : Below w.heap.size w ((w.alloc (.cells #[.int .u64 o0, .int .u64 o1] 40)).alloc (.cells #[.int .u64 h0, .int .u64 h1] 40)) := bla (bla (Below.refl _ _) _) _
  go_enter Try.func26, Try.ntmps26
  go_wp2
  go_ret
  exact ⟨rfl, hb⟩
set_option maxRecDepth 100000 in
set_option maxHeartbeats 8000000 in
theorem xt_gen (n m o0 o1 h0 h1 x0 x1 y0 y1 : Int) (ok : Bool) (len cap : Nat) (a : Option Addr) (hn : 0 < n) (hnm : n < m) (hm2 : m ≤ 10000) (w : World)
    (h2 : ∀ W, Below w.heap.size w W → Calls Try.prog 46 #[.int .i64 n, .int .i64 m, .agg #[.int .u64 o0, .int .u64 o1], .slice a len cap, .bool true] W fun e w' => e = .returned (.tuple #[.agg #[.int .u64 x0, .int .u64 x1, .int .u64 y0, .int .u64 y1], .bool ok]) ∧ Below W.heap.size W w') :
    Calls Try.prog 26 #[.agg #[.int .u64 o0, .int .u64 o1], .int .i64 n, .agg #[.int .u64 h0, .int .u64 h1], .int .i64 m, .slice a len cap] w fun e w' => e = .returned (.bool (ok && (x0 == o0 && x1 == o1 && (y0 == h0 && y1 == h1)))) ∧ Below w.heap.size w w' := by
  have HR := Lib.hid h2
  clear h2
  have d1 : decide (n < 0) = false := by simp; omega
  have d2 : decide (m < n) = false := by simp; omega
  have d3 : decide ((10000 : Int) < m) = false := by simp; omega
  have d4 : (n == 0) = false := by simp; omega
  have d5 : (n == m) = false := by simp; omega
  have hb0 : Below w.heap.size w ((w.alloc (.cells #[.int .u64 o0, .int .u64 o1] 40)).alloc (.cells #[.int .u64 h0, .int .u64 h1] 40)) := bla (bla (Below.refl _ _) _) _
  have hx0 : ((w.alloc (.cells #[.int .u64 o0, .int .u64 o1] 40)).alloc (.cells #[.int .u64 h0, .int .u64 h1] 40)).heap[w.heap.size]? = some (.cells #[.int .u64 o0, .int .u64 o1] 40 (0, 0)) := (Below.heap_alloc _ _ _ (by simp)).trans (World.alloc_heap_new _ _)
  have hx1 : ((w.alloc (.cells #[.int .u64 o0, .int .u64 o1] 40)).alloc (.cells #[.int .u64 h0, .int .u64 h1] 40)).heap[w.heap.size + 1]? = some (.cells #[.int .u64 h0, .int .u64 h1] 40 (0, 0)) := by
    have := World.alloc_heap_new (w.alloc (.cells #[.int .u64 o0, .int .u64 o1] 40)) (.cells #[.int .u64 h0, .int .u64 h1] 40)
    rw [World.size_alloc] at this; exact this
  have HX0 := Lib.hid hx0
  have HX1 := Lib.hid hx1
  clear hx0 hx1
  go_enter Try.func26, Try.ntmps26
  go_wp2_with fail
  ((with_reducible refine (HR.out _ hb0).mono ?_); rintro e w5 ⟨rfl, hb5⟩)
  have HB5 := Lib.hid (bl hb0 hb5)
  have g0 := (hb5.block _ (lt_of_block HX0.out)).trans HX0.out
  have g1 := (hb5.block _ (lt_of_block HX1.out)).trans HX1.out
  have hlt := lt_of_block g1
  have c0 : w5.cell? ⟨w.heap.size, 0, none⟩ = some (.int .u64 o0) := by rw [Lib.cell_of_heap g0]; rfl
  have c1 : w5.cell? ⟨w.heap.size, 1, none⟩ = some (.int .u64 o1) := by rw [Lib.cell_of_heap g0]; rfl
  have c2 : w5.cell? ⟨w.heap.size + 1, 0, none⟩ = some (.int .u64 h0) := by rw [Lib.cell_of_heap g1]; rfl
  have c3 : w5.cell? ⟨w.heap.size + 1, 1, none⟩ = some (.int .u64 h1) := by rw [Lib.cell_of_heap g1]; rfl
  clear hb5 hb0
  have b6 : Below w5.heap.size w5 (w5.alloc (.cells #[.int .u64 x0, .int .u64 x1, .int .u64 y0, .int .u64 y1] 63)) := bla (Below.refl _ w5) _
  have g2 := (b6.block _ (lt_of_block g0)).trans g0
  have g3 := (b6.block _ (lt_of_block g1)).trans g1
  have c4 : (w5.alloc (.cells #[.int .u64 x0, .int .u64 x1, .int .u64 y0, .int .u64 y1] 63)).cell? ⟨w.heap.size, 0, none⟩ = some (.int .u64 o0) := by rw [Lib.cell_of_heap g2]; rfl
  have c5 : (w5.alloc (.cells #[.int .u64 x0, .int .u64 x1, .int .u64 y0, .int .u64 y1] 63)).cell? ⟨w.heap.size, 1, none⟩ = some (.int .u64 o1) := by rw [Lib.cell_of_heap g2]; rfl
  have c6 : (w5.alloc (.cells #[.int .u64 x0, .int .u64 x1, .int .u64 y0, .int .u64 y1] 63)).cell? ⟨w.heap.size + 1, 0, none⟩ = some (.int .u64 h0) := by rw [Lib.cell_of_heap g3]; rfl
  have c7 : (w5.alloc (.cells #[.int .u64 x0, .int .u64 x1, .int .u64 y0, .int .u64 y1] 63)).cell? ⟨w.heap.size + 1, 1, none⟩ = some (.int .u64 h1) := by rw [Lib.cell_of_heap g3]; rfl
  clear g0 g1 g2 g3 b6
  have hb6 := bla HB5.out (.cells #[.int .u64 x0, .int .u64 x1, .int .u64 y0, .int .u64 y1] 63)
  cases ok
  · go_wp2
    go_ret
    exact ⟨rfl, hb6⟩
  · go_wp2
    go_ret
    exact ⟨rfl, hb6⟩
set_option maxRecDepth 100000 in
set_option maxHeartbeats 8000000 in
theorem refXt_neg (n m o0 o1 h0 h1 : Int) (len cap : Nat) (a : Option Addr) (h : n < 0) (w : World) :
    Calls Try.prog 27 #[.agg #[.int .u64 o0, .int .u64 o1], .int .i64 n, .agg #[.int .u64 h0, .int .u64 h1], .int .i64 m, .slice a len cap] w fun e w' => e = .returned (.bool false) ∧ Below w.heap.size w w' := by
  have d1 : decide (n < 0) = true := by simpa using h
  have hb : Below w.heap.size w ((w.alloc (.cells #[.int .u64 o0, .int .u64 o1] 40)).alloc (.cells #[.int .u64 h0, .int .u64 h1] 40)) := bla (bla (Below.refl _ _) _) _
  go_enter Try.func27, Try.ntmps27
  go_wp2
  go_ret
  exact ⟨rfl, hb⟩
set_option maxRecDepth 100000 in
set_option maxHeartbeats 8000000 in
theorem refXt_gt (n m o0 o1 h0 h1 : Int) (len cap : Nat) (a : Option Addr) (hh0 : 0 ≤ n) (h : m < n) (w : World) :
    Calls Try.prog 27 #[.agg #[.int .u64 o0, .int .u64 o1], .int .i64 n, .agg #[.int .u64 h0, .int .u64 h1], .int .i64 m, .slice a len cap] w fun e w' => e = .returned (.bool false) ∧ Below w.heap.size w w' := by
  have d1 : decide (n < 0) = false := by simp; omega
  have d2 : decide (m < n) = true := by simpa using h
  have hb : Below w.heap.size w ((w.alloc (.cells #[.int .u64 o0, .int .u64 o1] 40)).alloc (.cells #[.int .u64 h0, .int .u64 h1] 40)) := bla (bla (Below.refl _ _) _) _
  go_enter Try.func27, Try.ntmps27
  go_wp2
  go_ret
  exact ⟨rfl, hb⟩
set_option maxRecDepth 100000 in
set_option maxHeartbeats 8000000 in
theorem refXt_big (n m o0 o1 h0 h1 : Int) (len cap : Nat) (a : Option Addr) (hh0 : 0 ≤ n) (hh1 : n ≤ m) (h : 10000 < m) (w : World) :
    Calls Try.prog 27 #[.agg #[.int .u64 o0, .int .u64 o1], .int .i64 n, .agg #[.int .u64 h0, .int .u64 h1], .int .i64 m, .slice a len cap] w fun e w' => e = .returned (.bool false) ∧ Below w.heap.size w w' := by
  have d1 : decide (n < 0) = false := by simp; omega
  have d2 : decide (m < n) = false := by simp; omega
  have d3 : decide ((10000 : Int) < m) = true := by simpa using h
  have hb : Below w.heap.size w ((w.alloc (.cells #[.int .u64 o0, .int .u64 o1] 40)).alloc (.cells #[.int .u64 h0, .int .u64 h1] 40)) := bla (bla (Below.refl _ _) _) _
  go_enter Try.func27, Try.ntmps27
  go_wp2
  go_ret
  exact ⟨rfl, hb⟩
set_option maxRecDepth 100000 in
set_option maxHeartbeats 8000000 in
theorem refXt_zero (m o0 o1 h0 h1 e0 e1 : Int) (len cap : Nat) (a : Option Addr) (q : Bool) (hm : 0 ≤ m) (hm2 : m ≤ 10000) (hq : (o0 == e0 && o1 == e1) = true) (hb0 : ((len : Int) == 0) = q) (w : World)
    (h2 : ∀ W, Calls Try.prog 41 #[.slice none 0 0] W fun e w' => e = .returned (.agg #[.int .u64 e0, .int .u64 e1]) ∧ Below W.heap.size W w') :
    Calls Try.prog 27 #[.agg #[.int .u64 o0, .int .u64 o1], .int .i64 0, .agg #[.int .u64 h0, .int .u64 h1], .int .i64 m, .slice a len cap] w fun e w' => e = .returned (.bool q) ∧ Below w.heap.size w w' := by
  have H2 := Lib.hid h2
  have HQ := Lib.hid hq
  have HB0 := Lib.hid hb0
  clear h2 hq hb0
  have d2 : decide (m < 0) = false := by simp; omega
  have d3 : decide ((10000 : Int) < m) = false := by simp; omega
  go_enter Try.func27, Try.ntmps27
  go_wp2_with fail
  have below : Below (w.heap.size) w ((w.alloc (.cells #[.int .u64 o0, .int .u64 o1] 40)).alloc (.cells #[.int .u64 h0, .int .u64 h1] 40)) := bla (bla (Below.refl _ _) _) _
  have HBW : Hid (w.heap.size ≤ ((w.alloc (.cells #[.int .u64 o0, .int .u64 o1] 40)).alloc (.cells #[.int .u64 h0, .int .u64 h1] 40)).heap.size) := Lib.hid below.size
  have HKEEP : Hid (Keep (w.heap.size) w [((w.heap.size, .cells #[.int .u64 o0, .int .u64 o1] 40) : Nat × Obj)] ((w.alloc (.cells #[.int .u64 o0, .int .u64 o1] 40)).alloc (.cells #[.int .u64 h0, .int .u64 h1] 40))) := Lib.hid ⟨below, by
    intro p hp
    simp only [List.mem_cons, List.not_mem_nil, or_false] at hp
    subst hp
    exact ((Below.heap_alloc _ _ _ (by simp)).trans (World.alloc_heap_new _ _))⟩
  have HOLD0 : Hid (∀ b ∈ [(⟨none, none, w.heap.size + 1, #[.int .u64 h0, .int .u64 h1], #[.int .u64 h0, .int .u64 h1], 40⟩ : RBox)], b.al = none → ((w.alloc (.cells #[.int .u64 o0, .int .u64 o1] 40)).alloc (.cells #[.int .u64 h0, .int .u64 h1] 40)).heap[b.blk]? = some (.cells b.z b.T (0, 0)) ∧ w.heap.size ≤ b.blk ∧ ∀ p ∈ [((w.heap.size, .cells #[.int .u64 o0, .int .u64 o1] 40) : Nat × Obj)], p.1 ≠ b.blk) := Lib.hid (by
    intro b hb
    simp only [List.mem_cons, List.not_mem_nil, or_false] at hb
    subst hb
    intro _
    refine ⟨(by have := World.alloc_heap_new (w.alloc (.cells #[.int .u64 o0, .int .u64 o1] 40)) (.cells #[.int .u64 h0, .int .u64 h1] 40); rw [World.size_alloc] at this; exact this), (by show w.heap.size ≤ w.heap.size + 1; omega), fun p hp => ?_⟩
    simp only [List.mem_cons, List.not_mem_nil, or_false] at hp
    subst hp
    show w.heap.size ≠ w.heap.size + 1
    omega)
  clear below
  refine wp_region_box (w.heap.size) w [(w.heap.size, .cells #[.int .u64 o0, .int .u64 o1] 40)] [⟨none, none, w.heap.size + 1, #[.int .u64 h0, .int .u64 h1], #[.int .u64 h0, .int .u64 h1], 40⟩] (fun i => ([(.agg #[.int .u64 o0, .int .u64 o1]), (.agg #[.int .u64 e0, .int .u64 e1]), (.bool true), (.bool true), (.slice a len cap), (.int .i64 (len : Int)), (.bool q), (.bool q), (.bool q)] : List Value).getD i undef) (by kernel_rfl) (by kernel_rfl) (by kernel_rfl) (by rfl) (by simp) (by rfl) HBW.out HKEEP.out HOLD0.out ?_ ?_
  · refine ⟨?_, ?_, ?_, ?_, ?_, ?_, ?_, ?_, ?_, trivial⟩
    · refine stepG_plain rfl rfl fun g ac W hK hk => ?_
      have h5 : ac.tmps[5]? = some (.pointer (some ⟨w.heap.size, 0, none⟩)) := hk.keep 5 rfl
      have mxq := hK.get 0 rfl
      have q0 : W.cell? ⟨w.heap.size, 0, none⟩ = some (.int .u64 o0) := by rw [Lib.cell_of_heap mxq]; rfl
      have q1 : W.cell? ⟨w.heap.size, 1, none⟩ = some (.int .u64 o1) := by rw [Lib.cell_of_heap mxq]; rfl
      refine wpOp_of rfl rfl ?_
      unfold Oper.wp
      simp [execOp, go_sem, h5, q0, q1]
      first | exact ⟨rfl, Below.refl _ _⟩ | exact Below.refl _ _
    · refine stepG_plain rfl rfl fun g ac W hK hk => ?_
      refine wpOp_of rfl rfl ?_
      unfold Oper.wp
      simp [execOp, go_sem]
      refine (H2.out W).mono ?_
      rintro e w' ⟨rfl, hb⟩
      exact ⟨rfl, hb⟩
    · refine stepG_plain rfl rfl fun g ac W hK hk => ?_
      have h27 : ac.tmps[27]? = some (.agg #[.int .u64 o0, .int .u64 o1]) := hk.has 0 _ 27 rfl rfl rfl (by simp) rfl
      have h28 : ac.tmps[28]? = some (.agg #[.int .u64 e0, .int .u64 e1]) := hk.has 1 _ 28 rfl rfl rfl (by simp) rfl
      have hqq := HQ.out
      refine wpOp_of rfl rfl ?_
      unfold Oper.wp
      simp [execOp, go_sem, h27, h28, hqq]
      first | exact ⟨rfl, Below.refl _ _⟩ | exact Below.refl _ _
    · refine stepG_plain rfl rfl fun g ac W hK hk => ?_
      have h29 : ac.tmps[29]? = some (.bool true) := hk.has 2 _ 29 rfl rfl rfl (by simp) rfl
      refine wpOp_of rfl rfl ?_
      unfold Oper.wp
      simp [execOp, go_sem, h29]
      first | exact ⟨rfl, Below.refl _ _⟩ | exact Below.refl _ _
    · refine stepG_plain rfl rfl fun g ac W hK hk => ?_
      have h4 : ac.tmps[4]? = some (.slice a len cap) := hk.keep 4 rfl
      have hg : ac.tmps[30]? = some (.bool true) := hk.has 3 _ 30 rfl rfl rfl (by simp) rfl
      refine wpOp_of rfl (by simp [Region.wanted, yielded, hg]) ?_
      unfold Oper.wp
      simp [execOp, go_sem, h4]
      first | exact ⟨rfl, Below.refl _ _⟩ | exact Below.refl _ _
    · refine stepG_plain rfl rfl fun g ac W hK hk => ?_
      have h31 : ac.tmps[31]? = some (.slice a len cap) := hk.has 4 _ 31 rfl rfl rfl (by simp) rfl
      have hg : ac.tmps[30]? = some (.bool true) := hk.has 3 _ 30 rfl rfl rfl (by simp) rfl
      refine wpOp_of rfl (by simp [Region.wanted, yielded, hg]) ?_
      unfold Oper.wp
      simp [execOp, go_sem, h31]
      first | exact ⟨rfl, Below.refl _ _⟩ | exact Below.refl _ _
    · refine stepG_plain rfl rfl fun g ac W hK hk => ?_
      have h32 : ac.tmps[32]? = some (.int .i64 (len : Int)) := hk.has 5 _ 32 rfl rfl rfl (by simp) rfl
      have hg : ac.tmps[30]? = some (.bool true) := hk.has 3 _ 30 rfl rfl rfl (by simp) rfl
      have hqb := HB0.out
      refine wpOp_of rfl (by simp [Region.wanted, yielded, hg]) ?_
      unfold Oper.wp
      simp [execOp, go_sem, h32, hqb]
      first | exact ⟨rfl, Below.refl _ _⟩ | exact Below.refl _ _
    · refine stepG_plain rfl rfl fun g ac W hK hk => ?_
      have h30 : ac.tmps[30]? = some (.bool true) := hk.has 3 _ 30 rfl rfl rfl (by simp) rfl
      have h33 : ac.tmps[33]? = some (.bool q) := hk.has 6 _ 33 rfl rfl rfl (by simp) rfl
      refine wpOp_of rfl rfl ?_
      unfold Oper.wp
      simp [execOp, go_sem, h30, h33]
      first | exact ⟨rfl, Below.refl _ _⟩ | exact Below.refl _ _
    · refine stepG_plain rfl rfl fun g ac W hK hk => ?_
      have h34 : ac.tmps[34]? = some (.bool q) := hk.has 7 _ 34 rfl rfl rfl (by simp) rfl
      refine wpOp_of rfl rfl ?_
      unfold Oper.wp
      simp [execOp, go_sem, h34]
      first | exact ⟨rfl, Below.refl _ _⟩ | exact Below.refl _ _
  · intro g W hK hsz hB hd
    simp [frameOf, Act.put, valG]
    have HW := Lib.hid hK.1
    clear hK hB hd hsz
    go_wp2
    go_ret
    exact ⟨rfl, HW.out⟩
set_option maxRecDepth 100000 in
set_option maxHeartbeats 8000000 in
theorem refXt_zerono (m o0 o1 h0 h1 e0 e1 : Int) (len cap : Nat) (a : Option Addr) (hm : 0 ≤ m) (hm2 : m ≤ 10000) (hq : (o0 == e0 && o1 == e1) = false) (w : World)
    (h2 : ∀ W, Calls Try.prog 41 #[.slice none 0 0] W fun e w' => e = .returned (.agg #[.int .u64 e0, .int .u64 e1]) ∧ Below W.heap.size W w') :
    Calls Try.prog 27 #[.agg #[.int .u64 o0, .int .u64 o1], .int .i64 0, .agg #[.int .u64 h0, .int .u64 h1], .int .i64 m, .slice a len cap] w fun e w' => e = .returned (.bool false) ∧ Below w.heap.size w w' := by
  have H2 := Lib.hid h2
  have HQ := Lib.hid hq

  clear h2 hq
  have d2 : decide (m < 0) = false := by simp; omega
  have d3 : decide ((10000 : Int) < m) = false := by simp; omega
  go_enter Try.func27, Try.ntmps27
  go_wp2_with fail
  have below : Below (w.heap.size) w ((w.alloc (.cells #[.int .u64 o0, .int .u64 o1] 40)).alloc (.cells #[.int .u64 h0, .int .u64 h1] 40)) := bla (bla (Below.refl _ _) _) _
  have HBW : Hid (w.heap.size ≤ ((w.alloc (.cells #[.int .u64 o0, .int .u64 o1] 40)).alloc (.cells #[.int .u64 h0, .int .u64 h1] 40)).heap.size) := Lib.hid below.size
  have HKEEP : Hid (Keep (w.heap.size) w [((w.heap.size, .cells #[.int .u64 o0, .int .u64 o1] 40) : Nat × Obj)] ((w.alloc (.cells #[.int .u64 o0, .int .u64 o1] 40)).alloc (.cells #[.int .u64 h0, .int .u64 h1] 40))) := Lib.hid ⟨below, by
    intro p hp
    simp only [List.mem_cons, List.not_mem_nil, or_false] at hp
    subst hp
    exact ((Below.heap_alloc _ _ _ (by simp)).trans (World.alloc_heap_new _ _))⟩
  have HOLD0 : Hid (∀ b ∈ [(⟨none, none, w.heap.size + 1, #[.int .u64 h0, .int .u64 h1], #[.int .u64 h0, .int .u64 h1], 40⟩ : RBox)], b.al = none → ((w.alloc (.cells #[.int .u64 o0, .int .u64 o1] 40)).alloc (.cells #[.int .u64 h0, .int .u64 h1] 40)).heap[b.blk]? = some (.cells b.z b.T (0, 0)) ∧ w.heap.size ≤ b.blk ∧ ∀ p ∈ [((w.heap.size, .cells #[.int .u64 o0, .int .u64 o1] 40) : Nat × Obj)], p.1 ≠ b.blk) := Lib.hid (by
    intro b hb
    simp only [List.mem_cons, List.not_mem_nil, or_false] at hb
    subst hb
    intro _
    refine ⟨(by have := World.alloc_heap_new (w.alloc (.cells #[.int .u64 o0, .int .u64 o1] 40)) (.cells #[.int .u64 h0, .int .u64 h1] 40); rw [World.size_alloc] at this; exact this), (by show w.heap.size ≤ w.heap.size + 1; omega), fun p hp => ?_⟩
    simp only [List.mem_cons, List.not_mem_nil, or_false] at hp
    subst hp
    show w.heap.size ≠ w.heap.size + 1
    omega)
  clear below
  refine wp_region_box (w.heap.size) w [(w.heap.size, .cells #[.int .u64 o0, .int .u64 o1] 40)] [⟨none, none, w.heap.size + 1, #[.int .u64 h0, .int .u64 h1], #[.int .u64 h0, .int .u64 h1], 40⟩] (fun i => ([(.agg #[.int .u64 o0, .int .u64 o1]), (.agg #[.int .u64 e0, .int .u64 e1]), (.bool false), (.bool false), (undef), (undef), (undef), (.bool false), (.bool false)] : List Value).getD i undef) (by kernel_rfl) (by kernel_rfl) (by kernel_rfl) (by rfl) (by simp) (by rfl) HBW.out HKEEP.out HOLD0.out ?_ ?_
  · refine ⟨?_, ?_, ?_, ?_, ?_, ?_, ?_, ?_, ?_, trivial⟩
    · refine stepG_plain rfl rfl fun g ac W hK hk => ?_
      have h5 : ac.tmps[5]? = some (.pointer (some ⟨w.heap.size, 0, none⟩)) := hk.keep 5 rfl
      have mxq := hK.get 0 rfl
      have q0 : W.cell? ⟨w.heap.size, 0, none⟩ = some (.int .u64 o0) := by rw [Lib.cell_of_heap mxq]; rfl
      have q1 : W.cell? ⟨w.heap.size, 1, none⟩ = some (.int .u64 o1) := by rw [Lib.cell_of_heap mxq]; rfl
      refine wpOp_of rfl rfl ?_
      unfold Oper.wp
      simp [execOp, go_sem, h5, q0, q1]
      first | exact ⟨rfl, Below.refl _ _⟩ | exact Below.refl _ _
    · refine stepG_plain rfl rfl fun g ac W hK hk => ?_
      refine wpOp_of rfl rfl ?_
      unfold Oper.wp
      simp [execOp, go_sem]
      refine (H2.out W).mono ?_
      rintro e w' ⟨rfl, hb⟩
      exact ⟨rfl, hb⟩
    · refine stepG_plain rfl rfl fun g ac W hK hk => ?_
      have h27 : ac.tmps[27]? = some (.agg #[.int .u64 o0, .int .u64 o1]) := hk.has 0 _ 27 rfl rfl rfl (by simp) rfl
      have h28 : ac.tmps[28]? = some (.agg #[.int .u64 e0, .int .u64 e1]) := hk.has 1 _ 28 rfl rfl rfl (by simp) rfl
      have hqq := HQ.out
      refine wpOp_of rfl rfl ?_
      unfold Oper.wp
      simp [execOp, go_sem, h27, h28, hqq]
      first | exact ⟨rfl, Below.refl _ _⟩ | exact Below.refl _ _
    · refine stepG_plain rfl rfl fun g ac W hK hk => ?_
      have h29 : ac.tmps[29]? = some (.bool false) := hk.has 2 _ 29 rfl rfl rfl (by simp) rfl
      refine wpOp_of rfl rfl ?_
      unfold Oper.wp
      simp [execOp, go_sem, h29]
      first | exact ⟨rfl, Below.refl _ _⟩ | exact Below.refl _ _
    · refine stepG_plain rfl rfl fun g ac W hK hk => ?_
      have hg : ac.tmps[30]? = some (.bool false) := hk.has 3 _ 30 rfl rfl rfl (by simp) rfl
      exact wpOp_skip rfl (by simp [Region.wanted, yielded, hg]) ⟨rfl, Below.refl _ _⟩
    · refine stepG_plain rfl rfl fun g ac W hK hk => ?_
      have hg : ac.tmps[30]? = some (.bool false) := hk.has 3 _ 30 rfl rfl rfl (by simp) rfl
      exact wpOp_skip rfl (by simp [Region.wanted, yielded, hg]) ⟨rfl, Below.refl _ _⟩
    · refine stepG_plain rfl rfl fun g ac W hK hk => ?_
      have hg : ac.tmps[30]? = some (.bool false) := hk.has 3 _ 30 rfl rfl rfl (by simp) rfl
      exact wpOp_skip rfl (by simp [Region.wanted, yielded, hg]) ⟨rfl, Below.refl _ _⟩
    · refine stepG_plain rfl rfl fun g ac W hK hk => ?_
      have h30 : ac.tmps[30]? = some (.bool false) := hk.has 3 _ 30 rfl rfl rfl (by simp) rfl
      have h33 : ac.tmps[33]? = some (undef) := hk.has 6 _ 33 rfl rfl rfl (by simp) rfl
      refine wpOp_of rfl rfl ?_
      unfold Oper.wp
      simp [execOp, go_sem, h30, h33]
      first | exact ⟨rfl, Below.refl _ _⟩ | exact Below.refl _ _
    · refine stepG_plain rfl rfl fun g ac W hK hk => ?_
      have h34 : ac.tmps[34]? = some (.bool false) := hk.has 7 _ 34 rfl rfl rfl (by simp) rfl
      refine wpOp_of rfl rfl ?_
      unfold Oper.wp
      simp [execOp, go_sem, h34]
      first | exact ⟨rfl, Below.refl _ _⟩ | exact Below.refl _ _
  · intro g W hK hsz hB hd
    simp [frameOf, Act.put, valG]
    have HW := Lib.hid hK.1
    clear hK hB hd hsz
    go_wp2
    go_ret
    exact ⟨rfl, HW.out⟩
set_option maxRecDepth 100000 in
set_option maxHeartbeats 8000000 in
theorem refXt_eq (n o0 o1 h0 h1 : Int) (len cap : Nat) (a : Option Addr) (q : Bool) (hb0 : ((len : Int) == 0) = q) (hn : 0 < n) (hm2 : n ≤ 10000) (hq : (o0 == h0 && o1 == h1) = true) (w : World) :
    Calls Try.prog 27 #[.agg #[.int .u64 o0, .int .u64 o1], .int .i64 n, .agg #[.int .u64 h0, .int .u64 h1], .int .i64 n, .slice a len cap] w fun e w' => e = .returned (.bool q) ∧ Below w.heap.size w w' := by
  have d1 : decide (n < 0) = false := by simp; omega
  have d2 : decide (n < n) = false := by simp
  have d3 : decide ((10000 : Int) < n) = false := by simp; omega
  have d4 : (n == 0) = false := by simp; omega
  have d5 : (n == n) = true := by simp
  have hb : Below w.heap.size w ((w.alloc (.cells #[.int .u64 o0, .int .u64 o1] 40)).alloc (.cells #[.int .u64 h0, .int .u64 h1] 40)) := bla (bla (Below.refl _ _) _) _
  go_enter Try.func27, Try.ntmps27
  go_wp2
  go_ret
  exact ⟨rfl, hb⟩
set_option maxRecDepth 100000 in
set_option maxHeartbeats 8000000 in
theorem refXt_eqno (n o0 o1 h0 h1 : Int) (len cap : Nat) (a : Option Addr) (hn : 0 < n) (hm2 : n ≤ 10000) (hq : (o0 == h0 && o1 == h1) = false) (w : World) :
    Calls Try.prog 27 #[.agg #[.int .u64 o0, .int .u64 o1], .int .i64 n, .agg #[.int .u64 h0, .int .u64 h1], .int .i64 n, .slice a len cap] w fun e w' => e = .returned (.bool false) ∧ Below w.heap.size w w' := by
  have d1 : decide (n < 0) = false := by simp; omega
  have d2 : decide (n < n) = false := by simp
  have d3 : decide ((10000 : Int) < n) = false := by simp; omega
  have d4 : (n == 0) = false := by simp; omega
  have d5 : (n == n) = true := by simp
  have hb : Below w.heap.size w ((w.alloc (.cells #[.int .u64 o0, .int .u64 o1] 40)).alloc (.cells #[.int .u64 h0, .int .u64 h1] 40)) := bla (bla (Below.refl _ _) _) _
  go_enter Try.func27, Try.ntmps27
  go_wp2
  go_ret
  exact ⟨rfl, hb⟩
set_option maxRecDepth 100000 in
set_option maxHeartbeats 8000000 in
theorem refXt_gen (n m o0 o1 h0 h1 x0 x1 y0 y1 : Int) (ok : Bool) (len cap : Nat) (a : Option Addr) (hn : 0 < n) (hnm : n < m) (hm2 : m ≤ 10000) (w : World)
    (h2 : ∀ W, Below w.heap.size w W → Calls Try.prog 47 #[.int .i64 n, .int .i64 m, .agg #[.int .u64 o0, .int .u64 o1], .slice a len cap, .bool true] W fun e w' => e = .returned (.tuple #[.agg #[.int .u64 x0, .int .u64 x1], .agg #[.int .u64 y0, .int .u64 y1], .bool ok]) ∧ Below W.heap.size W w') :
    Calls Try.prog 27 #[.agg #[.int .u64 o0, .int .u64 o1], .int .i64 n, .agg #[.int .u64 h0, .int .u64 h1], .int .i64 m, .slice a len cap] w fun e w' => e = .returned (.bool (ok && (x0 == o0 && x1 == o1 && (y0 == h0 && y1 == h1)))) ∧ Below w.heap.size w w' := by
  have HR := Lib.hid h2
  clear h2
  have d1 : decide (n < 0) = false := by simp; omega
  have d2 : decide (m < n) = false := by simp; omega
  have d3 : decide ((10000 : Int) < m) = false := by simp; omega
  have d4 : (n == 0) = false := by simp; omega
  have d5 : (n == m) = false := by simp; omega
  have hb0 : Below w.heap.size w ((w.alloc (.cells #[.int .u64 o0, .int .u64 o1] 40)).alloc (.cells #[.int .u64 h0, .int .u64 h1] 40)) := bla (bla (Below.refl _ _) _) _
  have hx0 : ((w.alloc (.cells #[.int .u64 o0, .int .u64 o1] 40)).alloc (.cells #[.int .u64 h0, .int .u64 h1] 40)).heap[w.heap.size]? = some (.cells #[.int .u64 o0, .int .u64 o1] 40 (0, 0)) := (Below.heap_alloc _ _ _ (by simp)).trans (World.alloc_heap_new _ _)
  have hx1 : ((w.alloc (.cells #[.int .u64 o0, .int .u64 o1] 40)).alloc (.cells #[.int .u64 h0, .int .u64 h1] 40)).heap[w.heap.size + 1]? = some (.cells #[.int .u64 h0, .int .u64 h1] 40 (0, 0)) := by
    have := World.alloc_heap_new (w.alloc (.cells #[.int .u64 o0, .int .u64 o1] 40)) (.cells #[.int .u64 h0, .int .u64 h1] 40)
    rw [World.size_alloc] at this; exact this
  have HX0 := Lib.hid hx0
  have HX1 := Lib.hid hx1
  clear hx0 hx1
  go_enter Try.func27, Try.ntmps27
  go_wp2_with fail
  ((with_reducible refine (HR.out _ hb0).mono ?_); rintro e w5 ⟨rfl, hb5⟩)
  have HB5 := Lib.hid (bl hb0 hb5)
  have g0 := (hb5.block _ (lt_of_block HX0.out)).trans HX0.out
  have g1 := (hb5.block _ (lt_of_block HX1.out)).trans HX1.out
  have hlt := lt_of_block g1
  have c0 : w5.cell? ⟨w.heap.size, 0, none⟩ = some (.int .u64 o0) := by rw [Lib.cell_of_heap g0]; rfl
  have c1 : w5.cell? ⟨w.heap.size, 1, none⟩ = some (.int .u64 o1) := by rw [Lib.cell_of_heap g0]; rfl
  have c2 : w5.cell? ⟨w.heap.size + 1, 0, none⟩ = some (.int .u64 h0) := by rw [Lib.cell_of_heap g1]; rfl
  have c3 : w5.cell? ⟨w.heap.size + 1, 1, none⟩ = some (.int .u64 h1) := by rw [Lib.cell_of_heap g1]; rfl
  clear hb5 hb0
  have b6 : Below w5.heap.size w5 ((w5.alloc (.cells #[.int .u64 x0, .int .u64 x1] 40)).alloc (.cells #[.int .u64 y0, .int .u64 y1] 40)) := bla (bla (Below.refl _ w5) _) _
  have g2 := (b6.block _ (lt_of_block g0)).trans g0
  have g3 := (b6.block _ (lt_of_block g1)).trans g1
  have c4 : ((w5.alloc (.cells #[.int .u64 x0, .int .u64 x1] 40)).alloc (.cells #[.int .u64 y0, .int .u64 y1] 40)).cell? ⟨w.heap.size, 0, none⟩ = some (.int .u64 o0) := by rw [Lib.cell_of_heap g2]; rfl
  have c5 : ((w5.alloc (.cells #[.int .u64 x0, .int .u64 x1] 40)).alloc (.cells #[.int .u64 y0, .int .u64 y1] 40)).cell? ⟨w.heap.size, 1, none⟩ = some (.int .u64 o1) := by rw [Lib.cell_of_heap g2]; rfl
  have c6 : ((w5.alloc (.cells #[.int .u64 x0, .int .u64 x1] 40)).alloc (.cells #[.int .u64 y0, .int .u64 y1] 40)).cell? ⟨w.heap.size + 1, 0, none⟩ = some (.int .u64 h0) := by rw [Lib.cell_of_heap g3]; rfl
  have c7 : ((w5.alloc (.cells #[.int .u64 x0, .int .u64 x1] 40)).alloc (.cells #[.int .u64 y0, .int .u64 y1] 40)).cell? ⟨w.heap.size + 1, 1, none⟩ = some (.int .u64 h1) := by rw [Lib.cell_of_heap g3]; rfl
  clear g0 g1 g2 g3 b6
  have hb6 := bla (bla HB5.out (.cells #[.int .u64 x0, .int .u64 x1] 40)) (.cells #[.int .u64 y0, .int .u64 y1] 40)
  cases ok
  · go_wp2
    go_ret
    exact ⟨rfl, hb6⟩
  · cases hq : (x0 == o0 && x1 == o1)
    · go_wp2
      go_ret
      exact ⟨by rw [hq]; rfl, hb6⟩
    · go_wp2
      go_ret
      exact ⟨by rw [hq]; rfl, hb6⟩

/-- Whether a growth proof shows that a ledger continues another one. -/
def xtM (old : Dig) (n : Int) (head : Dig) (m : Int) (L : List Dig) : Bool :=
  if n < 0 ∨ m < n ∨ 10000 < m then false
  else if n = 0 then decide (old = ofD []) && decide (L = [])
  else if n = m then decide (old = head) && decide (L = [])
  else (rsP n.toNat m.toNat old L.reverse true).2 && decide ((rsP n.toNat m.toNat old L.reverse true).1 = (old, head))
theorem dig_eqB (x y : Dig) : ((x.1 : Int) == (y.1 : Int) && (x.2 : Int) == (y.2 : Int)) = decide (x = y) := by
  obtain ⟨a, b⟩ := x
  obtain ⟨c, d⟩ := y
  by_cases h1 : a = c <;> by_cases h2 : b = d <;> (simp [h1, h2] <;> omega)
theorem dig_eqB2 (x y p q : Dig) : ((x.1 : Int) == (p.1 : Int) && (x.2 : Int) == (p.2 : Int) && ((y.1 : Int) == (q.1 : Int) && (y.2 : Int) == (q.2 : Int))) = decide ((x, y) = (p, q)) := by
  rw [dig_eqB, dig_eqB]
  by_cases h1 : x = p <;> by_cases h2 : y = q <;> simp [h1, h2]
theorem len_nil (L : List Dig) : ((L.length : Int) == 0) = decide (L = []) := by
  cases L with
  | nil => rfl
  | cons a t => simp; omega
theorem root_none (W : World) : Calls Try.prog 40 #[.slice none 0 0] W fun e w' => e = .returned (ofD []).v ∧ Below W.heap.size W w' := root_any 1 [] W _ (by simp) (by simp) (isDigs_nil W)
theorem refRoot_none (W : World) : Calls Try.prog 41 #[.slice none 0 0] W fun e w' => e = .returned (ofD []).v ∧ Below W.heap.size W w' := refRoot_any 1 [] W _ (by simp) (by simp) (isDigs_nil W)
theorem extends_any (old : Dig) (n : Int) (head : Dig) (m : Int) (L : List Dig) (v : Value) (w : World) (hv : IsDigs w v L) :
    Calls Try.prog 26 #[old.v, .int .i64 n, head.v, .int .i64 m, v] w fun e w' => e = .returned (.bool (xtM old n head m L)) ∧ Below w.heap.size w w' := by
  obtain ⟨a, c, hve, _⟩ := id hv
  subst hve
  unfold xtM
  by_cases hr : n < 0 ∨ m < n ∨ 10000 < m
  · rw [if_pos hr]
    by_cases h1 : n < 0
    · exact xt_neg n m old.1 old.2 head.1 head.2 L.length c a h1 w
    · by_cases h2 : m < n
      · exact xt_gt n m old.1 old.2 head.1 head.2 L.length c a (by omega) h2 w
      · exact xt_big n m old.1 old.2 head.1 head.2 L.length c a (by omega) (by omega) (by omega) w
  · rw [if_neg hr]
    by_cases h0 : n = 0
    · subst h0
      rw [if_pos rfl]
      cases hq : decide (old = ofD []) with
      | true =>
        rw [Bool.true_and]
        exact xt_zero m old.1 old.2 head.1 head.2 (ofD []).1 (ofD []).2 L.length c a (decide (L = [])) (by omega) (by omega) (by rw [dig_eqB]; exact hq) (len_nil L) w root_none
      | false =>
        rw [Bool.false_and]
        exact xt_zerono m old.1 old.2 head.1 head.2 (ofD []).1 (ofD []).2 L.length c a (by omega) (by omega) (by rw [dig_eqB]; exact hq) w root_none
    · rw [if_neg h0]
      by_cases he : n = m
      · subst he
        rw [if_pos rfl]
        cases hq : decide (old = head) with
        | true =>
          rw [Bool.true_and]
          exact xt_eq n old.1 old.2 head.1 head.2 L.length c a (decide (L = [])) (len_nil L) (by omega) (by omega) (by rw [dig_eqB]; exact hq) w
        | false =>
          rw [Bool.false_and]
          exact xt_eqno n old.1 old.2 head.1 head.2 L.length c a (by omega) (by omega) (by rw [dig_eqB]; exact hq) w
      · rw [if_neg he]
        obtain ⟨k, rfl⟩ := Int.eq_ofNat_of_zero_le (show 0 ≤ n by omega)
        obtain ⟨j, rfl⟩ := Int.eq_ofNat_of_zero_le (show 0 ≤ m by omega)
        simp only [Int.toNat_natCast]
        have ih := fun W (hW : Below w.heap.size w W) => res_any L.reverse k j old true W _ (by rw [List.reverse_reverse]; exact hv.below hW) (by omega) (by omega) (by omega)
        
        obtain ⟨x, hx⟩ : ∃ x, rsP k j old L.reverse true = x := ⟨_, rfl⟩
        simp only [hx] at ih ⊢
        obtain ⟨⟨⟨x0, x1⟩, ⟨y0, y1⟩⟩, ok⟩ := x
        have := xt_gen k j old.1 old.2 head.1 head.2 x0 x1 y0 y1 ok L.length c a (by omega) (by omega) (by omega) w ih
        rw [dig_eqB2 (x0, x1) (y0, y1) old head] at this
        exact this
theorem refExtends_any (old : Dig) (n : Int) (head : Dig) (m : Int) (L : List Dig) (v : Value) (w : World) (hv : IsDigs w v L) :
    Calls Try.prog 27 #[old.v, .int .i64 n, head.v, .int .i64 m, v] w fun e w' => e = .returned (.bool (xtM old n head m L)) ∧ Below w.heap.size w w' := by
  obtain ⟨a, c, hve, _⟩ := id hv
  subst hve
  unfold xtM
  by_cases hr : n < 0 ∨ m < n ∨ 10000 < m
  · rw [if_pos hr]
    by_cases h1 : n < 0
    · exact refXt_neg n m old.1 old.2 head.1 head.2 L.length c a h1 w
    · by_cases h2 : m < n
      · exact refXt_gt n m old.1 old.2 head.1 head.2 L.length c a (by omega) h2 w
      · exact refXt_big n m old.1 old.2 head.1 head.2 L.length c a (by omega) (by omega) (by omega) w
  · rw [if_neg hr]
    by_cases h0 : n = 0
    · subst h0
      rw [if_pos rfl]
      cases hq : decide (old = ofD []) with
      | true =>
        rw [Bool.true_and]
        exact refXt_zero m old.1 old.2 head.1 head.2 (ofD []).1 (ofD []).2 L.length c a (decide (L = [])) (by omega) (by omega) (by rw [dig_eqB]; exact hq) (len_nil L) w refRoot_none
      | false =>
        rw [Bool.false_and]
        exact refXt_zerono m old.1 old.2 head.1 head.2 (ofD []).1 (ofD []).2 L.length c a (by omega) (by omega) (by rw [dig_eqB]; exact hq) w refRoot_none
    · rw [if_neg h0]
      by_cases he : n = m
      · subst he
        rw [if_pos rfl]
        cases hq : decide (old = head) with
        | true =>
          rw [Bool.true_and]
          exact refXt_eq n old.1 old.2 head.1 head.2 L.length c a (decide (L = [])) (len_nil L) (by omega) (by omega) (by rw [dig_eqB]; exact hq) w
        | false =>
          rw [Bool.false_and]
          exact refXt_eqno n old.1 old.2 head.1 head.2 L.length c a (by omega) (by omega) (by rw [dig_eqB]; exact hq) w
      · rw [if_neg he]
        obtain ⟨k, rfl⟩ := Int.eq_ofNat_of_zero_le (show 0 ≤ n by omega)
        obtain ⟨j, rfl⟩ := Int.eq_ofNat_of_zero_le (show 0 ≤ m by omega)
        simp only [Int.toNat_natCast]
        have ih := fun W (hW : Below w.heap.size w W) => roots_any L.reverse k j old true W _ (by rw [List.reverse_reverse]; exact hv.below hW) (by omega) (by omega) (by omega)
        obtain ⟨s1, s2⟩ := rs_same L.reverse k j old true
        obtain ⟨z, hz⟩ : ∃ z, rsP k j old L.reverse true = z := ⟨_, rfl⟩
        obtain ⟨x, hx⟩ : ∃ x, rsR k j old L.reverse true = x := ⟨_, rfl⟩
        simp only [hz, hx] at ih s1 s2 ⊢
        clear hz
        obtain ⟨⟨⟨x0, x1⟩, ⟨y0, y1⟩⟩, ok⟩ := x
        have := refXt_gen k j old.1 old.2 head.1 head.2 x0 x1 y0 y1 ok L.length c a (by omega) (by omega) (by omega) w ih
        rw [dig_eqB2 (x0, x1) (y0, y1) old head] at this
        have e : (z.2 && decide (z.1 = (old, head))) = (ok && decide (((x0, x1), (y0, y1)) = (old, head))) := by
          rw [s1]
          cases ok with
          | false => rfl
          | true => rw [s2 s1]
        rw [e]
        exact this
end Go.Proofs.Ytfheflihofafdaa
