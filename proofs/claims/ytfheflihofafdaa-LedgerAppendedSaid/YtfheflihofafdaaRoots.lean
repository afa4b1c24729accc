/- The reference's Roots, at this translation. -/
import Derived.Test.YtfheflihofafdaaGrow
import Derived.Test.YtfheflihofafdaaRgBox
namespace Go.Proofs.Ytfheflihofafdaa
open Go.RowKit Go.Great Pt Tr
attribute [local go_sem] eq_arr

set_option maxRecDepth 100000 in
set_option maxHeartbeats 8000000 in
theorem roots_none (cap : Nat) (a : Option Addr) (n m o0 o1 : Int) (wh : Bool) (h1 : (n == m && wh) = false) (w : World) :
    Calls Try.prog 47 #[.int .i64 n, .int .i64 m, .agg #[.int .u64 o0, .int .u64 o1], .slice a 0 cap, .bool wh] w fun e w' => e = .returned (.tuple #[.agg #[.int .u64 0, .int .u64 0], .agg #[.int .u64 0, .int .u64 0], .bool false]) ∧ Below w.heap.size w w' := by
  have hb : Below w.heap.size w (((w.alloc (.cells #[.int .u64 o0, .int .u64 o1] 40)).alloc (.cells #[.int .u64 0, .int .u64 0] 40)).alloc (.cells #[.int .u64 0, .int .u64 0] 40)) := bla (bla (bla (Below.refl _ _) _) _) _
  cases t1 : (n == m) with
  | true =>
    rw [t1] at h1
    obtain rfl : wh = false := by simpa using h1
    clear h1
    go_enter Try.func47, Try.ntmps47
    go_wp2
    exact bodyPost_ret (v := .tuple #[.agg #[.int .u64 0, .int .u64 0], .agg #[.int .u64 0, .int .u64 0], .bool false]) (by simp [results, Try.results47, go_sem]) rfl ⟨rfl, hb⟩
  | false =>
    clear h1
    go_enter Try.func47, Try.ntmps47
    go_wp2
    exact bodyPost_ret (v := .tuple #[.agg #[.int .u64 0, .int .u64 0], .agg #[.int .u64 0, .int .u64 0], .bool false]) (by simp [results, Try.results47, go_sem]) rfl ⟨rfl, hb⟩
set_option maxRecDepth 100000 in
set_option maxHeartbeats 8000000 in
theorem roots_whole (len cap : Nat) (a : Option Addr) (n o0 o1 : Int) (q : Bool) (hq : ((len : Int) == 0) = q) (w : World) :
    Calls Try.prog 47 #[.int .i64 n, .int .i64 n, .agg #[.int .u64 o0, .int .u64 o1], .slice a len cap, .bool true] w fun e w' => e = .returned (.tuple #[.agg #[.int .u64 o0, .int .u64 o1], .agg #[.int .u64 o0, .int .u64 o1], .bool q]) ∧ Below w.heap.size w w' := by
  have t1 : (n == n) = true := by simp
  have HQ := Lib.hid hq
  clear hq
  go_enter Try.func47, Try.ntmps47
  go_wp2_with fail
  have hx0 : (((w.alloc (.cells #[.int .u64 o0, .int .u64 o1] 40)).alloc (.cells #[.int .u64 0, .int .u64 0] 40)).alloc (.cells #[.int .u64 0, .int .u64 0] 40)).heap[w.heap.size]? = some (.cells #[.int .u64 o0, .int .u64 o1] 40 (0, 0)) := by
    have h := World.alloc_heap_new w (.cells #[.int .u64 o0, .int .u64 o1] 40)
    try simp only [World.size_alloc] at h
    exact (Below.heap_alloc _ _ _ (by simp; try omega)).trans ((Below.heap_alloc _ _ _ (by simp; try omega)).trans h)
  have hx1 : (((w.alloc (.cells #[.int .u64 o0, .int .u64 o1] 40)).alloc (.cells #[.int .u64 0, .int .u64 0] 40)).alloc (.cells #[.int .u64 0, .int .u64 0] 40)).heap[w.heap.size + 1]? = some (.cells #[.int .u64 0, .int .u64 0] 40 (0, 0)) := by
    have h := World.alloc_heap_new (w.alloc (.cells #[.int .u64 o0, .int .u64 o1] 40)) (.cells #[.int .u64 0, .int .u64 0] 40)
    try simp only [World.size_alloc] at h
    exact (Below.heap_alloc _ _ _ (by simp; try omega)).trans h
  have hx2 : (((w.alloc (.cells #[.int .u64 o0, .int .u64 o1] 40)).alloc (.cells #[.int .u64 0, .int .u64 0] 40)).alloc (.cells #[.int .u64 0, .int .u64 0] 40)).heap[w.heap.size + 2]? = some (.cells #[.int .u64 0, .int .u64 0] 40 (0, 0)) := by
    have h := World.alloc_heap_new ((w.alloc (.cells #[.int .u64 o0, .int .u64 o1] 40)).alloc (.cells #[.int .u64 0, .int .u64 0] 40)) (.cells #[.int .u64 0, .int .u64 0] 40)
    try simp only [World.size_alloc] at h
    exact h
  have below : Below (w.heap.size) w (((w.alloc (.cells #[.int .u64 o0, .int .u64 o1] 40)).alloc (.cells #[.int .u64 0, .int .u64 0] 40)).alloc (.cells #[.int .u64 0, .int .u64 0] 40)) := bla (bla (bla (Below.refl _ _) _) _) _
  have HBW : Hid (w.heap.size ≤ (((w.alloc (.cells #[.int .u64 o0, .int .u64 o1] 40)).alloc (.cells #[.int .u64 0, .int .u64 0] 40)).alloc (.cells #[.int .u64 0, .int .u64 0] 40)).heap.size) := Lib.hid below.size
  have HKEEP : Hid (Keep (w.heap.size) w [((w.heap.size, .cells #[.int .u64 o0, .int .u64 o1] 40) : Nat × Obj)] (((w.alloc (.cells #[.int .u64 o0, .int .u64 o1] 40)).alloc (.cells #[.int .u64 0, .int .u64 0] 40)).alloc (.cells #[.int .u64 0, .int .u64 0] 40))) := Lib.hid ⟨below, by
    intro p hp
    simp only [List.mem_cons, List.not_mem_nil, or_false] at hp
    subst hp
    exact hx0⟩
  have HOLD0 : Hid (∀ b ∈ [(⟨none, some 5, w.heap.size + 1, #[.int .u64 0, .int .u64 0], #[.int .u64 o0, .int .u64 o1], 40⟩ : RBox), (⟨none, some 6, w.heap.size + 2, #[.int .u64 0, .int .u64 0], #[.int .u64 o0, .int .u64 o1], 40⟩ : RBox)], b.al = none → (((w.alloc (.cells #[.int .u64 o0, .int .u64 o1] 40)).alloc (.cells #[.int .u64 0, .int .u64 0] 40)).alloc (.cells #[.int .u64 0, .int .u64 0] 40)).heap[b.blk]? = some (.cells b.z b.T (0, 0)) ∧ w.heap.size ≤ b.blk ∧ ∀ p ∈ [((w.heap.size, .cells #[.int .u64 o0, .int .u64 o1] 40) : Nat × Obj)], p.1 ≠ b.blk) := Lib.hid (by
    intro b hb
    simp only [List.mem_cons, List.not_mem_nil, or_false] at hb
    rcases hb with rfl | rfl
    · intro _
      refine ⟨hx1, (by show w.heap.size ≤ w.heap.size + 1; omega), fun p hp => ?_⟩
      simp only [List.mem_cons, List.not_mem_nil, or_false] at hp
      subst hp
      show w.heap.size ≠ w.heap.size + 1
      omega
    · intro _
      refine ⟨hx2, (by show w.heap.size ≤ w.heap.size + 2; omega), fun p hp => ?_⟩
      simp only [List.mem_cons, List.not_mem_nil, or_false] at hp
      subst hp
      show w.heap.size ≠ w.heap.size + 2
      omega)
  clear below
  refine wp_region_box (w.heap.size) w [(w.heap.size, .cells #[.int .u64 o0, .int .u64 o1] 40)] [⟨none, some 5, w.heap.size + 1, #[.int .u64 0, .int .u64 0], #[.int .u64 o0, .int .u64 o1], 40⟩, ⟨none, some 6, w.heap.size + 2, #[.int .u64 0, .int .u64 0], #[.int .u64 o0, .int .u64 o1], 40⟩] (fun i => ([(.agg #[.int .u64 o0, .int .u64 o1]), (.agg #[.int .u64 o0, .int .u64 o1]), (.slice a len cap), (.int .i64 (len : Int)), (.bool q), (undef), (undef), (.bool q)] : List Value).getD i undef) (by kernel_rfl) (by kernel_rfl) (by kernel_rfl) (by rfl) (by simp) (by rfl) HBW.out HKEEP.out HOLD0.out ?_ ?_
  · refine ⟨?_, ?_, ?_, ?_, ?_, ?_, ?_, ?_, trivial⟩
    · refine stepG_plain rfl rfl fun g ac W hK hk => ?_
      have h7 : ac.tmps[7]? = some (.pointer (some ⟨w.heap.size, 0, none⟩)) := hk.keep 7 rfl
      have mxq := hK.get 0 rfl
      have q0 : W.cell? ⟨w.heap.size, 0, none⟩ = some (.int .u64 o0) := by rw [Lib.cell_of_heap mxq]; rfl
      have q1 : W.cell? ⟨w.heap.size, 1, none⟩ = some (.int .u64 o1) := by rw [Lib.cell_of_heap mxq]; rfl
      refine wpOp_of rfl rfl ?_
      unfold Oper.wp
      simp [execOp, go_sem, h7, q0, q1]
      first | exact ⟨rfl, Below.refl _ _⟩ | exact Below.refl _ _
    · refine stepG_plain rfl rfl fun g ac W hK hk => ?_
      have h7 : ac.tmps[7]? = some (.pointer (some ⟨w.heap.size, 0, none⟩)) := hk.keep 7 rfl
      have mxq := hK.get 0 rfl
      have q0 : W.cell? ⟨w.heap.size, 0, none⟩ = some (.int .u64 o0) := by rw [Lib.cell_of_heap mxq]; rfl
      have q1 : W.cell? ⟨w.heap.size, 1, none⟩ = some (.int .u64 o1) := by rw [Lib.cell_of_heap mxq]; rfl
      refine wpOp_of rfl rfl ?_
      unfold Oper.wp
      simp [execOp, go_sem, h7, q0, q1]
      first | exact ⟨rfl, Below.refl _ _⟩ | exact Below.refl _ _
    · refine stepG_plain rfl rfl fun g ac W hK hk => ?_
      have h3 : ac.tmps[3]? = some (.slice a len cap) := hk.keep 3 rfl
      refine wpOp_of rfl rfl ?_
      unfold Oper.wp
      simp [execOp, go_sem, h3]
      first | exact ⟨rfl, Below.refl _ _⟩ | exact Below.refl _ _
    · refine stepG_plain rfl rfl fun g ac W hK hk => ?_
      have h29 : ac.tmps[29]? = some (.slice a len cap) := hk.has 2 _ 29 rfl rfl rfl (by simp) rfl
      refine wpOp_of rfl rfl ?_
      unfold Oper.wp
      simp [execOp, go_sem, h29]
      first | exact ⟨rfl, Below.refl _ _⟩ | exact Below.refl _ _
    · refine stepG_plain rfl rfl fun g ac W hK hk => ?_
      have h30 : ac.tmps[30]? = some (.int .i64 (len : Int)) := hk.has 3 _ 30 rfl rfl rfl (by simp) rfl
      have hq0 := HQ.out
      refine wpOp_of rfl rfl ?_
      unfold Oper.wp
      simp [execOp, go_sem, h30, hq0]
      first | exact ⟨rfl, Below.refl _ _⟩ | exact Below.refl _ _
    · refine stepG_store (by rfl) 0 _ rfl rfl rfl (by rfl) fun g ac W K hK hk hold hz hgo => ?_
      have h10 : ac.tmps[10]? = some (.pointer (some ⟨w.heap.size + 1, 0, none⟩)) := hk.keep 10 rfl
      have h27 : ac.tmps[27]? = some (.agg #[.int .u64 o0, .int .u64 o1]) := hk.has 0 _ 27 rfl rfl rfl (by simp) rfl
      have hg : g 0 = w.heap.size + 1 := hold rfl
      rw [hg] at hz hgo
      have z0 : (W).heap[w.heap.size + 1]? = some (.cells #[.int .u64 0, .int .u64 0] 40 (0, 0)) := hz
      have c0_0 : (W).cell? ⟨w.heap.size + 1, 0, none⟩ = some (.int .u64 0) := by rw [Lib.cell_of_heap z0]; rfl
      have f0 := Lib.frozen_of_heap z0 0
      have z1 : ((W).setCell ⟨w.heap.size + 1, 0, none⟩ (.int .u64 o0)).heap[w.heap.size + 1]? = some (.cells #[.int .u64 o0, .int .u64 0] 40 (0, 0)) := setCell_heap z0 0 _
      have c1_1 : ((W).setCell ⟨w.heap.size + 1, 0, none⟩ (.int .u64 o0)).cell? ⟨w.heap.size + 1, 1, none⟩ = some (.int .u64 0) := by rw [Lib.cell_of_heap z1]; rfl
      have f1 := Lib.frozen_of_heap z1 1
      refine wpOp_of rfl rfl ?_
      unfold Oper.wp
      simp [execOp, go_sem, h10, h27, c0_0, f0, c1_1, f1]
      exact hgo _ (((OnlyB.refl _ _).set 0 _).set 1 _) (setCell_heap z1 1 _)
    · refine stepG_store (by rfl) 1 _ rfl rfl rfl (by rfl) fun g ac W K hK hk hold hz hgo => ?_
      have h11 : ac.tmps[11]? = some (.pointer (some ⟨w.heap.size + 2, 0, none⟩)) := hk.keep 11 rfl
      have h28 : ac.tmps[28]? = some (.agg #[.int .u64 o0, .int .u64 o1]) := hk.has 1 _ 28 rfl rfl rfl (by simp) rfl
      have hg : g 1 = w.heap.size + 2 := hold rfl
      rw [hg] at hz hgo
      have z0 : (W).heap[w.heap.size + 2]? = some (.cells #[.int .u64 0, .int .u64 0] 40 (0, 0)) := hz
      have c0_0 : (W).cell? ⟨w.heap.size + 2, 0, none⟩ = some (.int .u64 0) := by rw [Lib.cell_of_heap z0]; rfl
      have f0 := Lib.frozen_of_heap z0 0
      have z1 : ((W).setCell ⟨w.heap.size + 2, 0, none⟩ (.int .u64 o0)).heap[w.heap.size + 2]? = some (.cells #[.int .u64 o0, .int .u64 0] 40 (0, 0)) := setCell_heap z0 0 _
      have c1_1 : ((W).setCell ⟨w.heap.size + 2, 0, none⟩ (.int .u64 o0)).cell? ⟨w.heap.size + 2, 1, none⟩ = some (.int .u64 0) := by rw [Lib.cell_of_heap z1]; rfl
      have f1 := Lib.frozen_of_heap z1 1
      refine wpOp_of rfl rfl ?_
      unfold Oper.wp
      simp [execOp, go_sem, h11, h28, c0_0, f0, c1_1, f1]
      exact hgo _ (((OnlyB.refl _ _).set 0 _).set 1 _) (setCell_heap z1 1 _)
    · refine stepG_plain rfl rfl fun g ac W hK hk => ?_
      have h31 : ac.tmps[31]? = some (.bool q) := hk.has 4 _ 31 rfl rfl rfl (by simp) rfl
      refine wpOp_of rfl rfl ?_
      unfold Oper.wp
      simp [execOp, go_sem, h31]
      first | exact ⟨rfl, Below.refl _ _⟩ | exact Below.refl _ _
  · intro g W hK hsz hB hd
    obtain ⟨hr, hg0, -⟩ := hB 0 _ rfl
    have hg0 : g 0 = w.heap.size + 1 := hg0 rfl
    have hr : W.heap[g 0]? = some (.cells #[.int .u64 o0, .int .u64 o1] 40 (0, 0)) := hr
    rw [hg0] at hr
    obtain ⟨hr2, hg1, -⟩ := hB 1 _ rfl
    have hg1 : g 1 = w.heap.size + 2 := hg1 rfl
    have hr2 : W.heap[g 1]? = some (.cells #[.int .u64 o0, .int .u64 o1] 40 (0, 0)) := hr2
    rw [hg1] at hr2
    simp [frameOf, Act.put, valG, List.findIdx?_cons]
    have HW := Lib.hid hK.1
    have c0 : W.cell? ⟨w.heap.size + 1, 0, none⟩ = some (.int .u64 o0) := by rw [Lib.cell_of_heap hr]; rfl
    have c1 : W.cell? ⟨w.heap.size + 1, 1, none⟩ = some (.int .u64 o1) := by rw [Lib.cell_of_heap hr]; rfl
    have c2 : W.cell? ⟨w.heap.size + 2, 0, none⟩ = some (.int .u64 o0) := by rw [Lib.cell_of_heap hr2]; rfl
    have c3 : W.cell? ⟨w.heap.size + 2, 1, none⟩ = some (.int .u64 o1) := by rw [Lib.cell_of_heap hr2]; rfl
    clear hK hB hd hr hr2 hg0 hg1 hsz
    go_wp2
    exact bodyPost_ret (v := .tuple #[.agg #[.int .u64 o0, .int .u64 o1], .agg #[.int .u64 o0, .int .u64 o1], .bool q]) (by simp [results, Try.results47, go_sem, c0, c1, c2, c3]) rfl ⟨rfl, HW.out⟩
set_option maxRecDepth 100000 in
set_option maxHeartbeats 8000000 in
theorem roots_part (len cap b off : Nat) (n o0 o1 p0 p1 : Int) (q : Bool) (hq : ((len : Int) + 1 == 1) = q) (hlc : len + 1 ≤ cap) (hcm : cap ≤ maxLen) (w : World) (e0 : w.cell? ⟨b, off + len * 2, none⟩ = some (.int .u64 p0)) (e1 : w.cell? ⟨b, off + len * 2 + 1, none⟩ = some (.int .u64 p1)) (hb : b < w.heap.size) :
    Calls Try.prog 47 #[.int .i64 n, .int .i64 n, .agg #[.int .u64 o0, .int .u64 o1], .slice (some ⟨b, off, none⟩) (len + 1) cap, .bool false] w fun e w' => e = .returned (.tuple #[.agg #[.int .u64 p0, .int .u64 p1], .agg #[.int .u64 p0, .int .u64 p1], .bool q]) ∧ Below w.heap.size w w' := by
  have t1 : (n == n) = true := by simp
  have HQ := Lib.hid hq
  clear hq
  unfold maxLen at hcm
  have t2 : (((len + 1 : Nat) : Int) == 0) = false := by simp; omega
  have tz : (0 : Int) ≤ (len : Int) := by omega
  have tz2 : (len : Int) < (len : Int) + 1 := by omega
  have b3 : Below w.heap.size w (((w.alloc (.cells #[.int .u64 o0, .int .u64 o1] 40)).alloc (.cells #[.int .u64 0, .int .u64 0] 40)).alloc (.cells #[.int .u64 0, .int .u64 0] 40)) := bla (bla (bla (Below.refl _ _) _) _) _
  have e2 := (b3.cell (p := ⟨b, off + len * 2, none⟩) hb).trans e0
  have e3 := (b3.cell (p := ⟨b, off + len * 2 + 1, none⟩) hb).trans e1
  go_enter Try.func47, Try.ntmps47
  go_wp2_with fail
  have hx0 : ((((w.alloc (.cells #[.int .u64 o0, .int .u64 o1] 40)).alloc (.cells #[.int .u64 0, .int .u64 0] 40)).alloc (.cells #[.int .u64 0, .int .u64 0] 40)).alloc (.cells #[.int .u64 p0, .int .u64 p1] 40)).heap[w.heap.size]? = some (.cells #[.int .u64 o0, .int .u64 o1] 40 (0, 0)) := by
    have h := World.alloc_heap_new w (.cells #[.int .u64 o0, .int .u64 o1] 40)
    try simp only [World.size_alloc] at h
    exact (Below.heap_alloc _ _ _ (by simp; try omega)).trans ((Below.heap_alloc _ _ _ (by simp; try omega)).trans ((Below.heap_alloc _ _ _ (by simp; try omega)).trans h))
  have hx1 : ((((w.alloc (.cells #[.int .u64 o0, .int .u64 o1] 40)).alloc (.cells #[.int .u64 0, .int .u64 0] 40)).alloc (.cells #[.int .u64 0, .int .u64 0] 40)).alloc (.cells #[.int .u64 p0, .int .u64 p1] 40)).heap[w.heap.size + 1]? = some (.cells #[.int .u64 0, .int .u64 0] 40 (0, 0)) := by
    have h := World.alloc_heap_new (w.alloc (.cells #[.int .u64 o0, .int .u64 o1] 40)) (.cells #[.int .u64 0, .int .u64 0] 40)
    try simp only [World.size_alloc] at h
    exact (Below.heap_alloc _ _ _ (by simp; try omega)).trans ((Below.heap_alloc _ _ _ (by simp; try omega)).trans h)
  have hx2 : ((((w.alloc (.cells #[.int .u64 o0, .int .u64 o1] 40)).alloc (.cells #[.int .u64 0, .int .u64 0] 40)).alloc (.cells #[.int .u64 0, .int .u64 0] 40)).alloc (.cells #[.int .u64 p0, .int .u64 p1] 40)).heap[w.heap.size + 2]? = some (.cells #[.int .u64 0, .int .u64 0] 40 (0, 0)) := by
    have h := World.alloc_heap_new ((w.alloc (.cells #[.int .u64 o0, .int .u64 o1] 40)).alloc (.cells #[.int .u64 0, .int .u64 0] 40)) (.cells #[.int .u64 0, .int .u64 0] 40)
    try simp only [World.size_alloc] at h
    exact (Below.heap_alloc _ _ _ (by simp; try omega)).trans h
  have hx3 : ((((w.alloc (.cells #[.int .u64 o0, .int .u64 o1] 40)).alloc (.cells #[.int .u64 0, .int .u64 0] 40)).alloc (.cells #[.int .u64 0, .int .u64 0] 40)).alloc (.cells #[.int .u64 p0, .int .u64 p1] 40)).heap[w.heap.size + 3]? = some (.cells #[.int .u64 p0, .int .u64 p1] 40 (0, 0)) := by
    have h := World.alloc_heap_new (((w.alloc (.cells #[.int .u64 o0, .int .u64 o1] 40)).alloc (.cells #[.int .u64 0, .int .u64 0] 40)).alloc (.cells #[.int .u64 0, .int .u64 0] 40)) (.cells #[.int .u64 p0, .int .u64 p1] 40)
    try simp only [World.size_alloc] at h
    exact h
  have below : Below (w.heap.size) w ((((w.alloc (.cells #[.int .u64 o0, .int .u64 o1] 40)).alloc (.cells #[.int .u64 0, .int .u64 0] 40)).alloc (.cells #[.int .u64 0, .int .u64 0] 40)).alloc (.cells #[.int .u64 p0, .int .u64 p1] 40)) := bla (bla (bla (bla (Below.refl _ _) _) _) _) _
  have HBW : Hid (w.heap.size ≤ ((((w.alloc (.cells #[.int .u64 o0, .int .u64 o1] 40)).alloc (.cells #[.int .u64 0, .int .u64 0] 40)).alloc (.cells #[.int .u64 0, .int .u64 0] 40)).alloc (.cells #[.int .u64 p0, .int .u64 p1] 40)).heap.size) := Lib.hid below.size
  have HKEEP : Hid (Keep (w.heap.size) w [((w.heap.size + 3, .cells #[.int .u64 p0, .int .u64 p1] 40) : Nat × Obj)] ((((w.alloc (.cells #[.int .u64 o0, .int .u64 o1] 40)).alloc (.cells #[.int .u64 0, .int .u64 0] 40)).alloc (.cells #[.int .u64 0, .int .u64 0] 40)).alloc (.cells #[.int .u64 p0, .int .u64 p1] 40))) := Lib.hid ⟨below, by
    intro p hp
    simp only [List.mem_cons, List.not_mem_nil, or_false] at hp
    subst hp
    exact hx3⟩
  have HOLD0 : Hid (∀ b ∈ [(⟨none, some 5, w.heap.size + 1, #[.int .u64 0, .int .u64 0], #[.int .u64 p0, .int .u64 p1], 40⟩ : RBox), (⟨none, some 6, w.heap.size + 2, #[.int .u64 0, .int .u64 0], #[.int .u64 p0, .int .u64 p1], 40⟩ : RBox)], b.al = none → ((((w.alloc (.cells #[.int .u64 o0, .int .u64 o1] 40)).alloc (.cells #[.int .u64 0, .int .u64 0] 40)).alloc (.cells #[.int .u64 0, .int .u64 0] 40)).alloc (.cells #[.int .u64 p0, .int .u64 p1] 40)).heap[b.blk]? = some (.cells b.z b.T (0, 0)) ∧ w.heap.size ≤ b.blk ∧ ∀ p ∈ [((w.heap.size + 3, .cells #[.int .u64 p0, .int .u64 p1] 40) : Nat × Obj)], p.1 ≠ b.blk) := Lib.hid (by
    intro b hb
    simp only [List.mem_cons, List.not_mem_nil, or_false] at hb
    rcases hb with rfl | rfl
    · intro _
      refine ⟨hx1, (by show w.heap.size ≤ w.heap.size + 1; omega), fun p hp => ?_⟩
      simp only [List.mem_cons, List.not_mem_nil, or_false] at hp
      subst hp
      show w.heap.size + 3 ≠ w.heap.size + 1
      omega
    · intro _
      refine ⟨hx2, (by show w.heap.size ≤ w.heap.size + 2; omega), fun p hp => ?_⟩
      simp only [List.mem_cons, List.not_mem_nil, or_false] at hp
      subst hp
      show w.heap.size + 3 ≠ w.heap.size + 2
      omega)
  clear below
  refine wp_region_box (w.heap.size) w [(w.heap.size + 3, .cells #[.int .u64 p0, .int .u64 p1] 40)] [⟨none, some 5, w.heap.size + 1, #[.int .u64 0, .int .u64 0], #[.int .u64 p0, .int .u64 p1], 40⟩, ⟨none, some 6, w.heap.size + 2, #[.int .u64 0, .int .u64 0], #[.int .u64 p0, .int .u64 p1], 40⟩] (fun i => ([(.agg #[.int .u64 p0, .int .u64 p1]), (.agg #[.int .u64 p0, .int .u64 p1]), (.slice (some ⟨b, off, none⟩) (len + 1) cap), (.int .i64 ((len : Int) + 1)), (.bool q), (undef), (undef), (.bool q)] : List Value).getD i undef) (by kernel_rfl) (by kernel_rfl) (by kernel_rfl) (by rfl) (by simp) (by rfl) HBW.out HKEEP.out HOLD0.out ?_ ?_
  · refine ⟨?_, ?_, ?_, ?_, ?_, ?_, ?_, ?_, trivial⟩
    · refine stepG_plain rfl rfl fun g ac W hK hk => ?_
      have h13 : ac.tmps[13]? = some (.pointer (some ⟨w.heap.size + 3, 0, none⟩)) := hk.keep 13 rfl
      have mxq := hK.get 0 rfl
      have q0 : W.cell? ⟨w.heap.size + 3, 0, none⟩ = some (.int .u64 p0) := by rw [Lib.cell_of_heap mxq]; rfl
      have q1 : W.cell? ⟨w.heap.size + 3, 1, none⟩ = some (.int .u64 p1) := by rw [Lib.cell_of_heap mxq]; rfl
      refine wpOp_of rfl rfl ?_
      unfold Oper.wp
      simp [execOp, go_sem, h13, q0, q1]
      first | exact ⟨rfl, Below.refl _ _⟩ | exact Below.refl _ _
    · refine stepG_plain rfl rfl fun g ac W hK hk => ?_
      have h13 : ac.tmps[13]? = some (.pointer (some ⟨w.heap.size + 3, 0, none⟩)) := hk.keep 13 rfl
      have mxq := hK.get 0 rfl
      have q0 : W.cell? ⟨w.heap.size + 3, 0, none⟩ = some (.int .u64 p0) := by rw [Lib.cell_of_heap mxq]; rfl
      have q1 : W.cell? ⟨w.heap.size + 3, 1, none⟩ = some (.int .u64 p1) := by rw [Lib.cell_of_heap mxq]; rfl
      refine wpOp_of rfl rfl ?_
      unfold Oper.wp
      simp [execOp, go_sem, h13, q0, q1]
      first | exact ⟨rfl, Below.refl _ _⟩ | exact Below.refl _ _
    · refine stepG_plain rfl rfl fun g ac W hK hk => ?_
      have h3 : ac.tmps[3]? = some (.slice (some ⟨b, off, none⟩) (len + 1) cap) := hk.keep 3 rfl
      refine wpOp_of rfl rfl ?_
      unfold Oper.wp
      simp [execOp, go_sem, h3]
      first | exact ⟨rfl, Below.refl _ _⟩ | exact Below.refl _ _
    · refine stepG_plain rfl rfl fun g ac W hK hk => ?_
      have h48 : ac.tmps[48]? = some (.slice (some ⟨b, off, none⟩) (len + 1) cap) := hk.has 2 _ 48 rfl rfl rfl (by simp) rfl
      refine wpOp_of rfl rfl ?_
      unfold Oper.wp
      simp [execOp, go_sem, h48]
      first | exact ⟨rfl, Below.refl _ _⟩ | exact Below.refl _ _
    · refine stepG_plain rfl rfl fun g ac W hK hk => ?_
      have h49 : ac.tmps[49]? = some (.int .i64 ((len : Int) + 1)) := hk.has 3 _ 49 rfl rfl rfl (by simp) rfl
      have hq0 := HQ.out
      refine wpOp_of rfl rfl ?_
      unfold Oper.wp
      simp [execOp, go_sem, h49, hq0]
      first | exact ⟨rfl, Below.refl _ _⟩ | exact Below.refl _ _
    · refine stepG_store (by rfl) 0 _ rfl rfl rfl (by rfl) fun g ac W K hK hk hold hz hgo => ?_
      have h10 : ac.tmps[10]? = some (.pointer (some ⟨w.heap.size + 1, 0, none⟩)) := hk.keep 10 rfl
      have h46 : ac.tmps[46]? = some (.agg #[.int .u64 p0, .int .u64 p1]) := hk.has 0 _ 46 rfl rfl rfl (by simp) rfl
      have hg : g 0 = w.heap.size + 1 := hold rfl
      rw [hg] at hz hgo
      have z0 : (W).heap[w.heap.size + 1]? = some (.cells #[.int .u64 0, .int .u64 0] 40 (0, 0)) := hz
      have c0_0 : (W).cell? ⟨w.heap.size + 1, 0, none⟩ = some (.int .u64 0) := by rw [Lib.cell_of_heap z0]; rfl
      have f0 := Lib.frozen_of_heap z0 0
      have z1 : ((W).setCell ⟨w.heap.size + 1, 0, none⟩ (.int .u64 p0)).heap[w.heap.size + 1]? = some (.cells #[.int .u64 p0, .int .u64 0] 40 (0, 0)) := setCell_heap z0 0 _
      have c1_1 : ((W).setCell ⟨w.heap.size + 1, 0, none⟩ (.int .u64 p0)).cell? ⟨w.heap.size + 1, 1, none⟩ = some (.int .u64 0) := by rw [Lib.cell_of_heap z1]; rfl
      have f1 := Lib.frozen_of_heap z1 1
      refine wpOp_of rfl rfl ?_
      unfold Oper.wp
      simp [execOp, go_sem, h10, h46, c0_0, f0, c1_1, f1]
      exact hgo _ (((OnlyB.refl _ _).set 0 _).set 1 _) (setCell_heap z1 1 _)
    · refine stepG_store (by rfl) 1 _ rfl rfl rfl (by rfl) fun g ac W K hK hk hold hz hgo => ?_
      have h11 : ac.tmps[11]? = some (.pointer (some ⟨w.heap.size + 2, 0, none⟩)) := hk.keep 11 rfl
      have h47 : ac.tmps[47]? = some (.agg #[.int .u64 p0, .int .u64 p1]) := hk.has 1 _ 47 rfl rfl rfl (by simp) rfl
      have hg : g 1 = w.heap.size + 2 := hold rfl
      rw [hg] at hz hgo
      have z0 : (W).heap[w.heap.size + 2]? = some (.cells #[.int .u64 0, .int .u64 0] 40 (0, 0)) := hz
      have c0_0 : (W).cell? ⟨w.heap.size + 2, 0, none⟩ = some (.int .u64 0) := by rw [Lib.cell_of_heap z0]; rfl
      have f0 := Lib.frozen_of_heap z0 0
      have z1 : ((W).setCell ⟨w.heap.size + 2, 0, none⟩ (.int .u64 p0)).heap[w.heap.size + 2]? = some (.cells #[.int .u64 p0, .int .u64 0] 40 (0, 0)) := setCell_heap z0 0 _
      have c1_1 : ((W).setCell ⟨w.heap.size + 2, 0, none⟩ (.int .u64 p0)).cell? ⟨w.heap.size + 2, 1, none⟩ = some (.int .u64 0) := by rw [Lib.cell_of_heap z1]; rfl
      have f1 := Lib.frozen_of_heap z1 1
      refine wpOp_of rfl rfl ?_
      unfold Oper.wp
      simp [execOp, go_sem, h11, h47, c0_0, f0, c1_1, f1]
      exact hgo _ (((OnlyB.refl _ _).set 0 _).set 1 _) (setCell_heap z1 1 _)
    · refine stepG_plain rfl rfl fun g ac W hK hk => ?_
      have h50 : ac.tmps[50]? = some (.bool q) := hk.has 4 _ 50 rfl rfl rfl (by simp) rfl
      refine wpOp_of rfl rfl ?_
      unfold Oper.wp
      simp [execOp, go_sem, h50]
      first | exact ⟨rfl, Below.refl _ _⟩ | exact Below.refl _ _
  · intro g W hK hsz hB hd
    obtain ⟨hr, hg0, -⟩ := hB 0 _ rfl
    have hg0 : g 0 = w.heap.size + 1 := hg0 rfl
    have hr : W.heap[g 0]? = some (.cells #[.int .u64 p0, .int .u64 p1] 40 (0, 0)) := hr
    rw [hg0] at hr
    obtain ⟨hr2, hg1, -⟩ := hB 1 _ rfl
    have hg1 : g 1 = w.heap.size + 2 := hg1 rfl
    have hr2 : W.heap[g 1]? = some (.cells #[.int .u64 p0, .int .u64 p1] 40 (0, 0)) := hr2
    rw [hg1] at hr2
    simp [frameOf, Act.put, valG, List.findIdx?_cons]
    have HW := Lib.hid hK.1
    have c0 : W.cell? ⟨w.heap.size + 1, 0, none⟩ = some (.int .u64 p0) := by rw [Lib.cell_of_heap hr]; rfl
    have c1 : W.cell? ⟨w.heap.size + 1, 1, none⟩ = some (.int .u64 p1) := by rw [Lib.cell_of_heap hr]; rfl
    have c2 : W.cell? ⟨w.heap.size + 2, 0, none⟩ = some (.int .u64 p0) := by rw [Lib.cell_of_heap hr2]; rfl
    have c3 : W.cell? ⟨w.heap.size + 2, 1, none⟩ = some (.int .u64 p1) := by rw [Lib.cell_of_heap hr2]; rfl
    clear hK hB hd hr hr2 hg0 hg1 hsz
    go_wp2
    exact bodyPost_ret (v := .tuple #[.agg #[.int .u64 p0, .int .u64 p1], .agg #[.int .u64 p0, .int .u64 p1], .bool q]) (by simp [results, Try.results47, go_sem, c0, c1, c2, c3]) rfl ⟨rfl, HW.out⟩
set_option maxRecDepth 100000 in
set_option maxHeartbeats 8000000 in
theorem roots_less (m k b off cap len : Nat) (n : Int) (o0 o1 p0 p1 x0 x1 y0 y1 s0 s1 : Int) (wh ok : Bool) (hk : leftN m = k) (hm : 2 ≤ m) (hm2 : m ≤ 10000) (hnm : n < (m : Int)) (hnk : n ≤ (k : Int)) (hlc : len + 1 ≤ cap) (hcm : cap ≤ maxLen) (w : World)
    (e0 : w.cell? ⟨b, off + len * 2, none⟩ = some (.int .u64 p0)) (e1 : w.cell? ⟨b, off + len * 2 + 1, none⟩ = some (.int .u64 p1)) (hb : b < w.heap.size)
    (h1 : ∀ W, Below w.heap.size w W → Calls Try.prog 47 #[.int .i64 n, .int .i64 k, .agg #[.int .u64 o0, .int .u64 o1], .slice (some ⟨b, off, none⟩) len cap, .bool wh] W fun e w' => e = .returned (.tuple #[.agg #[.int .u64 x0, .int .u64 x1], .agg #[.int .u64 y0, .int .u64 y1], .bool ok]) ∧ Below W.heap.size W w')
    (h2 : ∀ W, Calls Try.prog 61 #[.agg #[.int .u64 y0, .int .u64 y1], .agg #[.int .u64 p0, .int .u64 p1]] W fun e w' => e = .returned (.agg #[.int .u64 s0, .int .u64 s1]) ∧ Below W.heap.size W w') :
    Calls Try.prog 47 #[.int .i64 n, .int .i64 m, .agg #[.int .u64 o0, .int .u64 o1], .slice (some ⟨b, off, none⟩) (len + 1) cap, .bool wh] w fun e w' => e = .returned (.tuple #[.agg #[.int .u64 x0, .int .u64 x1], .agg #[.int .u64 s0, .int .u64 s1], .bool ok]) ∧ Below w.heap.size w w' := by
  have H1 := Lib.hid h1
  have H2 := Lib.hid h2
  have HK := Lib.hid hk
  clear h1 h2 hk
  unfold maxLen at hcm
  have t1 : (n == (m : Int)) = false := by simp; omega
  have t2 : (((len + 1 : Nat) : Int) == 0) = false := by simp; omega
  have tz : (0 : Int) ≤ (len : Int) := by omega
  have tz2 : (len : Int) < (len : Int) + 1 := by omega
  have b3 : Below w.heap.size w (((w.alloc (.cells #[.int .u64 o0, .int .u64 o1] 40)).alloc (.cells #[.int .u64 0, .int .u64 0] 40)).alloc (.cells #[.int .u64 0, .int .u64 0] 40)) := bla (bla (bla (Below.refl _ _) _) _) _
  have e2 := (b3.cell (p := ⟨b, off + len * 2, none⟩) hb).trans e0
  have e3 := (b3.cell (p := ⟨b, off + len * 2 + 1, none⟩) hb).trans e1
  go_enter Try.func47, Try.ntmps47
  go_wp2_with fail
  ((with_reducible refine (ledLeft_any m hm (by omega) _).mono ?_); rintro e w' ⟨rfl, rfl⟩)
  rw [HK.out]
  go_wp2_with fail
  have hw1 : IntKind.i64.wrap ((len : Int)) = (len : Int) := IntWalk.i64_in _ (by omega)
  have hx0 : ((((w.alloc (.cells #[.int .u64 o0, .int .u64 o1] 40)).alloc (.cells #[.int .u64 0, .int .u64 0] 40)).alloc (.cells #[.int .u64 0, .int .u64 0] 40)).alloc (.cells #[.int .u64 p0, .int .u64 p1] 40)).heap[w.heap.size]? = some (.cells #[.int .u64 o0, .int .u64 o1] 40 (0, 0)) := by
    have h := World.alloc_heap_new w (.cells #[.int .u64 o0, .int .u64 o1] 40)
    try simp only [World.size_alloc] at h
    exact (Below.heap_alloc _ _ _ (by simp; try omega)).trans ((Below.heap_alloc _ _ _ (by simp; try omega)).trans ((Below.heap_alloc _ _ _ (by simp; try omega)).trans h))
  have hx1 : ((((w.alloc (.cells #[.int .u64 o0, .int .u64 o1] 40)).alloc (.cells #[.int .u64 0, .int .u64 0] 40)).alloc (.cells #[.int .u64 0, .int .u64 0] 40)).alloc (.cells #[.int .u64 p0, .int .u64 p1] 40)).heap[w.heap.size + 1]? = some (.cells #[.int .u64 0, .int .u64 0] 40 (0, 0)) := by
    have h := World.alloc_heap_new (w.alloc (.cells #[.int .u64 o0, .int .u64 o1] 40)) (.cells #[.int .u64 0, .int .u64 0] 40)
    try simp only [World.size_alloc] at h
    exact (Below.heap_alloc _ _ _ (by simp; try omega)).trans ((Below.heap_alloc _ _ _ (by simp; try omega)).trans h)
  have hx2 : ((((w.alloc (.cells #[.int .u64 o0, .int .u64 o1] 40)).alloc (.cells #[.int .u64 0, .int .u64 0] 40)).alloc (.cells #[.int .u64 0, .int .u64 0] 40)).alloc (.cells #[.int .u64 p0, .int .u64 p1] 40)).heap[w.heap.size + 2]? = some (.cells #[.int .u64 0, .int .u64 0] 40 (0, 0)) := by
    have h := World.alloc_heap_new ((w.alloc (.cells #[.int .u64 o0, .int .u64 o1] 40)).alloc (.cells #[.int .u64 0, .int .u64 0] 40)) (.cells #[.int .u64 0, .int .u64 0] 40)
    try simp only [World.size_alloc] at h
    exact (Below.heap_alloc _ _ _ (by simp; try omega)).trans h
  have hx3 : ((((w.alloc (.cells #[.int .u64 o0, .int .u64 o1] 40)).alloc (.cells #[.int .u64 0, .int .u64 0] 40)).alloc (.cells #[.int .u64 0, .int .u64 0] 40)).alloc (.cells #[.int .u64 p0, .int .u64 p1] 40)).heap[w.heap.size + 3]? = some (.cells #[.int .u64 p0, .int .u64 p1] 40 (0, 0)) := by
    have h := World.alloc_heap_new (((w.alloc (.cells #[.int .u64 o0, .int .u64 o1] 40)).alloc (.cells #[.int .u64 0, .int .u64 0] 40)).alloc (.cells #[.int .u64 0, .int .u64 0] 40)) (.cells #[.int .u64 p0, .int .u64 p1] 40)
    try simp only [World.size_alloc] at h
    exact h
  have below : Below (w.heap.size) w ((((w.alloc (.cells #[.int .u64 o0, .int .u64 o1] 40)).alloc (.cells #[.int .u64 0, .int .u64 0] 40)).alloc (.cells #[.int .u64 0, .int .u64 0] 40)).alloc (.cells #[.int .u64 p0, .int .u64 p1] 40)) := bla (bla (bla (bla (Below.refl _ _) _) _) _) _
  have HBW : Hid (w.heap.size ≤ ((((w.alloc (.cells #[.int .u64 o0, .int .u64 o1] 40)).alloc (.cells #[.int .u64 0, .int .u64 0] 40)).alloc (.cells #[.int .u64 0, .int .u64 0] 40)).alloc (.cells #[.int .u64 p0, .int .u64 p1] 40)).heap.size) := Lib.hid below.size
  have HKEEP : Hid (Keep (w.heap.size) w [((w.heap.size, .cells #[.int .u64 o0, .int .u64 o1] 40) : Nat × Obj), ((w.heap.size + 1, .cells #[.int .u64 0, .int .u64 0] 40) : Nat × Obj), ((w.heap.size + 2, .cells #[.int .u64 0, .int .u64 0] 40) : Nat × Obj), ((w.heap.size + 3, .cells #[.int .u64 p0, .int .u64 p1] 40) : Nat × Obj)] ((((w.alloc (.cells #[.int .u64 o0, .int .u64 o1] 40)).alloc (.cells #[.int .u64 0, .int .u64 0] 40)).alloc (.cells #[.int .u64 0, .int .u64 0] 40)).alloc (.cells #[.int .u64 p0, .int .u64 p1] 40))) := Lib.hid ⟨below, by
    intro p hp
    simp only [List.mem_cons, List.not_mem_nil, or_false] at hp
    rcases hp with rfl | rfl | rfl | rfl
    · exact hx0
    · exact hx1
    · exact hx2
    · exact hx3⟩
  have HOLD0 : Hid (∀ b ∈ [(⟨some 14, some 16, 0, #[.int .u64 0, .int .u64 0], #[.int .u64 x0, .int .u64 x1], 40⟩ : RBox), (⟨some 15, some 17, 0, #[.int .u64 0, .int .u64 0], #[.int .u64 y0, .int .u64 y1], 40⟩ : RBox)], b.al = none → ((((w.alloc (.cells #[.int .u64 o0, .int .u64 o1] 40)).alloc (.cells #[.int .u64 0, .int .u64 0] 40)).alloc (.cells #[.int .u64 0, .int .u64 0] 40)).alloc (.cells #[.int .u64 p0, .int .u64 p1] 40)).heap[b.blk]? = some (.cells b.z b.T (0, 0)) ∧ w.heap.size ≤ b.blk ∧ ∀ p ∈ [((w.heap.size, .cells #[.int .u64 o0, .int .u64 o1] 40) : Nat × Obj), ((w.heap.size + 1, .cells #[.int .u64 0, .int .u64 0] 40) : Nat × Obj), ((w.heap.size + 2, .cells #[.int .u64 0, .int .u64 0] 40) : Nat × Obj), ((w.heap.size + 3, .cells #[.int .u64 p0, .int .u64 p1] 40) : Nat × Obj)], p.1 ≠ b.blk) := Lib.hid (by
    intro b hb
    simp only [List.mem_cons, List.not_mem_nil, or_false] at hb
    rcases hb with rfl | rfl
    · intro h; cases h
    · intro h; cases h)
  clear below
  refine wp_region_box (w.heap.size) w [(w.heap.size, .cells #[.int .u64 o0, .int .u64 o1] 40), (w.heap.size + 1, .cells #[.int .u64 0, .int .u64 0] 40), (w.heap.size + 2, .cells #[.int .u64 0, .int .u64 0] 40), (w.heap.size + 3, .cells #[.int .u64 p0, .int .u64 p1] 40)] [⟨some 14, some 16, 0, #[.int .u64 0, .int .u64 0], #[.int .u64 x0, .int .u64 x1], 40⟩, ⟨some 15, some 17, 0, #[.int .u64 0, .int .u64 0], #[.int .u64 y0, .int .u64 y1], 40⟩] (fun i => ([(.int .i64 n), (.int .i64 k), (.agg #[.int .u64 o0, .int .u64 o1]), (.slice (some ⟨b, off, none⟩) (len + 1) cap), (.slice (some ⟨b, off, none⟩) (len + 1) cap), (.int .i64 ((len : Int) + 1)), (.int .i64 (len : Int)), (.slice (some ⟨b, off, none⟩) len cap), (.bool wh), (.tuple #[.agg #[.int .u64 x0, .int .u64 x1], .agg #[.int .u64 y0, .int .u64 y1], .bool ok]), (.tuple #[.agg #[.int .u64 x0, .int .u64 x1], .agg #[.int .u64 y0, .int .u64 y1], .bool ok]), (.agg #[.int .u64 x0, .int .u64 x1]), (.agg #[.int .u64 y0, .int .u64 y1]), (.bool ok), (undef), (undef), (undef), (undef), (.bool ok)] : List Value).getD i undef) (by kernel_rfl) (by kernel_rfl) (by kernel_rfl) (by rfl) (by simp) (by rfl) HBW.out HKEEP.out HOLD0.out ?_ ?_
  · refine ⟨?_, ?_, ?_, ?_, ?_, ?_, ?_, ?_, ?_, ?_, ?_, ?_, ?_, ?_, ?_, ?_, ?_, ?_, ?_, trivial⟩
    · refine stepG_plain rfl rfl fun g ac W hK hk => ?_
      have h0 : ac.tmps[0]? = some (.int .i64 n) := hk.keep 0 rfl
      refine wpOp_of rfl rfl ?_
      unfold Oper.wp
      simp [execOp, go_sem, h0]
      first | exact ⟨rfl, Below.refl _ _⟩ | exact Below.refl _ _
    · refine stepG_plain rfl rfl fun g ac W hK hk => ?_
      have h14 : ac.tmps[14]? = some (.int .i64 k) := hk.keep 14 rfl
      refine wpOp_of rfl rfl ?_
      unfold Oper.wp
      simp [execOp, go_sem, h14]
      first | exact ⟨rfl, Below.refl _ _⟩ | exact Below.refl _ _
    · refine stepG_plain rfl rfl fun g ac W hK hk => ?_
      have h7 : ac.tmps[7]? = some (.pointer (some ⟨w.heap.size, 0, none⟩)) := hk.keep 7 rfl
      have mxq := hK.get 0 rfl
      have q0 : W.cell? ⟨w.heap.size, 0, none⟩ = some (.int .u64 o0) := by rw [Lib.cell_of_heap mxq]; rfl
      have q1 : W.cell? ⟨w.heap.size, 1, none⟩ = some (.int .u64 o1) := by rw [Lib.cell_of_heap mxq]; rfl
      refine wpOp_of rfl rfl ?_
      unfold Oper.wp
      simp [execOp, go_sem, h7, q0, q1]
      first | exact ⟨rfl, Below.refl _ _⟩ | exact Below.refl _ _
    · refine stepG_plain rfl rfl fun g ac W hK hk => ?_
      have h3 : ac.tmps[3]? = some (.slice (some ⟨b, off, none⟩) (len + 1) cap) := hk.keep 3 rfl
      refine wpOp_of rfl rfl ?_
      unfold Oper.wp
      simp [execOp, go_sem, h3]
      first | exact ⟨rfl, Below.refl _ _⟩ | exact Below.refl _ _
    · refine stepG_plain rfl rfl fun g ac W hK hk => ?_
      have h3 : ac.tmps[3]? = some (.slice (some ⟨b, off, none⟩) (len + 1) cap) := hk.keep 3 rfl
      refine wpOp_of rfl rfl ?_
      unfold Oper.wp
      simp [execOp, go_sem, h3]
      first | exact ⟨rfl, Below.refl _ _⟩ | exact Below.refl _ _
    · refine stepG_plain rfl rfl fun g ac W hK hk => ?_
      have h61 : ac.tmps[61]? = some (.slice (some ⟨b, off, none⟩) (len + 1) cap) := hk.has 4 _ 61 rfl rfl rfl (by simp) rfl
      refine wpOp_of rfl rfl ?_
      unfold Oper.wp
      simp [execOp, go_sem, h61]
      first | exact ⟨rfl, Below.refl _ _⟩ | exact Below.refl _ _
    · refine stepG_plain rfl rfl fun g ac W hK hk => ?_
      have h62 : ac.tmps[62]? = some (.int .i64 ((len : Int) + 1)) := hk.has 5 _ 62 rfl rfl rfl (by simp) rfl
      refine wpOp_of rfl rfl ?_
      unfold Oper.wp
      simp [execOp, go_sem, h62, hw1]
      first | exact ⟨rfl, Below.refl _ _⟩ | exact Below.refl _ _
    · refine stepG_plain rfl rfl fun g ac W hK hk => ?_
      have h60 : ac.tmps[60]? = some (.slice (some ⟨b, off, none⟩) (len + 1) cap) := hk.has 3 _ 60 rfl rfl rfl (by simp) rfl
      have h63 : ac.tmps[63]? = some (.int .i64 (len : Int)) := hk.has 6 _ 63 rfl rfl rfl (by simp) rfl
      have z1 : (0 : Int) ≤ (len : Int) := by omega
      have z2 : (len : Int) ≤ (cap : Int) := by omega
      refine wpOp_of rfl rfl ?_
      unfold Oper.wp
      simp [execOp, go_sem, h60, h63, z1, z2]
      first | exact ⟨rfl, Below.refl _ _⟩ | exact Below.refl _ _
    · refine stepG_plain rfl rfl fun g ac W hK hk => ?_
      have h4 : ac.tmps[4]? = some (.bool wh) := hk.keep 4 rfl
      refine wpOp_of rfl rfl ?_
      unfold Oper.wp
      simp [execOp, go_sem, h4]
      first | exact ⟨rfl, Below.refl _ _⟩ | exact Below.refl _ _
    · refine stepG_plain rfl rfl fun g ac W hK hk => ?_
      have h57 : ac.tmps[57]? = some (.int .i64 n) := hk.has 0 _ 57 rfl rfl rfl (by simp) rfl
      have h58 : ac.tmps[58]? = some (.int .i64 k) := hk.has 1 _ 58 rfl rfl rfl (by simp) rfl
      have h59 : ac.tmps[59]? = some (.agg #[.int .u64 o0, .int .u64 o1]) := hk.has 2 _ 59 rfl rfl rfl (by simp) rfl
      have h64 : ac.tmps[64]? = some (.slice (some ⟨b, off, none⟩) len cap) := hk.has 7 _ 64 rfl rfl rfl (by simp) rfl
      have h65 : ac.tmps[65]? = some (.bool wh) := hk.has 8 _ 65 rfl rfl rfl (by simp) rfl
      refine wpOp_of rfl rfl ?_
      unfold Oper.wp
      simp [execOp, go_sem, h57, h58, h59, h64, h65]
      refine (H1.out _ hK.1).mono ?_
      rintro e w' ⟨rfl, hb⟩
      exact ⟨rfl, hb⟩
    · refine stepG_plain rfl rfl fun g ac W hK hk => ?_
      have h66 : ac.tmps[66]? = some (.tuple #[.agg #[.int .u64 x0, .int .u64 x1], .agg #[.int .u64 y0, .int .u64 y1], .bool ok]) := hk.has 9 _ 66 rfl rfl rfl (by simp) rfl
      refine wpOp_of rfl rfl ?_
      unfold Oper.wp
      simp [execOp, go_sem, h66]
      first | exact ⟨rfl, Below.refl _ _⟩ | exact Below.refl _ _
    · refine stepG_plain rfl rfl fun g ac W hK hk => ?_
      have h56 : ac.tmps[56]? = some (.tuple #[.agg #[.int .u64 x0, .int .u64 x1], .agg #[.int .u64 y0, .int .u64 y1], .bool ok]) := hk.has 10 _ 56 rfl rfl rfl (by simp) rfl
      refine wpOp_of rfl rfl ?_
      unfold Oper.wp
      simp [execOp, go_sem, h56]
      first | exact ⟨rfl, Below.refl _ _⟩ | exact Below.refl _ _
    · refine stepG_plain rfl rfl fun g ac W hK hk => ?_
      have h56 : ac.tmps[56]? = some (.tuple #[.agg #[.int .u64 x0, .int .u64 x1], .agg #[.int .u64 y0, .int .u64 y1], .bool ok]) := hk.has 10 _ 56 rfl rfl rfl (by simp) rfl
      refine wpOp_of rfl rfl ?_
      unfold Oper.wp
      simp [execOp, go_sem, h56]
      first | exact ⟨rfl, Below.refl _ _⟩ | exact Below.refl _ _
    · refine stepG_plain rfl rfl fun g ac W hK hk => ?_
      have h56 : ac.tmps[56]? = some (.tuple #[.agg #[.int .u64 x0, .int .u64 x1], .agg #[.int .u64 y0, .int .u64 y1], .bool ok]) := hk.has 10 _ 56 rfl rfl rfl (by simp) rfl
      refine wpOp_of rfl rfl ?_
      unfold Oper.wp
      simp [execOp, go_sem, h56]
      first | exact ⟨rfl, Below.refl _ _⟩ | exact Below.refl _ _
    · exact stepG_alloc (by rfl) 0 _ rfl rfl fun a W K h => wpOp_of rfl rfl (by unfold Oper.wp; simp [execOp, go_sem]; exact h)
    · exact stepG_alloc (by rfl) 1 _ rfl rfl fun a W K h => wpOp_of rfl rfl (by unfold Oper.wp; simp [execOp, go_sem]; exact h)
    · refine stepG_store (by rfl) 0 _ rfl rfl rfl (by rfl) fun g ac W K hK hk hold hz hgo => ?_
      have h15 := hk.ptr 0 _ 14 _ 15 rfl rfl rfl rfl rfl (by simp)
      have h67 : ac.tmps[67]? = some (.agg #[.int .u64 x0, .int .u64 x1]) := hk.has 11 _ 67 rfl rfl rfl (by simp) rfl
      have z0 : (W).heap[g 0]? = some (.cells #[.int .u64 0, .int .u64 0] 40 (0, 0)) := hz
      have c0_0 : (W).cell? ⟨g 0, 0, none⟩ = some (.int .u64 0) := by rw [Lib.cell_of_heap z0]; rfl
      have f0 := Lib.frozen_of_heap z0 0
      have z1 : ((W).setCell ⟨g 0, 0, none⟩ (.int .u64 x0)).heap[g 0]? = some (.cells #[.int .u64 x0, .int .u64 0] 40 (0, 0)) := setCell_heap z0 0 _
      have c1_1 : ((W).setCell ⟨g 0, 0, none⟩ (.int .u64 x0)).cell? ⟨g 0, 1, none⟩ = some (.int .u64 0) := by rw [Lib.cell_of_heap z1]; rfl
      have f1 := Lib.frozen_of_heap z1 1
      refine wpOp_of rfl rfl ?_
      unfold Oper.wp
      simp [execOp, go_sem, h15, h67, c0_0, f0, c1_1, f1]
      exact hgo _ (((OnlyB.refl _ _).set 0 _).set 1 _) (setCell_heap z1 1 _)
    · refine stepG_store (by rfl) 1 _ rfl rfl rfl (by rfl) fun g ac W K hK hk hold hz hgo => ?_
      have h16 := hk.ptr 1 _ 15 _ 16 rfl rfl rfl rfl rfl (by simp)
      have h68 : ac.tmps[68]? = some (.agg #[.int .u64 y0, .int .u64 y1]) := hk.has 12 _ 68 rfl rfl rfl (by simp) rfl
      have z0 : (W).heap[g 1]? = some (.cells #[.int .u64 0, .int .u64 0] 40 (0, 0)) := hz
      have c0_0 : (W).cell? ⟨g 1, 0, none⟩ = some (.int .u64 0) := by rw [Lib.cell_of_heap z0]; rfl
      have f0 := Lib.frozen_of_heap z0 0
      have z1 : ((W).setCell ⟨g 1, 0, none⟩ (.int .u64 y0)).heap[g 1]? = some (.cells #[.int .u64 y0, .int .u64 0] 40 (0, 0)) := setCell_heap z0 0 _
      have c1_1 : ((W).setCell ⟨g 1, 0, none⟩ (.int .u64 y0)).cell? ⟨g 1, 1, none⟩ = some (.int .u64 0) := by rw [Lib.cell_of_heap z1]; rfl
      have f1 := Lib.frozen_of_heap z1 1
      refine wpOp_of rfl rfl ?_
      unfold Oper.wp
      simp [execOp, go_sem, h16, h68, c0_0, f0, c1_1, f1]
      exact hgo _ (((OnlyB.refl _ _).set 0 _).set 1 _) (setCell_heap z1 1 _)
    · refine stepG_plain rfl rfl fun g ac W hK hk => ?_
      have h69 : ac.tmps[69]? = some (.bool ok) := hk.has 13 _ 69 rfl rfl rfl (by simp) rfl
      refine wpOp_of rfl rfl ?_
      unfold Oper.wp
      simp [execOp, go_sem, h69]
      first | exact ⟨rfl, Below.refl _ _⟩ | exact Below.refl _ _
  · intro g W hK hsz hB hd
    obtain ⟨hg, -, hgn⟩ := hB 0 _ rfl
    have hgn := hgn (by simp)
    simp only [World.size_alloc] at hgn
    have hg : W.heap[g 0]? = some (.cells #[.int .u64 x0, .int .u64 x1] 40 (0, 0)) := hg
    obtain ⟨hg1, -, hgn1⟩ := hB 1 _ rfl
    have hgn1 := hgn1 (by simp)
    simp only [World.size_alloc] at hgn1
    have hg1 : W.heap[g 1]? = some (.cells #[.int .u64 y0, .int .u64 y1] 40 (0, 0)) := hg1
    simp [frameOf, Act.put, valG, List.findIdx?_cons]
    
    generalize g 0 = G at *
    generalize g 1 = G1 at *
    have hk1 : W.heap[w.heap.size + 1]? = some (.cells #[.int .u64 0, .int .u64 0] 40 (0, 0)) := hK.get 1 rfl
    have hk2 : W.heap[w.heap.size + 2]? = some (.cells #[.int .u64 0, .int .u64 0] 40 (0, 0)) := hK.get 2 rfl
    have hk3 : W.heap[w.heap.size + 3]? = some (.cells #[.int .u64 p0, .int .u64 p1] 40 (0, 0)) := hK.get 3 rfl
    have HW := Lib.hid hK.1
    have HG := Lib.hid hg
    have HG1 := Lib.hid hg1
    have HK1 := Lib.hid hk1
    have HK2 := Lib.hid hk2
    have HK3 := Lib.hid hk3
    clear hK hB hd hg hg1 hk1 hk2 hk3 hx0 hx1 hx2 hx3 HBW HKEEP HOLD0 hsz
    generalize W = W5 at *
    go_wp2_with fail
    have below : Below (w.heap.size) w W5 := HW.out
    have HBW : Hid (w.heap.size ≤ W5.heap.size) := Lib.hid below.size
    have HKEEP : Hid (Keep (w.heap.size) w [((G, .cells #[.int .u64 x0, .int .u64 x1] 40) : Nat × Obj), ((G1, .cells #[.int .u64 y0, .int .u64 y1] 40) : Nat × Obj), ((w.heap.size + 3, .cells #[.int .u64 p0, .int .u64 p1] 40) : Nat × Obj)] W5) := Lib.hid ⟨below, by
      intro p hp
      simp only [List.mem_cons, List.not_mem_nil, or_false] at hp
      rcases hp with rfl | rfl | rfl
      · exact HG.out
      · exact HG1.out
      · exact HK3.out⟩
    have HOLD0 : Hid (∀ b ∈ [(⟨none, some 5, w.heap.size + 1, #[.int .u64 0, .int .u64 0], #[.int .u64 x0, .int .u64 x1], 40⟩ : RBox), (⟨none, some 6, w.heap.size + 2, #[.int .u64 0, .int .u64 0], #[.int .u64 s0, .int .u64 s1], 40⟩ : RBox)], b.al = none → W5.heap[b.blk]? = some (.cells b.z b.T (0, 0)) ∧ w.heap.size ≤ b.blk ∧ ∀ p ∈ [((G, .cells #[.int .u64 x0, .int .u64 x1] 40) : Nat × Obj), ((G1, .cells #[.int .u64 y0, .int .u64 y1] 40) : Nat × Obj), ((w.heap.size + 3, .cells #[.int .u64 p0, .int .u64 p1] 40) : Nat × Obj)], p.1 ≠ b.blk) := Lib.hid (by
      intro b hb
      simp only [List.mem_cons, List.not_mem_nil, or_false] at hb
      rcases hb with rfl | rfl
      · intro _
        refine ⟨HK1.out, (by show w.heap.size ≤ w.heap.size + 1; omega), fun p hp => ?_⟩
        simp only [List.mem_cons, List.not_mem_nil, or_false] at hp
        rcases hp with rfl | rfl | rfl
        · show G ≠ w.heap.size + 1
          omega
        · show G1 ≠ w.heap.size + 1
          omega
        · show w.heap.size + 3 ≠ w.heap.size + 1
          omega
      · intro _
        refine ⟨HK2.out, (by show w.heap.size ≤ w.heap.size + 2; omega), fun p hp => ?_⟩
        simp only [List.mem_cons, List.not_mem_nil, or_false] at hp
        rcases hp with rfl | rfl | rfl
        · show G ≠ w.heap.size + 2
          omega
        · show G1 ≠ w.heap.size + 2
          omega
        · show w.heap.size + 3 ≠ w.heap.size + 2
          omega)
    clear below
    refine wp_region_box (w.heap.size) w [(G, .cells #[.int .u64 x0, .int .u64 x1] 40), (G1, .cells #[.int .u64 y0, .int .u64 y1] 40), (w.heap.size + 3, .cells #[.int .u64 p0, .int .u64 p1] 40)] [⟨none, some 5, w.heap.size + 1, #[.int .u64 0, .int .u64 0], #[.int .u64 x0, .int .u64 x1], 40⟩, ⟨none, some 6, w.heap.size + 2, #[.int .u64 0, .int .u64 0], #[.int .u64 s0, .int .u64 s1], 40⟩] (fun i => ([(.agg #[.int .u64 x0, .int .u64 x1]), (.agg #[.int .u64 y0, .int .u64 y1]), (.agg #[.int .u64 p0, .int .u64 p1]), (.agg #[.int .u64 s0, .int .u64 s1]), (.bool ok), (undef), (undef), (.bool ok)] : List Value).getD i undef) (by kernel_rfl) (by kernel_rfl) (by kernel_rfl) (by rfl) (by simp) (by rfl) HBW.out HKEEP.out HOLD0.out ?_ ?_
    · refine ⟨?_, ?_, ?_, ?_, ?_, ?_, ?_, ?_, trivial⟩
      · refine stepG_plain rfl rfl fun g ac W hK hk => ?_
        have h15 : ac.tmps[15]? = some (.pointer (some ⟨G, 0, none⟩)) := hk.keep 15 rfl
        have mxq := hK.get 0 rfl
        have q0 : W.cell? ⟨G, 0, none⟩ = some (.int .u64 x0) := by rw [Lib.cell_of_heap mxq]; rfl
        have q1 : W.cell? ⟨G, 1, none⟩ = some (.int .u64 x1) := by rw [Lib.cell_of_heap mxq]; rfl
        refine wpOp_of rfl rfl ?_
        unfold Oper.wp
        simp [execOp, go_sem, h15, q0, q1]
        first | exact ⟨rfl, Below.refl _ _⟩ | exact Below.refl _ _
      · refine stepG_plain rfl rfl fun g ac W hK hk => ?_
        have h16 : ac.tmps[16]? = some (.pointer (some ⟨G1, 0, none⟩)) := hk.keep 16 rfl
        have mxq := hK.get 1 rfl
        have q0 : W.cell? ⟨G1, 0, none⟩ = some (.int .u64 y0) := by rw [Lib.cell_of_heap mxq]; rfl
        have q1 : W.cell? ⟨G1, 1, none⟩ = some (.int .u64 y1) := by rw [Lib.cell_of_heap mxq]; rfl
        refine wpOp_of rfl rfl ?_
        unfold Oper.wp
        simp [execOp, go_sem, h16, q0, q1]
        first | exact ⟨rfl, Below.refl _ _⟩ | exact Below.refl _ _
      · refine stepG_plain rfl rfl fun g ac W hK hk => ?_
        have h13 : ac.tmps[13]? = some (.pointer (some ⟨w.heap.size + 3, 0, none⟩)) := hk.keep 13 rfl
        have mxq := hK.get 2 rfl
        have q0 : W.cell? ⟨w.heap.size + 3, 0, none⟩ = some (.int .u64 p0) := by rw [Lib.cell_of_heap mxq]; rfl
        have q1 : W.cell? ⟨w.heap.size + 3, 1, none⟩ = some (.int .u64 p1) := by rw [Lib.cell_of_heap mxq]; rfl
        refine wpOp_of rfl rfl ?_
        unfold Oper.wp
        simp [execOp, go_sem, h13, q0, q1]
        first | exact ⟨rfl, Below.refl _ _⟩ | exact Below.refl _ _
      · refine stepG_plain rfl rfl fun g ac W hK hk => ?_
        have h71 : ac.tmps[71]? = some (.agg #[.int .u64 y0, .int .u64 y1]) := hk.has 1 _ 71 rfl rfl rfl (by simp) rfl
        have h72 : ac.tmps[72]? = some (.agg #[.int .u64 p0, .int .u64 p1]) := hk.has 2 _ 72 rfl rfl rfl (by simp) rfl
        refine wpOp_of rfl rfl ?_
        unfold Oper.wp
        simp [execOp, go_sem, h71, h72]
        refine (H2.out W).mono ?_
        rintro e w' ⟨rfl, hb⟩
        exact ⟨rfl, hb⟩
      · refine stepG_plain rfl rfl fun g ac W hK hk => ?_
        have h17 : ac.tmps[17]? = some (.bool ok) := hk.keep 17 rfl
        refine wpOp_of rfl rfl ?_
        unfold Oper.wp
        simp [execOp, go_sem, h17]
        first | exact ⟨rfl, Below.refl _ _⟩ | exact Below.refl _ _
      · refine stepG_store (by rfl) 0 _ rfl rfl rfl (by rfl) fun g ac W K hK hk hold hz hgo => ?_
        have h10 : ac.tmps[10]? = some (.pointer (some ⟨w.heap.size + 1, 0, none⟩)) := hk.keep 10 rfl
        have h70 : ac.tmps[70]? = some (.agg #[.int .u64 x0, .int .u64 x1]) := hk.has 0 _ 70 rfl rfl rfl (by simp) rfl
        have hg : g 0 = w.heap.size + 1 := hold rfl
        rw [hg] at hz hgo
        have z0 : (W).heap[w.heap.size + 1]? = some (.cells #[.int .u64 0, .int .u64 0] 40 (0, 0)) := hz
        have c0_0 : (W).cell? ⟨w.heap.size + 1, 0, none⟩ = some (.int .u64 0) := by rw [Lib.cell_of_heap z0]; rfl
        have f0 := Lib.frozen_of_heap z0 0
        have z1 : ((W).setCell ⟨w.heap.size + 1, 0, none⟩ (.int .u64 x0)).heap[w.heap.size + 1]? = some (.cells #[.int .u64 x0, .int .u64 0] 40 (0, 0)) := setCell_heap z0 0 _
        have c1_1 : ((W).setCell ⟨w.heap.size + 1, 0, none⟩ (.int .u64 x0)).cell? ⟨w.heap.size + 1, 1, none⟩ = some (.int .u64 0) := by rw [Lib.cell_of_heap z1]; rfl
        have f1 := Lib.frozen_of_heap z1 1
        refine wpOp_of rfl rfl ?_
        unfold Oper.wp
        simp [execOp, go_sem, h10, h70, c0_0, f0, c1_1, f1]
        exact hgo _ (((OnlyB.refl _ _).set 0 _).set 1 _) (setCell_heap z1 1 _)
      · refine stepG_store (by rfl) 1 _ rfl rfl rfl (by rfl) fun g ac W K hK hk hold hz hgo => ?_
        have h11 : ac.tmps[11]? = some (.pointer (some ⟨w.heap.size + 2, 0, none⟩)) := hk.keep 11 rfl
        have h73 : ac.tmps[73]? = some (.agg #[.int .u64 s0, .int .u64 s1]) := hk.has 3 _ 73 rfl rfl rfl (by simp) rfl
        have hg : g 1 = w.heap.size + 2 := hold rfl
        rw [hg] at hz hgo
        have z0 : (W).heap[w.heap.size + 2]? = some (.cells #[.int .u64 0, .int .u64 0] 40 (0, 0)) := hz
        have c0_0 : (W).cell? ⟨w.heap.size + 2, 0, none⟩ = some (.int .u64 0) := by rw [Lib.cell_of_heap z0]; rfl
        have f0 := Lib.frozen_of_heap z0 0
        have z1 : ((W).setCell ⟨w.heap.size + 2, 0, none⟩ (.int .u64 s0)).heap[w.heap.size + 2]? = some (.cells #[.int .u64 s0, .int .u64 0] 40 (0, 0)) := setCell_heap z0 0 _
        have c1_1 : ((W).setCell ⟨w.heap.size + 2, 0, none⟩ (.int .u64 s0)).cell? ⟨w.heap.size + 2, 1, none⟩ = some (.int .u64 0) := by rw [Lib.cell_of_heap z1]; rfl
        have f1 := Lib.frozen_of_heap z1 1
        refine wpOp_of rfl rfl ?_
        unfold Oper.wp
        simp [execOp, go_sem, h11, h73, c0_0, f0, c1_1, f1]
        exact hgo _ (((OnlyB.refl _ _).set 0 _).set 1 _) (setCell_heap z1 1 _)
      · refine stepG_plain rfl rfl fun g ac W hK hk => ?_
        have h74 : ac.tmps[74]? = some (.bool ok) := hk.has 4 _ 74 rfl rfl rfl (by simp) rfl
        refine wpOp_of rfl rfl ?_
        unfold Oper.wp
        simp [execOp, go_sem, h74]
        first | exact ⟨rfl, Below.refl _ _⟩ | exact Below.refl _ _
    · intro g W hK hsz hB hd
      obtain ⟨hr, hg0, -⟩ := hB 0 _ rfl
      have hg0 : g 0 = w.heap.size + 1 := hg0 rfl
      have hr : W.heap[g 0]? = some (.cells #[.int .u64 x0, .int .u64 x1] 40 (0, 0)) := hr
      rw [hg0] at hr
      obtain ⟨hr2, hg1, -⟩ := hB 1 _ rfl
      have hg1 : g 1 = w.heap.size + 2 := hg1 rfl
      have hr2 : W.heap[g 1]? = some (.cells #[.int .u64 s0, .int .u64 s1] 40 (0, 0)) := hr2
      rw [hg1] at hr2
      simp [frameOf, Act.put, valG, List.findIdx?_cons]
      have HW := Lib.hid hK.1
      have c0 : W.cell? ⟨w.heap.size + 1, 0, none⟩ = some (.int .u64 x0) := by rw [Lib.cell_of_heap hr]; rfl
      have c1 : W.cell? ⟨w.heap.size + 1, 1, none⟩ = some (.int .u64 x1) := by rw [Lib.cell_of_heap hr]; rfl
      have c2 : W.cell? ⟨w.heap.size + 2, 0, none⟩ = some (.int .u64 s0) := by rw [Lib.cell_of_heap hr2]; rfl
      have c3 : W.cell? ⟨w.heap.size + 2, 1, none⟩ = some (.int .u64 s1) := by rw [Lib.cell_of_heap hr2]; rfl
      clear hK hB hd hr hr2 hg0 hg1 hsz
      go_wp2
      exact bodyPost_ret (v := .tuple #[.agg #[.int .u64 x0, .int .u64 x1], .agg #[.int .u64 s0, .int .u64 s1], .bool ok]) (by simp [results, Try.results47, go_sem, c0, c1, c2, c3]) rfl ⟨rfl, HW.out⟩
    
set_option maxRecDepth 100000 in
set_option maxHeartbeats 8000000 in
theorem roots_more (m k b off cap len : Nat) (n : Int) (o0 o1 p0 p1 x0 x1 y0 y1 s0 s1 r0 r1 : Int) (wh ok : Bool) (hk : leftN m = k) (hkm : k < m) (hm : 2 ≤ m) (hm2 : m ≤ 10000) (hnm : n < (m : Int)) (hnk : (k : Int) < n) (hlc : len + 1 ≤ cap) (hcm : cap ≤ maxLen) (w : World)
    (e0 : w.cell? ⟨b, off + len * 2, none⟩ = some (.int .u64 p0)) (e1 : w.cell? ⟨b, off + len * 2 + 1, none⟩ = some (.int .u64 p1)) (hb : b < w.heap.size)
    (h1 : ∀ W, Below w.heap.size w W → Calls Try.prog 47 #[.int .i64 (n - (k : Int)), .int .i64 ((m : Int) - (k : Int)), .agg #[.int .u64 o0, .int .u64 o1], .slice (some ⟨b, off, none⟩) len cap, .bool false] W fun e w' => e = .returned (.tuple #[.agg #[.int .u64 x0, .int .u64 x1], .agg #[.int .u64 y0, .int .u64 y1], .bool ok]) ∧ Below W.heap.size W w')
    (h2 : ∀ W, Calls Try.prog 61 #[.agg #[.int .u64 p0, .int .u64 p1], .agg #[.int .u64 x0, .int .u64 x1]] W fun e w' => e = .returned (.agg #[.int .u64 s0, .int .u64 s1]) ∧ Below W.heap.size W w')
    (h3 : ∀ W, Calls Try.prog 61 #[.agg #[.int .u64 p0, .int .u64 p1], .agg #[.int .u64 y0, .int .u64 y1]] W fun e w' => e = .returned (.agg #[.int .u64 r0, .int .u64 r1]) ∧ Below W.heap.size W w') :
    Calls Try.prog 47 #[.int .i64 n, .int .i64 m, .agg #[.int .u64 o0, .int .u64 o1], .slice (some ⟨b, off, none⟩) (len + 1) cap, .bool wh] w fun e w' => e = .returned (.tuple #[.agg #[.int .u64 s0, .int .u64 s1], .agg #[.int .u64 r0, .int .u64 r1], .bool ok]) ∧ Below w.heap.size w w' := by
  have H1 := Lib.hid h1
  have H2 := Lib.hid h2
  have H3 := Lib.hid h3
  have HK := Lib.hid hk
  clear h1 h2 hk h3
  unfold maxLen at hcm
  have t1 : (n == (m : Int)) = false := by simp; omega
  have t2 : (((len + 1 : Nat) : Int) == 0) = false := by simp; omega
  have tz : (0 : Int) ≤ (len : Int) := by omega
  have tz2 : (len : Int) < (len : Int) + 1 := by omega
  have b3 : Below w.heap.size w (((w.alloc (.cells #[.int .u64 o0, .int .u64 o1] 40)).alloc (.cells #[.int .u64 0, .int .u64 0] 40)).alloc (.cells #[.int .u64 0, .int .u64 0] 40)) := bla (bla (bla (Below.refl _ _) _) _) _
  have e2 := (b3.cell (p := ⟨b, off + len * 2, none⟩) hb).trans e0
  have e3 := (b3.cell (p := ⟨b, off + len * 2 + 1, none⟩) hb).trans e1
  go_enter Try.func47, Try.ntmps47
  go_wp2_with fail
  ((with_reducible refine (ledLeft_any m hm (by omega) _).mono ?_); rintro e w' ⟨rfl, rfl⟩)
  rw [HK.out]
  have w1 : IntKind.i64.wrap (n - (k : Int)) = n - (k : Int) := by rw [IntKind.wrap_i64]; omega
  have wm : IntKind.i64.wrap ((m : Int) - (k : Int)) = (m : Int) - (k : Int) := by rw [IntKind.wrap_i64]; omega
  have t6 : ¬ n ≤ (k : Int) := by omega
  go_wp2_with fail
  have hw1 : IntKind.i64.wrap ((len : Int)) = (len : Int) := IntWalk.i64_in _ (by omega)
  have hx0 : ((((w.alloc (.cells #[.int .u64 o0, .int .u64 o1] 40)).alloc (.cells #[.int .u64 0, .int .u64 0] 40)).alloc (.cells #[.int .u64 0, .int .u64 0] 40)).alloc (.cells #[.int .u64 p0, .int .u64 p1] 40)).heap[w.heap.size]? = some (.cells #[.int .u64 o0, .int .u64 o1] 40 (0, 0)) := by
    have h := World.alloc_heap_new w (.cells #[.int .u64 o0, .int .u64 o1] 40)
    try simp only [World.size_alloc] at h
    exact (Below.heap_alloc _ _ _ (by simp; try omega)).trans ((Below.heap_alloc _ _ _ (by simp; try omega)).trans ((Below.heap_alloc _ _ _ (by simp; try omega)).trans h))
  have hx1 : ((((w.alloc (.cells #[.int .u64 o0, .int .u64 o1] 40)).alloc (.cells #[.int .u64 0, .int .u64 0] 40)).alloc (.cells #[.int .u64 0, .int .u64 0] 40)).alloc (.cells #[.int .u64 p0, .int .u64 p1] 40)).heap[w.heap.size + 1]? = some (.cells #[.int .u64 0, .int .u64 0] 40 (0, 0)) := by
    have h := World.alloc_heap_new (w.alloc (.cells #[.int .u64 o0, .int .u64 o1] 40)) (.cells #[.int .u64 0, .int .u64 0] 40)
    try simp only [World.size_alloc] at h
    exact (Below.heap_alloc _ _ _ (by simp; try omega)).trans ((Below.heap_alloc _ _ _ (by simp; try omega)).trans h)
  have hx2 : ((((w.alloc (.cells #[.int .u64 o0, .int .u64 o1] 40)).alloc (.cells #[.int .u64 0, .int .u64 0] 40)).alloc (.cells #[.int .u64 0, .int .u64 0] 40)).alloc (.cells #[.int .u64 p0, .int .u64 p1] 40)).heap[w.heap.size + 2]? = some (.cells #[.int .u64 0, .int .u64 0] 40 (0, 0)) := by
    have h := World.alloc_heap_new ((w.alloc (.cells #[.int .u64 o0, .int .u64 o1] 40)).alloc (.cells #[.int .u64 0, .int .u64 0] 40)) (.cells #[.int .u64 0, .int .u64 0] 40)
    try simp only [World.size_alloc] at h
    exact (Below.heap_alloc _ _ _ (by simp; try omega)).trans h
  have hx3 : ((((w.alloc (.cells #[.int .u64 o0, .int .u64 o1] 40)).alloc (.cells #[.int .u64 0, .int .u64 0] 40)).alloc (.cells #[.int .u64 0, .int .u64 0] 40)).alloc (.cells #[.int .u64 p0, .int .u64 p1] 40)).heap[w.heap.size + 3]? = some (.cells #[.int .u64 p0, .int .u64 p1] 40 (0, 0)) := by
    have h := World.alloc_heap_new (((w.alloc (.cells #[.int .u64 o0, .int .u64 o1] 40)).alloc (.cells #[.int .u64 0, .int .u64 0] 40)).alloc (.cells #[.int .u64 0, .int .u64 0] 40)) (.cells #[.int .u64 p0, .int .u64 p1] 40)
    try simp only [World.size_alloc] at h
    exact h
  have below : Below (w.heap.size) w ((((w.alloc (.cells #[.int .u64 o0, .int .u64 o1] 40)).alloc (.cells #[.int .u64 0, .int .u64 0] 40)).alloc (.cells #[.int .u64 0, .int .u64 0] 40)).alloc (.cells #[.int .u64 p0, .int .u64 p1] 40)) := bla (bla (bla (bla (Below.refl _ _) _) _) _) _
  have HBW : Hid (w.heap.size ≤ ((((w.alloc (.cells #[.int .u64 o0, .int .u64 o1] 40)).alloc (.cells #[.int .u64 0, .int .u64 0] 40)).alloc (.cells #[.int .u64 0, .int .u64 0] 40)).alloc (.cells #[.int .u64 p0, .int .u64 p1] 40)).heap.size) := Lib.hid below.size
  have HKEEP : Hid (Keep (w.heap.size) w [((w.heap.size, .cells #[.int .u64 o0, .int .u64 o1] 40) : Nat × Obj), ((w.heap.size + 1, .cells #[.int .u64 0, .int .u64 0] 40) : Nat × Obj), ((w.heap.size + 2, .cells #[.int .u64 0, .int .u64 0] 40) : Nat × Obj), ((w.heap.size + 3, .cells #[.int .u64 p0, .int .u64 p1] 40) : Nat × Obj)] ((((w.alloc (.cells #[.int .u64 o0, .int .u64 o1] 40)).alloc (.cells #[.int .u64 0, .int .u64 0] 40)).alloc (.cells #[.int .u64 0, .int .u64 0] 40)).alloc (.cells #[.int .u64 p0, .int .u64 p1] 40))) := Lib.hid ⟨below, by
    intro p hp
    simp only [List.mem_cons, List.not_mem_nil, or_false] at hp
    rcases hp with rfl | rfl | rfl | rfl
    · exact hx0
    · exact hx1
    · exact hx2
    · exact hx3⟩
  have HOLD0 : Hid (∀ b ∈ [(⟨some 17, some 19, 0, #[.int .u64 0, .int .u64 0], #[.int .u64 x0, .int .u64 x1], 40⟩ : RBox), (⟨some 18, some 20, 0, #[.int .u64 0, .int .u64 0], #[.int .u64 y0, .int .u64 y1], 40⟩ : RBox)], b.al = none → ((((w.alloc (.cells #[.int .u64 o0, .int .u64 o1] 40)).alloc (.cells #[.int .u64 0, .int .u64 0] 40)).alloc (.cells #[.int .u64 0, .int .u64 0] 40)).alloc (.cells #[.int .u64 p0, .int .u64 p1] 40)).heap[b.blk]? = some (.cells b.z b.T (0, 0)) ∧ w.heap.size ≤ b.blk ∧ ∀ p ∈ [((w.heap.size, .cells #[.int .u64 o0, .int .u64 o1] 40) : Nat × Obj), ((w.heap.size + 1, .cells #[.int .u64 0, .int .u64 0] 40) : Nat × Obj), ((w.heap.size + 2, .cells #[.int .u64 0, .int .u64 0] 40) : Nat × Obj), ((w.heap.size + 3, .cells #[.int .u64 p0, .int .u64 p1] 40) : Nat × Obj)], p.1 ≠ b.blk) := Lib.hid (by
    intro b hb
    simp only [List.mem_cons, List.not_mem_nil, or_false] at hb
    rcases hb with rfl | rfl
    · intro h; cases h
    · intro h; cases h)
  clear below
  refine wp_region_box (w.heap.size) w [(w.heap.size, .cells #[.int .u64 o0, .int .u64 o1] 40), (w.heap.size + 1, .cells #[.int .u64 0, .int .u64 0] 40), (w.heap.size + 2, .cells #[.int .u64 0, .int .u64 0] 40), (w.heap.size + 3, .cells #[.int .u64 p0, .int .u64 p1] 40)] [⟨some 17, some 19, 0, #[.int .u64 0, .int .u64 0], #[.int .u64 x0, .int .u64 x1], 40⟩, ⟨some 18, some 20, 0, #[.int .u64 0, .int .u64 0], #[.int .u64 y0, .int .u64 y1], 40⟩] (fun i => ([(.int .i64 n), (.int .i64 k), (.int .i64 (n - (k : Int))), (.int .i64 m), (.int .i64 k), (.int .i64 ((m : Int) - (k : Int))), (.agg #[.int .u64 o0, .int .u64 o1]), (.slice (some ⟨b, off, none⟩) (len + 1) cap), (.slice (some ⟨b, off, none⟩) (len + 1) cap), (.int .i64 ((len : Int) + 1)), (.int .i64 (len : Int)), (.slice (some ⟨b, off, none⟩) len cap), (.tuple #[.agg #[.int .u64 x0, .int .u64 x1], .agg #[.int .u64 y0, .int .u64 y1], .bool ok]), (.tuple #[.agg #[.int .u64 x0, .int .u64 x1], .agg #[.int .u64 y0, .int .u64 y1], .bool ok]), (.agg #[.int .u64 x0, .int .u64 x1]), (.agg #[.int .u64 y0, .int .u64 y1]), (.bool ok), (undef), (undef), (undef), (undef), (.bool ok)] : List Value).getD i undef) (by kernel_rfl) (by kernel_rfl) (by kernel_rfl) (by rfl) (by simp) (by rfl) HBW.out HKEEP.out HOLD0.out ?_ ?_
  · refine ⟨?_, ?_, ?_, ?_, ?_, ?_, ?_, ?_, ?_, ?_, ?_, ?_, ?_, ?_, ?_, ?_, ?_, ?_, ?_, ?_, ?_, ?_, trivial⟩
    · refine stepG_plain rfl rfl fun g ac W hK hk => ?_
      have h0 : ac.tmps[0]? = some (.int .i64 n) := hk.keep 0 rfl
      refine wpOp_of rfl rfl ?_
      unfold Oper.wp
      simp [execOp, go_sem, h0]
      first | exact ⟨rfl, Below.refl _ _⟩ | exact Below.refl _ _
    · refine stepG_plain rfl rfl fun g ac W hK hk => ?_
      have h14 : ac.tmps[14]? = some (.int .i64 k) := hk.keep 14 rfl
      refine wpOp_of rfl rfl ?_
      unfold Oper.wp
      simp [execOp, go_sem, h14]
      first | exact ⟨rfl, Below.refl _ _⟩ | exact Below.refl _ _
    · refine stepG_plain rfl rfl fun g ac W hK hk => ?_
      have h76 : ac.tmps[76]? = some (.int .i64 n) := hk.has 0 _ 76 rfl rfl rfl (by simp) rfl
      have h77 : ac.tmps[77]? = some (.int .i64 k) := hk.has 1 _ 77 rfl rfl rfl (by simp) rfl
      refine wpOp_of rfl rfl ?_
      unfold Oper.wp
      simp [execOp, go_sem, h76, h77, w1]
      first | exact ⟨rfl, Below.refl _ _⟩ | exact Below.refl _ _
    · refine stepG_plain rfl rfl fun g ac W hK hk => ?_
      have h1 : ac.tmps[1]? = some (.int .i64 m) := hk.keep 1 rfl
      refine wpOp_of rfl rfl ?_
      unfold Oper.wp
      simp [execOp, go_sem, h1]
      first | exact ⟨rfl, Below.refl _ _⟩ | exact Below.refl _ _
    · refine stepG_plain rfl rfl fun g ac W hK hk => ?_
      have h14 : ac.tmps[14]? = some (.int .i64 k) := hk.keep 14 rfl
      refine wpOp_of rfl rfl ?_
      unfold Oper.wp
      simp [execOp, go_sem, h14]
      first | exact ⟨rfl, Below.refl _ _⟩ | exact Below.refl _ _
    · refine stepG_plain rfl rfl fun g ac W hK hk => ?_
      have h79 : ac.tmps[79]? = some (.int .i64 m) := hk.has 3 _ 79 rfl rfl rfl (by simp) rfl
      have h80 : ac.tmps[80]? = some (.int .i64 k) := hk.has 4 _ 80 rfl rfl rfl (by simp) rfl
      refine wpOp_of rfl rfl ?_
      unfold Oper.wp
      simp [execOp, go_sem, h79, h80, wm]
      first | exact ⟨rfl, Below.refl _ _⟩ | exact Below.refl _ _
    · refine stepG_plain rfl rfl fun g ac W hK hk => ?_
      have h7 : ac.tmps[7]? = some (.pointer (some ⟨w.heap.size, 0, none⟩)) := hk.keep 7 rfl
      have mxq := hK.get 0 rfl
      have q0 : W.cell? ⟨w.heap.size, 0, none⟩ = some (.int .u64 o0) := by rw [Lib.cell_of_heap mxq]; rfl
      have q1 : W.cell? ⟨w.heap.size, 1, none⟩ = some (.int .u64 o1) := by rw [Lib.cell_of_heap mxq]; rfl
      refine wpOp_of rfl rfl ?_
      unfold Oper.wp
      simp [execOp, go_sem, h7, q0, q1]
      first | exact ⟨rfl, Below.refl _ _⟩ | exact Below.refl _ _
    · refine stepG_plain rfl rfl fun g ac W hK hk => ?_
      have h3 : ac.tmps[3]? = some (.slice (some ⟨b, off, none⟩) (len + 1) cap) := hk.keep 3 rfl
      refine wpOp_of rfl rfl ?_
      unfold Oper.wp
      simp [execOp, go_sem, h3]
      first | exact ⟨rfl, Below.refl _ _⟩ | exact Below.refl _ _
    · refine stepG_plain rfl rfl fun g ac W hK hk => ?_
      have h3 : ac.tmps[3]? = some (.slice (some ⟨b, off, none⟩) (len + 1) cap) := hk.keep 3 rfl
      refine wpOp_of rfl rfl ?_
      unfold Oper.wp
      simp [execOp, go_sem, h3]
      first | exact ⟨rfl, Below.refl _ _⟩ | exact Below.refl _ _
    · refine stepG_plain rfl rfl fun g ac W hK hk => ?_
      have h84 : ac.tmps[84]? = some (.slice (some ⟨b, off, none⟩) (len + 1) cap) := hk.has 8 _ 84 rfl rfl rfl (by simp) rfl
      refine wpOp_of rfl rfl ?_
      unfold Oper.wp
      simp [execOp, go_sem, h84]
      first | exact ⟨rfl, Below.refl _ _⟩ | exact Below.refl _ _
    · refine stepG_plain rfl rfl fun g ac W hK hk => ?_
      have h85 : ac.tmps[85]? = some (.int .i64 ((len : Int) + 1)) := hk.has 9 _ 85 rfl rfl rfl (by simp) rfl
      refine wpOp_of rfl rfl ?_
      unfold Oper.wp
      simp [execOp, go_sem, h85, hw1]
      first | exact ⟨rfl, Below.refl _ _⟩ | exact Below.refl _ _
    · refine stepG_plain rfl rfl fun g ac W hK hk => ?_
      have h83 : ac.tmps[83]? = some (.slice (some ⟨b, off, none⟩) (len + 1) cap) := hk.has 7 _ 83 rfl rfl rfl (by simp) rfl
      have h86 : ac.tmps[86]? = some (.int .i64 (len : Int)) := hk.has 10 _ 86 rfl rfl rfl (by simp) rfl
      have z1 : (0 : Int) ≤ (len : Int) := by omega
      have z2 : (len : Int) ≤ (cap : Int) := by omega
      refine wpOp_of rfl rfl ?_
      unfold Oper.wp
      simp [execOp, go_sem, h83, h86, z1, z2]
      first | exact ⟨rfl, Below.refl _ _⟩ | exact Below.refl _ _
    · refine stepG_plain rfl rfl fun g ac W hK hk => ?_
      have h78 : ac.tmps[78]? = some (.int .i64 (n - (k : Int))) := hk.has 2 _ 78 rfl rfl rfl (by simp) rfl
      have h81 : ac.tmps[81]? = some (.int .i64 ((m : Int) - (k : Int))) := hk.has 5 _ 81 rfl rfl rfl (by simp) rfl
      have h82 : ac.tmps[82]? = some (.agg #[.int .u64 o0, .int .u64 o1]) := hk.has 6 _ 82 rfl rfl rfl (by simp) rfl
      have h87 : ac.tmps[87]? = some (.slice (some ⟨b, off, none⟩) len cap) := hk.has 11 _ 87 rfl rfl rfl (by simp) rfl
      refine wpOp_of rfl rfl ?_
      unfold Oper.wp
      simp [execOp, go_sem, h78, h81, h82, h87]
      refine (H1.out _ hK.1).mono ?_
      rintro e w' ⟨rfl, hb⟩
      exact ⟨rfl, hb⟩
    · refine stepG_plain rfl rfl fun g ac W hK hk => ?_
      have h88 : ac.tmps[88]? = some (.tuple #[.agg #[.int .u64 x0, .int .u64 x1], .agg #[.int .u64 y0, .int .u64 y1], .bool ok]) := hk.has 12 _ 88 rfl rfl rfl (by simp) rfl
      refine wpOp_of rfl rfl ?_
      unfold Oper.wp
      simp [execOp, go_sem, h88]
      first | exact ⟨rfl, Below.refl _ _⟩ | exact Below.refl _ _
    · refine stepG_plain rfl rfl fun g ac W hK hk => ?_
      have h75 : ac.tmps[75]? = some (.tuple #[.agg #[.int .u64 x0, .int .u64 x1], .agg #[.int .u64 y0, .int .u64 y1], .bool ok]) := hk.has 13 _ 75 rfl rfl rfl (by simp) rfl
      refine wpOp_of rfl rfl ?_
      unfold Oper.wp
      simp [execOp, go_sem, h75]
      first | exact ⟨rfl, Below.refl _ _⟩ | exact Below.refl _ _
    · refine stepG_plain rfl rfl fun g ac W hK hk => ?_
      have h75 : ac.tmps[75]? = some (.tuple #[.agg #[.int .u64 x0, .int .u64 x1], .agg #[.int .u64 y0, .int .u64 y1], .bool ok]) := hk.has 13 _ 75 rfl rfl rfl (by simp) rfl
      refine wpOp_of rfl rfl ?_
      unfold Oper.wp
      simp [execOp, go_sem, h75]
      first | exact ⟨rfl, Below.refl _ _⟩ | exact Below.refl _ _
    · refine stepG_plain rfl rfl fun g ac W hK hk => ?_
      have h75 : ac.tmps[75]? = some (.tuple #[.agg #[.int .u64 x0, .int .u64 x1], .agg #[.int .u64 y0, .int .u64 y1], .bool ok]) := hk.has 13 _ 75 rfl rfl rfl (by simp) rfl
      refine wpOp_of rfl rfl ?_
      unfold Oper.wp
      simp [execOp, go_sem, h75]
      first | exact ⟨rfl, Below.refl _ _⟩ | exact Below.refl _ _
    · exact stepG_alloc (by rfl) 0 _ rfl rfl fun a W K h => wpOp_of rfl rfl (by unfold Oper.wp; simp [execOp, go_sem]; exact h)
    · exact stepG_alloc (by rfl) 1 _ rfl rfl fun a W K h => wpOp_of rfl rfl (by unfold Oper.wp; simp [execOp, go_sem]; exact h)
    · refine stepG_store (by rfl) 0 _ rfl rfl rfl (by rfl) fun g ac W K hK hk hold hz hgo => ?_
      have h18 := hk.ptr 0 _ 17 _ 18 rfl rfl rfl rfl rfl (by simp)
      have h89 : ac.tmps[89]? = some (.agg #[.int .u64 x0, .int .u64 x1]) := hk.has 14 _ 89 rfl rfl rfl (by simp) rfl
      have z0 : (W).heap[g 0]? = some (.cells #[.int .u64 0, .int .u64 0] 40 (0, 0)) := hz
      have c0_0 : (W).cell? ⟨g 0, 0, none⟩ = some (.int .u64 0) := by rw [Lib.cell_of_heap z0]; rfl
      have f0 := Lib.frozen_of_heap z0 0
      have z1 : ((W).setCell ⟨g 0, 0, none⟩ (.int .u64 x0)).heap[g 0]? = some (.cells #[.int .u64 x0, .int .u64 0] 40 (0, 0)) := setCell_heap z0 0 _
      have c1_1 : ((W).setCell ⟨g 0, 0, none⟩ (.int .u64 x0)).cell? ⟨g 0, 1, none⟩ = some (.int .u64 0) := by rw [Lib.cell_of_heap z1]; rfl
      have f1 := Lib.frozen_of_heap z1 1
      refine wpOp_of rfl rfl ?_
      unfold Oper.wp
      simp [execOp, go_sem, h18, h89, c0_0, f0, c1_1, f1]
      exact hgo _ (((OnlyB.refl _ _).set 0 _).set 1 _) (setCell_heap z1 1 _)
    · refine stepG_store (by rfl) 1 _ rfl rfl rfl (by rfl) fun g ac W K hK hk hold hz hgo => ?_
      have h19 := hk.ptr 1 _ 18 _ 19 rfl rfl rfl rfl rfl (by simp)
      have h90 : ac.tmps[90]? = some (.agg #[.int .u64 y0, .int .u64 y1]) := hk.has 15 _ 90 rfl rfl rfl (by simp) rfl
      have z0 : (W).heap[g 1]? = some (.cells #[.int .u64 0, .int .u64 0] 40 (0, 0)) := hz
      have c0_0 : (W).cell? ⟨g 1, 0, none⟩ = some (.int .u64 0) := by rw [Lib.cell_of_heap z0]; rfl
      have f0 := Lib.frozen_of_heap z0 0
      have z1 : ((W).setCell ⟨g 1, 0, none⟩ (.int .u64 y0)).heap[g 1]? = some (.cells #[.int .u64 y0, .int .u64 0] 40 (0, 0)) := setCell_heap z0 0 _
      have c1_1 : ((W).setCell ⟨g 1, 0, none⟩ (.int .u64 y0)).cell? ⟨g 1, 1, none⟩ = some (.int .u64 0) := by rw [Lib.cell_of_heap z1]; rfl
      have f1 := Lib.frozen_of_heap z1 1
      refine wpOp_of rfl rfl ?_
      unfold Oper.wp
      simp [execOp, go_sem, h19, h90, c0_0, f0, c1_1, f1]
      exact hgo _ (((OnlyB.refl _ _).set 0 _).set 1 _) (setCell_heap z1 1 _)
    · refine stepG_plain rfl rfl fun g ac W hK hk => ?_
      have h91 : ac.tmps[91]? = some (.bool ok) := hk.has 16 _ 91 rfl rfl rfl (by simp) rfl
      refine wpOp_of rfl rfl ?_
      unfold Oper.wp
      simp [execOp, go_sem, h91]
      first | exact ⟨rfl, Below.refl _ _⟩ | exact Below.refl _ _
  · intro g W hK hsz hB hd
    obtain ⟨hg, -, hgn⟩ := hB 0 _ rfl
    have hgn := hgn (by simp)
    simp only [World.size_alloc] at hgn
    have hg : W.heap[g 0]? = some (.cells #[.int .u64 x0, .int .u64 x1] 40 (0, 0)) := hg
    obtain ⟨hg1, -, hgn1⟩ := hB 1 _ rfl
    have hgn1 := hgn1 (by simp)
    simp only [World.size_alloc] at hgn1
    have hg1 : W.heap[g 1]? = some (.cells #[.int .u64 y0, .int .u64 y1] 40 (0, 0)) := hg1
    simp [frameOf, Act.put, valG, List.findIdx?_cons]
    
    generalize g 0 = G at *
    generalize g 1 = G1 at *
    have hk1 : W.heap[w.heap.size + 1]? = some (.cells #[.int .u64 0, .int .u64 0] 40 (0, 0)) := hK.get 1 rfl
    have hk2 : W.heap[w.heap.size + 2]? = some (.cells #[.int .u64 0, .int .u64 0] 40 (0, 0)) := hK.get 2 rfl
    have hk3 : W.heap[w.heap.size + 3]? = some (.cells #[.int .u64 p0, .int .u64 p1] 40 (0, 0)) := hK.get 3 rfl
    have HW := Lib.hid hK.1
    have HG := Lib.hid hg
    have HG1 := Lib.hid hg1
    have HK1 := Lib.hid hk1
    have HK2 := Lib.hid hk2
    have HK3 := Lib.hid hk3
    clear hK hB hd hg hg1 hk1 hk2 hk3 hx0 hx1 hx2 hx3 HBW HKEEP HOLD0 hsz
    generalize W = W5 at *
    go_wp2_with fail
    have below : Below (w.heap.size) w W5 := HW.out
    have HBW : Hid (w.heap.size ≤ W5.heap.size) := Lib.hid below.size
    have HKEEP : Hid (Keep (w.heap.size) w [((G, .cells #[.int .u64 x0, .int .u64 x1] 40) : Nat × Obj), ((G1, .cells #[.int .u64 y0, .int .u64 y1] 40) : Nat × Obj), ((w.heap.size + 3, .cells #[.int .u64 p0, .int .u64 p1] 40) : Nat × Obj)] W5) := Lib.hid ⟨below, by
      intro p hp
      simp only [List.mem_cons, List.not_mem_nil, or_false] at hp
      rcases hp with rfl | rfl | rfl
      · exact HG.out
      · exact HG1.out
      · exact HK3.out⟩
    have HOLD0 : Hid (∀ b ∈ [(⟨none, some 7, w.heap.size + 1, #[.int .u64 0, .int .u64 0], #[.int .u64 s0, .int .u64 s1], 40⟩ : RBox), (⟨none, some 8, w.heap.size + 2, #[.int .u64 0, .int .u64 0], #[.int .u64 r0, .int .u64 r1], 40⟩ : RBox)], b.al = none → W5.heap[b.blk]? = some (.cells b.z b.T (0, 0)) ∧ w.heap.size ≤ b.blk ∧ ∀ p ∈ [((G, .cells #[.int .u64 x0, .int .u64 x1] 40) : Nat × Obj), ((G1, .cells #[.int .u64 y0, .int .u64 y1] 40) : Nat × Obj), ((w.heap.size + 3, .cells #[.int .u64 p0, .int .u64 p1] 40) : Nat × Obj)], p.1 ≠ b.blk) := Lib.hid (by
      intro b hb
      simp only [List.mem_cons, List.not_mem_nil, or_false] at hb
      rcases hb with rfl | rfl
      · intro _
        refine ⟨HK1.out, (by show w.heap.size ≤ w.heap.size + 1; omega), fun p hp => ?_⟩
        simp only [List.mem_cons, List.not_mem_nil, or_false] at hp
        rcases hp with rfl | rfl | rfl
        · show G ≠ w.heap.size + 1
          omega
        · show G1 ≠ w.heap.size + 1
          omega
        · show w.heap.size + 3 ≠ w.heap.size + 1
          omega
      · intro _
        refine ⟨HK2.out, (by show w.heap.size ≤ w.heap.size + 2; omega), fun p hp => ?_⟩
        simp only [List.mem_cons, List.not_mem_nil, or_false] at hp
        rcases hp with rfl | rfl | rfl
        · show G ≠ w.heap.size + 2
          omega
        · show G1 ≠ w.heap.size + 2
          omega
        · show w.heap.size + 3 ≠ w.heap.size + 2
          omega)
    clear below
    refine wp_region_box (w.heap.size) w [(G, .cells #[.int .u64 x0, .int .u64 x1] 40), (G1, .cells #[.int .u64 y0, .int .u64 y1] 40), (w.heap.size + 3, .cells #[.int .u64 p0, .int .u64 p1] 40)] [⟨none, some 7, w.heap.size + 1, #[.int .u64 0, .int .u64 0], #[.int .u64 s0, .int .u64 s1], 40⟩, ⟨none, some 8, w.heap.size + 2, #[.int .u64 0, .int .u64 0], #[.int .u64 r0, .int .u64 r1], 40⟩] (fun i => ([(.agg #[.int .u64 p0, .int .u64 p1]), (.agg #[.int .u64 x0, .int .u64 x1]), (.agg #[.int .u64 s0, .int .u64 s1]), (.agg #[.int .u64 p0, .int .u64 p1]), (.agg #[.int .u64 y0, .int .u64 y1]), (.agg #[.int .u64 r0, .int .u64 r1]), (.bool ok), (undef), (undef), (.bool ok)] : List Value).getD i undef) (by kernel_rfl) (by kernel_rfl) (by kernel_rfl) (by rfl) (by simp) (by rfl) HBW.out HKEEP.out HOLD0.out ?_ ?_
    · refine ⟨?_, ?_, ?_, ?_, ?_, ?_, ?_, ?_, ?_, ?_, trivial⟩
      · refine stepG_plain rfl rfl fun g ac W hK hk => ?_
        have h13 : ac.tmps[13]? = some (.pointer (some ⟨w.heap.size + 3, 0, none⟩)) := hk.keep 13 rfl
        have mxq := hK.get 2 rfl
        have q0 : W.cell? ⟨w.heap.size + 3, 0, none⟩ = some (.int .u64 p0) := by rw [Lib.cell_of_heap mxq]; rfl
        have q1 : W.cell? ⟨w.heap.size + 3, 1, none⟩ = some (.int .u64 p1) := by rw [Lib.cell_of_heap mxq]; rfl
        refine wpOp_of rfl rfl ?_
        unfold Oper.wp
        simp [execOp, go_sem, h13, q0, q1]
        first | exact ⟨rfl, Below.refl _ _⟩ | exact Below.refl _ _
      · refine stepG_plain rfl rfl fun g ac W hK hk => ?_
        have h18 : ac.tmps[18]? = some (.pointer (some ⟨G, 0, none⟩)) := hk.keep 18 rfl
        have mxq := hK.get 0 rfl
        have q0 : W.cell? ⟨G, 0, none⟩ = some (.int .u64 x0) := by rw [Lib.cell_of_heap mxq]; rfl
        have q1 : W.cell? ⟨G, 1, none⟩ = some (.int .u64 x1) := by rw [Lib.cell_of_heap mxq]; rfl
        refine wpOp_of rfl rfl ?_
        unfold Oper.wp
        simp [execOp, go_sem, h18, q0, q1]
        first | exact ⟨rfl, Below.refl _ _⟩ | exact Below.refl _ _
      · refine stepG_plain rfl rfl fun g ac W hK hk => ?_
        have h92 : ac.tmps[92]? = some (.agg #[.int .u64 p0, .int .u64 p1]) := hk.has 0 _ 92 rfl rfl rfl (by simp) rfl
        have h93 : ac.tmps[93]? = some (.agg #[.int .u64 x0, .int .u64 x1]) := hk.has 1 _ 93 rfl rfl rfl (by simp) rfl
        refine wpOp_of rfl rfl ?_
        unfold Oper.wp
        simp [execOp, go_sem, h92, h93]
        refine (H2.out W).mono ?_
        rintro e w' ⟨rfl, hb⟩
        exact ⟨rfl, hb⟩
      · refine stepG_plain rfl rfl fun g ac W hK hk => ?_
        have h13 : ac.tmps[13]? = some (.pointer (some ⟨w.heap.size + 3, 0, none⟩)) := hk.keep 13 rfl
        have mxq := hK.get 2 rfl
        have q0 : W.cell? ⟨w.heap.size + 3, 0, none⟩ = some (.int .u64 p0) := by rw [Lib.cell_of_heap mxq]; rfl
        have q1 : W.cell? ⟨w.heap.size + 3, 1, none⟩ = some (.int .u64 p1) := by rw [Lib.cell_of_heap mxq]; rfl
        refine wpOp_of rfl rfl ?_
        unfold Oper.wp
        simp [execOp, go_sem, h13, q0, q1]
        first | exact ⟨rfl, Below.refl _ _⟩ | exact Below.refl _ _
      · refine stepG_plain rfl rfl fun g ac W hK hk => ?_
        have h19 : ac.tmps[19]? = some (.pointer (some ⟨G1, 0, none⟩)) := hk.keep 19 rfl
        have mxq := hK.get 1 rfl
        have q0 : W.cell? ⟨G1, 0, none⟩ = some (.int .u64 y0) := by rw [Lib.cell_of_heap mxq]; rfl
        have q1 : W.cell? ⟨G1, 1, none⟩ = some (.int .u64 y1) := by rw [Lib.cell_of_heap mxq]; rfl
        refine wpOp_of rfl rfl ?_
        unfold Oper.wp
        simp [execOp, go_sem, h19, q0, q1]
        first | exact ⟨rfl, Below.refl _ _⟩ | exact Below.refl _ _
      · refine stepG_plain rfl rfl fun g ac W hK hk => ?_
        have h95 : ac.tmps[95]? = some (.agg #[.int .u64 p0, .int .u64 p1]) := hk.has 3 _ 95 rfl rfl rfl (by simp) rfl
        have h96 : ac.tmps[96]? = some (.agg #[.int .u64 y0, .int .u64 y1]) := hk.has 4 _ 96 rfl rfl rfl (by simp) rfl
        refine wpOp_of rfl rfl ?_
        unfold Oper.wp
        simp [execOp, go_sem, h95, h96]
        refine (H3.out W).mono ?_
        rintro e w' ⟨rfl, hb⟩
        exact ⟨rfl, hb⟩
      · refine stepG_plain rfl rfl fun g ac W hK hk => ?_
        have h20 : ac.tmps[20]? = some (.bool ok) := hk.keep 20 rfl
        refine wpOp_of rfl rfl ?_
        unfold Oper.wp
        simp [execOp, go_sem, h20]
        first | exact ⟨rfl, Below.refl _ _⟩ | exact Below.refl _ _
      · refine stepG_store (by rfl) 0 _ rfl rfl rfl (by rfl) fun g ac W K hK hk hold hz hgo => ?_
        have h10 : ac.tmps[10]? = some (.pointer (some ⟨w.heap.size + 1, 0, none⟩)) := hk.keep 10 rfl
        have h94 : ac.tmps[94]? = some (.agg #[.int .u64 s0, .int .u64 s1]) := hk.has 2 _ 94 rfl rfl rfl (by simp) rfl
        have hg : g 0 = w.heap.size + 1 := hold rfl
        rw [hg] at hz hgo
        have z0 : (W).heap[w.heap.size + 1]? = some (.cells #[.int .u64 0, .int .u64 0] 40 (0, 0)) := hz
        have c0_0 : (W).cell? ⟨w.heap.size + 1, 0, none⟩ = some (.int .u64 0) := by rw [Lib.cell_of_heap z0]; rfl
        have f0 := Lib.frozen_of_heap z0 0
        have z1 : ((W).setCell ⟨w.heap.size + 1, 0, none⟩ (.int .u64 s0)).heap[w.heap.size + 1]? = some (.cells #[.int .u64 s0, .int .u64 0] 40 (0, 0)) := setCell_heap z0 0 _
        have c1_1 : ((W).setCell ⟨w.heap.size + 1, 0, none⟩ (.int .u64 s0)).cell? ⟨w.heap.size + 1, 1, none⟩ = some (.int .u64 0) := by rw [Lib.cell_of_heap z1]; rfl
        have f1 := Lib.frozen_of_heap z1 1
        refine wpOp_of rfl rfl ?_
        unfold Oper.wp
        simp [execOp, go_sem, h10, h94, c0_0, f0, c1_1, f1]
        exact hgo _ (((OnlyB.refl _ _).set 0 _).set 1 _) (setCell_heap z1 1 _)
      · refine stepG_store (by rfl) 1 _ rfl rfl rfl (by rfl) fun g ac W K hK hk hold hz hgo => ?_
        have h11 : ac.tmps[11]? = some (.pointer (some ⟨w.heap.size + 2, 0, none⟩)) := hk.keep 11 rfl
        have h97 : ac.tmps[97]? = some (.agg #[.int .u64 r0, .int .u64 r1]) := hk.has 5 _ 97 rfl rfl rfl (by simp) rfl
        have hg : g 1 = w.heap.size + 2 := hold rfl
        rw [hg] at hz hgo
        have z0 : (W).heap[w.heap.size + 2]? = some (.cells #[.int .u64 0, .int .u64 0] 40 (0, 0)) := hz
        have c0_0 : (W).cell? ⟨w.heap.size + 2, 0, none⟩ = some (.int .u64 0) := by rw [Lib.cell_of_heap z0]; rfl
        have f0 := Lib.frozen_of_heap z0 0
        have z1 : ((W).setCell ⟨w.heap.size + 2, 0, none⟩ (.int .u64 r0)).heap[w.heap.size + 2]? = some (.cells #[.int .u64 r0, .int .u64 0] 40 (0, 0)) := setCell_heap z0 0 _
        have c1_1 : ((W).setCell ⟨w.heap.size + 2, 0, none⟩ (.int .u64 r0)).cell? ⟨w.heap.size + 2, 1, none⟩ = some (.int .u64 0) := by rw [Lib.cell_of_heap z1]; rfl
        have f1 := Lib.frozen_of_heap z1 1
        refine wpOp_of rfl rfl ?_
        unfold Oper.wp
        simp [execOp, go_sem, h11, h97, c0_0, f0, c1_1, f1]
        exact hgo _ (((OnlyB.refl _ _).set 0 _).set 1 _) (setCell_heap z1 1 _)
      · refine stepG_plain rfl rfl fun g ac W hK hk => ?_
        have h98 : ac.tmps[98]? = some (.bool ok) := hk.has 6 _ 98 rfl rfl rfl (by simp) rfl
        refine wpOp_of rfl rfl ?_
        unfold Oper.wp
        simp [execOp, go_sem, h98]
        first | exact ⟨rfl, Below.refl _ _⟩ | exact Below.refl _ _
    · intro g W hK hsz hB hd
      obtain ⟨hr, hg0, -⟩ := hB 0 _ rfl
      have hg0 : g 0 = w.heap.size + 1 := hg0 rfl
      have hr : W.heap[g 0]? = some (.cells #[.int .u64 s0, .int .u64 s1] 40 (0, 0)) := hr
      rw [hg0] at hr
      obtain ⟨hr2, hg1, -⟩ := hB 1 _ rfl
      have hg1 : g 1 = w.heap.size + 2 := hg1 rfl
      have hr2 : W.heap[g 1]? = some (.cells #[.int .u64 r0, .int .u64 r1] 40 (0, 0)) := hr2
      rw [hg1] at hr2
      simp [frameOf, Act.put, valG, List.findIdx?_cons]
      have HW := Lib.hid hK.1
      have c0 : W.cell? ⟨w.heap.size + 1, 0, none⟩ = some (.int .u64 s0) := by rw [Lib.cell_of_heap hr]; rfl
      have c1 : W.cell? ⟨w.heap.size + 1, 1, none⟩ = some (.int .u64 s1) := by rw [Lib.cell_of_heap hr]; rfl
      have c2 : W.cell? ⟨w.heap.size + 2, 0, none⟩ = some (.int .u64 r0) := by rw [Lib.cell_of_heap hr2]; rfl
      have c3 : W.cell? ⟨w.heap.size + 2, 1, none⟩ = some (.int .u64 r1) := by rw [Lib.cell_of_heap hr2]; rfl
      clear hK hB hd hr hr2 hg0 hg1 hsz
      go_wp2
      exact bodyPost_ret (v := .tuple #[.agg #[.int .u64 s0, .int .u64 s1], .agg #[.int .u64 r0, .int .u64 r1], .bool ok]) (by simp [results, Try.results47, go_sem, c0, c1, c2, c3]) rfl ⟨rfl, HW.out⟩
    
end Go.Proofs.Ytfheflihofafdaa
