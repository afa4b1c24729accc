/- ledger.result, at this translation. -/
import Derived.Test.YtfheflihofafdaaGrow
import Derived.Test.YtfheflihofafdaaRgBox
namespace Go.Proofs.Ytfheflihofafdaa
open Go.RowKit Go.Great Pt Tr
attribute [local go_sem] eq_arr

set_option maxRecDepth 100000 in
set_option maxHeartbeats 8000000 in
theorem res_less (m k b off cap len : Nat) (n : Int) (o0 o1 p0 p1 x0 x1 y0 y1 s0 s1 : Int) (wh ok : Bool) (hk : leftN m = k) (hm : 2 ≤ m) (hm2 : m ≤ 10000) (hnm : n < (m : Int)) (hnk : n ≤ (k : Int)) (hlc : len + 1 ≤ cap) (hcm : cap ≤ maxLen) (w : World)
    (e0 : w.cell? ⟨b, off + len * 2, none⟩ = some (.int .u64 p0)) (e1 : w.cell? ⟨b, off + len * 2 + 1, none⟩ = some (.int .u64 p1)) (hb : b < w.heap.size)
    (h1 : ∀ W, Below w.heap.size w W → Calls Try.prog 46 #[.int .i64 n, .int .i64 k, .agg #[.int .u64 o0, .int .u64 o1], .slice (some ⟨b, off, none⟩) len cap, .bool wh] W fun e w' => e = .returned (.tuple #[.agg #[.int .u64 x0, .int .u64 x1, .int .u64 y0, .int .u64 y1], .bool ok]) ∧ Below W.heap.size W w')
    (h2 : ∀ W, Calls Try.prog 60 #[.agg #[.int .u64 y0, .int .u64 y1], .agg #[.int .u64 p0, .int .u64 p1]] W fun e w' => e = .returned (.agg #[.int .u64 s0, .int .u64 s1]) ∧ Below W.heap.size W w') :
    Calls Try.prog 46 #[.int .i64 n, .int .i64 m, .agg #[.int .u64 o0, .int .u64 o1], .slice (some ⟨b, off, none⟩) (len + 1) cap, .bool wh] w fun e w' => e = .returned (.tuple #[.agg #[.int .u64 x0, .int .u64 x1, .int .u64 s0, .int .u64 s1], .bool ok]) ∧ Below w.heap.size w w' := by
  have H1 := Lib.hid h1
  have H2 := Lib.hid h2
  have HK := Lib.hid hk
  clear h1 h2 hk
  unfold maxLen at hcm
  have t1 : (n == (m : Int)) = false := by simp; omega
  have t2 : (((len + 1 : Nat) : Int) == 0) = false := by simp; omega
  go_enter Try.func46, Try.ntmps46
  go_wp2_with fail
  have hw1 : IntKind.i64.wrap ((len : Int)) = (len : Int) := IntWalk.i64_in _ (by omega)
  have hx0 : ((w.alloc (.cells #[.int .u64 o0, .int .u64 o1] 40)).alloc (.cells #[.int .u64 0, .int .u64 0, .int .u64 0, .int .u64 0] 63)).heap[w.heap.size]? = some (.cells #[.int .u64 o0, .int .u64 o1] 40 (0, 0)) := (Below.heap_alloc _ _ _ (by simp)).trans (World.alloc_heap_new _ _)
  have hx1 : ((w.alloc (.cells #[.int .u64 o0, .int .u64 o1] 40)).alloc (.cells #[.int .u64 0, .int .u64 0, .int .u64 0, .int .u64 0] 63)).heap[w.heap.size + 1]? = some (.cells #[.int .u64 0, .int .u64 0, .int .u64 0, .int .u64 0] 63 (0, 0)) := by
    have := World.alloc_heap_new (w.alloc (.cells #[.int .u64 o0, .int .u64 o1] 40)) (.cells #[.int .u64 0, .int .u64 0, .int .u64 0, .int .u64 0] 63)
    rw [World.size_alloc] at this; exact this
  have below : Below (w.heap.size) w ((w.alloc (.cells #[.int .u64 o0, .int .u64 o1] 40)).alloc (.cells #[.int .u64 0, .int .u64 0, .int .u64 0, .int .u64 0] 63)) := bla (bla (Below.refl _ _) _) _
  have HBW : Hid (w.heap.size ≤ ((w.alloc (.cells #[.int .u64 o0, .int .u64 o1] 40)).alloc (.cells #[.int .u64 0, .int .u64 0, .int .u64 0, .int .u64 0] 63)).heap.size) := Lib.hid below.size
  have HKEEP : Hid (Keep (w.heap.size) w [((w.heap.size, .cells #[.int .u64 o0, .int .u64 o1] 40) : Nat × Obj), ((w.heap.size + 1, .cells #[.int .u64 0, .int .u64 0, .int .u64 0, .int .u64 0] 63) : Nat × Obj)] ((w.alloc (.cells #[.int .u64 o0, .int .u64 o1] 40)).alloc (.cells #[.int .u64 0, .int .u64 0, .int .u64 0, .int .u64 0] 63))) := Lib.hid ⟨below, by
    intro p hp
    simp only [List.mem_cons, List.not_mem_nil, or_false] at hp
    rcases hp with rfl | rfl
    · exact hx0
    · exact hx1⟩
  have HOLD0 : Hid (∀ b ∈ [(⟨some 13, some 15, 0, #[.int .u64 0, .int .u64 0], #[.int .u64 p0, .int .u64 p1], 40⟩ : RBox)], b.al = none → ((w.alloc (.cells #[.int .u64 o0, .int .u64 o1] 40)).alloc (.cells #[.int .u64 0, .int .u64 0, .int .u64 0, .int .u64 0] 63)).heap[b.blk]? = some (.cells b.z b.T (0, 0)) ∧ w.heap.size ≤ b.blk ∧ ∀ p ∈ [((w.heap.size, .cells #[.int .u64 o0, .int .u64 o1] 40) : Nat × Obj), ((w.heap.size + 1, .cells #[.int .u64 0, .int .u64 0, .int .u64 0, .int .u64 0] 63) : Nat × Obj)], p.1 ≠ b.blk) := Lib.hid (by
    intro b hb
    simp only [List.mem_cons, List.not_mem_nil, or_false] at hb
    subst hb
    intro h; cases h)
  clear below
  refine wp_region_box (w.heap.size) w [(w.heap.size, .cells #[.int .u64 o0, .int .u64 o1] 40), (w.heap.size + 1, .cells #[.int .u64 0, .int .u64 0, .int .u64 0, .int .u64 0] 63)] [⟨some 13, some 15, 0, #[.int .u64 0, .int .u64 0], #[.int .u64 p0, .int .u64 p1], 40⟩] (fun i => ([(.int .i64 m), (.int .i64 k), (.slice (some ⟨b, off, none⟩) (len + 1) cap), (.slice (some ⟨b, off, none⟩) (len + 1) cap), (.int .i64 ((len : Int) + 1)), (.int .i64 (len : Int)), (.pointer (some ⟨b, off + len * 2, none⟩)), (.agg #[.int .u64 p0, .int .u64 p1]), (.slice (some ⟨b, off, none⟩) (len + 1) cap), (.slice (some ⟨b, off, none⟩) (len + 1) cap), (.int .i64 ((len : Int) + 1)), (.int .i64 (len : Int)), (.slice (some ⟨b, off, none⟩) len cap), (undef), (.int .i64 k), (undef), (.slice (some ⟨b, off, none⟩) len cap)] : List Value).getD i undef) (by kernel_rfl) (by kernel_rfl) (by kernel_rfl) (by rfl) (by simp) (by rfl) HBW.out HKEEP.out HOLD0.out ?_ ?_
  · refine ⟨?_, ?_, ?_, ?_, ?_, ?_, ?_, ?_, ?_, ?_, ?_, ?_, ?_, ?_, ?_, ?_, ?_, trivial⟩
    · refine stepG_plain rfl rfl fun g ac W hK hk => ?_
      have h1 : ac.tmps[1]? = some (.int .i64 m) := hk.keep 1 rfl
      refine wpOp_of rfl rfl ?_
      unfold Oper.wp
      simp [execOp, go_sem, h1]
      first | exact ⟨rfl, Below.refl _ _⟩ | exact Below.refl _ _
    · refine stepG_plain rfl rfl fun g ac W hK hk => ?_
      have h44 : ac.tmps[44]? = some (.int .i64 m) := hk.has 0 _ 44 rfl rfl rfl (by simp) rfl
      refine wpOp_of rfl rfl ?_
      unfold Oper.wp
      simp [execOp, go_sem, h44]
      refine (ledHalf_any m hm (by omega) W).mono ?_
      rintro e w' ⟨rfl, rfl⟩
      exact ⟨by rw [HK.out], Below.refl _ _⟩
    · refine stepG_plain rfl rfl fun g ac W hK hk => ?_
      have h3 : ac.tmps[3]? = some (.slice (some ⟨b, off, none⟩) (len + 1) cap) := hk.keep 3 rfl
      refine wpOp_of rfl rfl ?_
      unfold Oper.wp
      simp [execOp, go_sem, h3]
      first | exact ⟨rfl, Below.refl _ _⟩ | exact Below.refl _ _
    · refine stepG_plain rfl rfl fun g ac W hK hk => ?_
      have h3 : ac.tmps[3]? = some (.slice (some ⟨b, off, none⟩) (len + 1) cap) := hk.keep 3 rfl
      refine wpOp_of rfl rfl ?_
      unfold Oper.wp
      simp [execOp, go_sem, h3]
      first | exact ⟨rfl, Below.refl _ _⟩ | exact Below.refl _ _
    · refine stepG_plain rfl rfl fun g ac W hK hk => ?_
      have h47 : ac.tmps[47]? = some (.slice (some ⟨b, off, none⟩) (len + 1) cap) := hk.has 3 _ 47 rfl rfl rfl (by simp) rfl
      refine wpOp_of rfl rfl ?_
      unfold Oper.wp
      simp [execOp, go_sem, h47]
      first | exact ⟨rfl, Below.refl _ _⟩ | exact Below.refl _ _
    · refine stepG_plain rfl rfl fun g ac W hK hk => ?_
      have h48 : ac.tmps[48]? = some (.int .i64 ((len : Int) + 1)) := hk.has 4 _ 48 rfl rfl rfl (by simp) rfl
      refine wpOp_of rfl rfl ?_
      unfold Oper.wp
      simp [execOp, go_sem, h48, hw1]
      first | exact ⟨rfl, Below.refl _ _⟩ | exact Below.refl _ _
    · refine stepG_plain rfl rfl fun g ac W hK hk => ?_
      have h46 : ac.tmps[46]? = some (.slice (some ⟨b, off, none⟩) (len + 1) cap) := hk.has 2 _ 46 rfl rfl rfl (by simp) rfl
      have h49 : ac.tmps[49]? = some (.int .i64 (len : Int)) := hk.has 5 _ 49 rfl rfl rfl (by simp) rfl
      have z3 : (len : Int) < (len : Int) + 1 := by omega
      refine wpOp_of rfl rfl ?_
      unfold Oper.wp
      simp [execOp, go_sem, h46, h49, z3]
      first | exact ⟨rfl, Below.refl _ _⟩ | exact Below.refl _ _
    · refine stepG_plain rfl rfl fun g ac W hK hk => ?_
      have h50 : ac.tmps[50]? = some (.pointer (some ⟨b, off + len * 2, none⟩)) := hk.has 6 _ 50 rfl rfl rfl (by simp) rfl
      have q0 := (hK.1.cell (p := ⟨b, off + len * 2, none⟩) hb).trans e0
      have q1 := (hK.1.cell (p := ⟨b, off + len * 2 + 1, none⟩) hb).trans e1
      refine wpOp_of rfl rfl ?_
      unfold Oper.wp
      simp [execOp, go_sem, h50, q0, q1]
      first | exact ⟨rfl, Below.refl _ _⟩ | exact Below.refl _ _
    · refine stepG_plain rfl rfl fun g ac W hK hk => ?_
      have h3 : ac.tmps[3]? = some (.slice (some ⟨b, off, none⟩) (len + 1) cap) := hk.keep 3 rfl
      refine wpOp_of rfl rfl ?_
      unfold Oper.wp
      simp [execOp, go_sem, h3]
      first | exact ⟨rfl, Below.refl _ _⟩ | exact Below.refl _ _
    · refine stepG_plain rfl rfl fun g ac W hK hk => ?_
      have h3 : ac.tmps[3]? = some (.slice (some ⟨b, off, none⟩) (len + 1) cap) := hk.keep 3 rfl
      refine wpOp_of rfl rfl ?_
      unfold Oper.wp
      simp [execOp, go_sem, h3]
      first | exact ⟨rfl, Below.refl _ _⟩ | exact Below.refl _ _
    · refine stepG_plain rfl rfl fun g ac W hK hk => ?_
      have h53 : ac.tmps[53]? = some (.slice (some ⟨b, off, none⟩) (len + 1) cap) := hk.has 9 _ 53 rfl rfl rfl (by simp) rfl
      refine wpOp_of rfl rfl ?_
      unfold Oper.wp
      simp [execOp, go_sem, h53]
      first | exact ⟨rfl, Below.refl _ _⟩ | exact Below.refl _ _
    · refine stepG_plain rfl rfl fun g ac W hK hk => ?_
      have h54 : ac.tmps[54]? = some (.int .i64 ((len : Int) + 1)) := hk.has 10 _ 54 rfl rfl rfl (by simp) rfl
      refine wpOp_of rfl rfl ?_
      unfold Oper.wp
      simp [execOp, go_sem, h54, hw1]
      first | exact ⟨rfl, Below.refl _ _⟩ | exact Below.refl _ _
    · refine stepG_plain rfl rfl fun g ac W hK hk => ?_
      have h52 : ac.tmps[52]? = some (.slice (some ⟨b, off, none⟩) (len + 1) cap) := hk.has 8 _ 52 rfl rfl rfl (by simp) rfl
      have h55 : ac.tmps[55]? = some (.int .i64 (len : Int)) := hk.has 11 _ 55 rfl rfl rfl (by simp) rfl
      have z1 : (0 : Int) ≤ (len : Int) := by omega
      have z2 : (len : Int) ≤ (cap : Int) := by omega
      refine wpOp_of rfl rfl ?_
      unfold Oper.wp
      simp [execOp, go_sem, h52, h55, z1, z2]
      first | exact ⟨rfl, Below.refl _ _⟩ | exact Below.refl _ _
    · exact stepG_alloc (by rfl) 0 _ rfl rfl fun a W K h => wpOp_of rfl rfl (by unfold Oper.wp; simp [execOp, go_sem]; exact h)
    · refine stepG_plain rfl rfl fun g ac W hK hk => ?_
      have h45 : ac.tmps[45]? = some (.int .i64 k) := hk.has 1 _ 45 rfl rfl rfl (by simp) rfl
      refine wpOp_of rfl rfl ?_
      unfold Oper.wp
      simp [execOp, go_sem, h45]
      first | exact ⟨rfl, Below.refl _ _⟩ | exact Below.refl _ _
    · refine stepG_store (by rfl) 0 _ rfl rfl rfl (by rfl) fun g ac W K hK hk hold hz hgo => ?_
      have h13 := hk.ptr 0 _ 13 _ 13 rfl rfl rfl rfl rfl (by simp)
      have h51 : ac.tmps[51]? = some (.agg #[.int .u64 p0, .int .u64 p1]) := hk.has 7 _ 51 rfl rfl rfl (by simp) rfl
      have z0 : (W).heap[g 0]? = some (.cells #[.int .u64 0, .int .u64 0] 40 (0, 0)) := hz
      have c0_0 : (W).cell? ⟨g 0, 0, none⟩ = some (.int .u64 0) := by rw [Lib.cell_of_heap z0]; rfl
      have f0 := Lib.frozen_of_heap z0 0
      have z1 : ((W).setCell ⟨g 0, 0, none⟩ (.int .u64 p0)).heap[g 0]? = some (.cells #[.int .u64 p0, .int .u64 0] 40 (0, 0)) := setCell_heap z0 0 _
      have c1_1 : ((W).setCell ⟨g 0, 0, none⟩ (.int .u64 p0)).cell? ⟨g 0, 1, none⟩ = some (.int .u64 0) := by rw [Lib.cell_of_heap z1]; rfl
      have f1 := Lib.frozen_of_heap z1 1
      refine wpOp_of rfl rfl ?_
      unfold Oper.wp
      simp [execOp, go_sem, h13, h51, c0_0, f0, c1_1, f1]
      exact hgo _ (((OnlyB.refl _ _).set 0 _).set 1 _) (setCell_heap z1 1 _)
    · refine stepG_plain rfl rfl fun g ac W hK hk => ?_
      have h56 : ac.tmps[56]? = some (.slice (some ⟨b, off, none⟩) len cap) := hk.has 12 _ 56 rfl rfl rfl (by simp) rfl
      refine wpOp_of rfl rfl ?_
      unfold Oper.wp
      simp [execOp, go_sem, h56]
      first | exact ⟨rfl, Below.refl _ _⟩ | exact Below.refl _ _
  · intro g W hK hsz hB hd
    obtain ⟨hg, -, hgn⟩ := hB 0 _ rfl
    have hgn := hgn (by simp)
    rw [World.size_alloc, World.size_alloc] at hgn
    simp [frameOf, Act.put, valG, List.findIdx?_cons]
    have hg : W.heap[g 0]? = some (.cells #[.int .u64 p0, .int .u64 p1] 40 (0, 0)) := hg
    generalize g 0 = G at *
    have hk0 : W.heap[w.heap.size]? = some (.cells #[.int .u64 o0, .int .u64 o1] 40 (0, 0)) := hK.get 0 rfl
    have hk1 : W.heap[w.heap.size + 1]? = some (.cells #[.int .u64 0, .int .u64 0, .int .u64 0, .int .u64 0] 63 (0, 0)) := hK.get 1 rfl
    have HW := Lib.hid hK.1
    have HG := Lib.hid hg
    have HK1 := Lib.hid hk1
    have c0 : W.cell? ⟨w.heap.size, 0, none⟩ = some (.int .u64 o0) := by rw [Lib.cell_of_heap hk0]; rfl
    have c1 : W.cell? ⟨w.heap.size, 1, none⟩ = some (.int .u64 o1) := by rw [Lib.cell_of_heap hk0]; rfl
    clear hK hB hd hg hk0 hk1 hx0 hx1 HBW HKEEP HOLD0 hsz
    go_wp2_with fail
    ((with_reducible refine (H1.out _ HW.out).mono ?_); rintro e w5 ⟨rfl, hb5⟩)
    clear c0 c1
    have HB5 : Hid (Below w.heap.size w (w5.alloc (.cells #[.int .u64 x0, .int .u64 x1, .int .u64 y0, .int .u64 y1] 63))) := Lib.hid (bla (bl HW.out hb5) _)
    have HG5 : Hid ((w5.alloc (.cells #[.int .u64 x0, .int .u64 x1, .int .u64 y0, .int .u64 y1] 63)).heap[G]? = some (.cells #[.int .u64 p0, .int .u64 p1] 40 (0, 0))) := Lib.hid (((bla hb5 _).block _ (lt_of_block HG.out)).trans HG.out)
    have HR5 : Hid ((w5.alloc (.cells #[.int .u64 x0, .int .u64 x1, .int .u64 y0, .int .u64 y1] 63)).heap[w.heap.size + 1]? = some (.cells #[.int .u64 0, .int .u64 0, .int .u64 0, .int .u64 0] 63 (0, 0))) := Lib.hid (((bla hb5 _).block _ (lt_of_block HK1.out)).trans HK1.out)
    have HX5 : Hid ((w5.alloc (.cells #[.int .u64 x0, .int .u64 x1, .int .u64 y0, .int .u64 y1] 63)).heap[w5.heap.size]? = some (.cells #[.int .u64 x0, .int .u64 x1, .int .u64 y0, .int .u64 y1] 63 (0, 0))) := Lib.hid (World.alloc_heap_new _ _)
    have hlt5 : w.heap.size + 1 < w5.heap.size := Nat.lt_of_lt_of_le (lt_of_block HK1.out) hb5.size
    go_wp2_with fail
    have below : Below (w.heap.size) w (w5.alloc (.cells #[.int .u64 x0, .int .u64 x1, .int .u64 y0, .int .u64 y1] 63)) := HB5.out
    have HBW : Hid (w.heap.size ≤ (w5.alloc (.cells #[.int .u64 x0, .int .u64 x1, .int .u64 y0, .int .u64 y1] 63)).heap.size) := Lib.hid below.size
    have HKEEP : Hid (Keep (w.heap.size) w [((w5.heap.size, .cells #[.int .u64 x0, .int .u64 x1, .int .u64 y0, .int .u64 y1] 63) : Nat × Obj), ((G, .cells #[.int .u64 p0, .int .u64 p1] 40) : Nat × Obj)] (w5.alloc (.cells #[.int .u64 x0, .int .u64 x1, .int .u64 y0, .int .u64 y1] 63))) := Lib.hid ⟨below, by
      intro p hp
      simp only [List.mem_cons, List.not_mem_nil, or_false] at hp
      rcases hp with rfl | rfl
      · exact HX5.out
      · exact HG5.out⟩
    have HOLD0 : Hid (∀ b ∈ [(⟨none, some 8, w.heap.size + 1, #[.int .u64 0, .int .u64 0, .int .u64 0, .int .u64 0], #[.int .u64 x0, .int .u64 x1, .int .u64 s0, .int .u64 s1], 63⟩ : RBox)], b.al = none → (w5.alloc (.cells #[.int .u64 x0, .int .u64 x1, .int .u64 y0, .int .u64 y1] 63)).heap[b.blk]? = some (.cells b.z b.T (0, 0)) ∧ w.heap.size ≤ b.blk ∧ ∀ p ∈ [((w5.heap.size, .cells #[.int .u64 x0, .int .u64 x1, .int .u64 y0, .int .u64 y1] 63) : Nat × Obj), ((G, .cells #[.int .u64 p0, .int .u64 p1] 40) : Nat × Obj)], p.1 ≠ b.blk) := Lib.hid (by
      intro b hb
      simp only [List.mem_cons, List.not_mem_nil, or_false] at hb
      subst hb
      intro _
      refine ⟨HR5.out, (by show w.heap.size ≤ w.heap.size + 1; omega), fun p hp => ?_⟩
      simp only [List.mem_cons, List.not_mem_nil, or_false] at hp
      rcases hp with rfl | rfl
      · show w5.heap.size ≠ w.heap.size + 1
        omega
      · show G ≠ w.heap.size + 1
        omega)
    clear below
    refine wp_region_box (w.heap.size) w [(w5.heap.size, .cells #[.int .u64 x0, .int .u64 x1, .int .u64 y0, .int .u64 y1] 63), (G, .cells #[.int .u64 p0, .int .u64 p1] 40)] [⟨none, some 8, w.heap.size + 1, #[.int .u64 0, .int .u64 0, .int .u64 0, .int .u64 0], #[.int .u64 x0, .int .u64 x1, .int .u64 s0, .int .u64 s1], 63⟩] (fun i => ([(.pointer (some ⟨w5.heap.size, 0, none⟩)), (.agg #[.int .u64 x0, .int .u64 x1]), (.pointer (some ⟨w5.heap.size, 2, none⟩)), (.agg #[.int .u64 y0, .int .u64 y1]), (.agg #[.int .u64 p0, .int .u64 p1]), (.agg #[.int .u64 s0, .int .u64 s1]), (.agg #[.int .u64 x0, .int .u64 x1, .int .u64 s0, .int .u64 s1]), (.bool ok), (undef), (.bool ok)] : List Value).getD i undef) (by kernel_rfl) (by kernel_rfl) (by kernel_rfl) (by rfl) (by simp) (by rfl) HBW.out HKEEP.out HOLD0.out ?_ ?_
    · refine ⟨?_, ?_, ?_, ?_, ?_, ?_, ?_, ?_, ?_, ?_, trivial⟩
      · refine stepG_plain rfl rfl fun g ac W hK hk => ?_
        have h15 : ac.tmps[15]? = some (.pointer (some ⟨w5.heap.size, 0, none⟩)) := hk.keep 15 rfl
        refine wpOp_of rfl rfl ?_
        unfold Oper.wp
        simp [execOp, go_sem, h15]
        first | exact ⟨rfl, Below.refl _ _⟩ | exact Below.refl _ _
      · refine stepG_plain rfl rfl fun g ac W hK hk => ?_
        have h69 : ac.tmps[69]? = some (.pointer (some ⟨w5.heap.size, 0, none⟩)) := hk.has 0 _ 69 rfl rfl rfl (by simp) rfl
        have mxq := hK.get 0 rfl
        have q0 : W.cell? ⟨w5.heap.size, 0, none⟩ = some (.int .u64 x0) := by rw [Lib.cell_of_heap mxq]; rfl
        have q1 : W.cell? ⟨w5.heap.size, 1, none⟩ = some (.int .u64 x1) := by rw [Lib.cell_of_heap mxq]; rfl
        refine wpOp_of rfl rfl ?_
        unfold Oper.wp
        simp [execOp, go_sem, h69, q0, q1]
        first | exact ⟨rfl, Below.refl _ _⟩ | exact Below.refl _ _
      · refine stepG_plain rfl rfl fun g ac W hK hk => ?_
        have h15 : ac.tmps[15]? = some (.pointer (some ⟨w5.heap.size, 0, none⟩)) := hk.keep 15 rfl
        refine wpOp_of rfl rfl ?_
        unfold Oper.wp
        simp [execOp, go_sem, h15]
        first | exact ⟨rfl, Below.refl _ _⟩ | exact Below.refl _ _
      · refine stepG_plain rfl rfl fun g ac W hK hk => ?_
        have h71 : ac.tmps[71]? = some (.pointer (some ⟨w5.heap.size, 2, none⟩)) := hk.has 2 _ 71 rfl rfl rfl (by simp) rfl
        have mxq := hK.get 0 rfl
        have q2 : W.cell? ⟨w5.heap.size, 2, none⟩ = some (.int .u64 y0) := by rw [Lib.cell_of_heap mxq]; rfl
        have q3 : W.cell? ⟨w5.heap.size, 3, none⟩ = some (.int .u64 y1) := by rw [Lib.cell_of_heap mxq]; rfl
        refine wpOp_of rfl rfl ?_
        unfold Oper.wp
        simp [execOp, go_sem, h71, q2, q3]
        first | exact ⟨rfl, Below.refl _ _⟩ | exact Below.refl _ _
      · refine stepG_plain rfl rfl fun g ac W hK hk => ?_
        have h13 : ac.tmps[13]? = some (.pointer (some ⟨G, 0, none⟩)) := hk.keep 13 rfl
        have mxq := hK.get 1 rfl
        have q0 : W.cell? ⟨G, 0, none⟩ = some (.int .u64 p0) := by rw [Lib.cell_of_heap mxq]; rfl
        have q1 : W.cell? ⟨G, 1, none⟩ = some (.int .u64 p1) := by rw [Lib.cell_of_heap mxq]; rfl
        refine wpOp_of rfl rfl ?_
        unfold Oper.wp
        simp [execOp, go_sem, h13, q0, q1]
        first | exact ⟨rfl, Below.refl _ _⟩ | exact Below.refl _ _
      · refine stepG_plain rfl rfl fun g ac W hK hk => ?_
        have h72 : ac.tmps[72]? = some (.agg #[.int .u64 y0, .int .u64 y1]) := hk.has 3 _ 72 rfl rfl rfl (by simp) rfl
        have h73 : ac.tmps[73]? = some (.agg #[.int .u64 p0, .int .u64 p1]) := hk.has 4 _ 73 rfl rfl rfl (by simp) rfl
        refine wpOp_of rfl rfl ?_
        unfold Oper.wp
        simp [execOp, go_sem, h72, h73]
        refine (H2.out W).mono ?_
        rintro e w' ⟨rfl, hb⟩
        exact ⟨rfl, hb⟩
      · refine stepG_plain rfl rfl fun g ac W hK hk => ?_
        have h70 : ac.tmps[70]? = some (.agg #[.int .u64 x0, .int .u64 x1]) := hk.has 1 _ 70 rfl rfl rfl (by simp) rfl
        have h74 : ac.tmps[74]? = some (.agg #[.int .u64 s0, .int .u64 s1]) := hk.has 5 _ 74 rfl rfl rfl (by simp) rfl
        refine wpOp_of rfl rfl ?_
        unfold Oper.wp
        simp [execOp, go_sem, h70, h74]
        first | exact ⟨rfl, Below.refl _ _⟩ | exact Below.refl _ _
      · refine stepG_plain rfl rfl fun g ac W hK hk => ?_
        have h16 : ac.tmps[16]? = some (.bool ok) := hk.keep 16 rfl
        refine wpOp_of rfl rfl ?_
        unfold Oper.wp
        simp [execOp, go_sem, h16]
        first | exact ⟨rfl, Below.refl _ _⟩ | exact Below.refl _ _
      · refine stepG_store (by rfl) 0 _ rfl rfl rfl (by rfl) fun g ac W K hK hk hold hz hgo => ?_
        have h10 : ac.tmps[10]? = some (.pointer (some ⟨w.heap.size + 1, 0, none⟩)) := hk.keep 10 rfl
        have h75 : ac.tmps[75]? = some (.agg #[.int .u64 x0, .int .u64 x1, .int .u64 s0, .int .u64 s1]) := hk.has 6 _ 75 rfl rfl rfl (by simp) rfl
        have hg : g 0 = w.heap.size + 1 := hold rfl
        rw [hg] at hz hgo
        have z0 : (W).heap[w.heap.size + 1]? = some (.cells #[.int .u64 0, .int .u64 0, .int .u64 0, .int .u64 0] 63 (0, 0)) := hz
        have c0_0 : (W).cell? ⟨w.heap.size + 1, 0, none⟩ = some (.int .u64 0) := by rw [Lib.cell_of_heap z0]; rfl
        have f0 := Lib.frozen_of_heap z0 0
        have z1 : ((W).setCell ⟨w.heap.size + 1, 0, none⟩ (.int .u64 x0)).heap[w.heap.size + 1]? = some (.cells #[.int .u64 x0, .int .u64 0, .int .u64 0, .int .u64 0] 63 (0, 0)) := setCell_heap z0 0 _
        have c1_1 : ((W).setCell ⟨w.heap.size + 1, 0, none⟩ (.int .u64 x0)).cell? ⟨w.heap.size + 1, 1, none⟩ = some (.int .u64 0) := by rw [Lib.cell_of_heap z1]; rfl
        have f1 := Lib.frozen_of_heap z1 1
        have z2 : (((W).setCell ⟨w.heap.size + 1, 0, none⟩ (.int .u64 x0)).setCell ⟨w.heap.size + 1, 1, none⟩ (.int .u64 x1)).heap[w.heap.size + 1]? = some (.cells #[.int .u64 x0, .int .u64 x1, .int .u64 0, .int .u64 0] 63 (0, 0)) := setCell_heap z1 1 _
        have c2_2 : (((W).setCell ⟨w.heap.size + 1, 0, none⟩ (.int .u64 x0)).setCell ⟨w.heap.size + 1, 1, none⟩ (.int .u64 x1)).cell? ⟨w.heap.size + 1, 2, none⟩ = some (.int .u64 0) := by rw [Lib.cell_of_heap z2]; rfl
        have f2 := Lib.frozen_of_heap z2 2
        have z3 : ((((W).setCell ⟨w.heap.size + 1, 0, none⟩ (.int .u64 x0)).setCell ⟨w.heap.size + 1, 1, none⟩ (.int .u64 x1)).setCell ⟨w.heap.size + 1, 2, none⟩ (.int .u64 s0)).heap[w.heap.size + 1]? = some (.cells #[.int .u64 x0, .int .u64 x1, .int .u64 s0, .int .u64 0] 63 (0, 0)) := setCell_heap z2 2 _
        have c3_3 : ((((W).setCell ⟨w.heap.size + 1, 0, none⟩ (.int .u64 x0)).setCell ⟨w.heap.size + 1, 1, none⟩ (.int .u64 x1)).setCell ⟨w.heap.size + 1, 2, none⟩ (.int .u64 s0)).cell? ⟨w.heap.size + 1, 3, none⟩ = some (.int .u64 0) := by rw [Lib.cell_of_heap z3]; rfl
        have f3 := Lib.frozen_of_heap z3 3
        refine wpOp_of rfl rfl ?_
        unfold Oper.wp
        simp [execOp, go_sem, h10, h75, c0_0, f0, c1_1, f1, c2_2, f2, c3_3, f3]
        exact hgo _ (((((OnlyB.refl _ _).set 0 _).set 1 _).set 2 _).set 3 _) (setCell_heap z3 3 _)
      · refine stepG_plain rfl rfl fun g ac W hK hk => ?_
        have h76 : ac.tmps[76]? = some (.bool ok) := hk.has 7 _ 76 rfl rfl rfl (by simp) rfl
        refine wpOp_of rfl rfl ?_
        unfold Oper.wp
        simp [execOp, go_sem, h76]
        first | exact ⟨rfl, Below.refl _ _⟩ | exact Below.refl _ _
    · intro g W hK hsz hB hd
      obtain ⟨hr, hg0, -⟩ := hB 0 _ rfl
      have hg0 : g 0 = w.heap.size + 1 := hg0 rfl
      have hr : W.heap[g 0]? = some (.cells #[.int .u64 x0, .int .u64 x1, .int .u64 s0, .int .u64 s1] 63 (0, 0)) := hr
      rw [hg0] at hr
      simp [frameOf, Act.put, valG, List.findIdx?_cons]
      have HW := Lib.hid hK.1
      have c0 : W.cell? ⟨w.heap.size + 1, 0, none⟩ = some (.int .u64 x0) := by rw [Lib.cell_of_heap hr]; rfl
      have c1 : W.cell? ⟨w.heap.size + 1, 1, none⟩ = some (.int .u64 x1) := by rw [Lib.cell_of_heap hr]; rfl
      have c2 : W.cell? ⟨w.heap.size + 1, 2, none⟩ = some (.int .u64 s0) := by rw [Lib.cell_of_heap hr]; rfl
      have c3 : W.cell? ⟨w.heap.size + 1, 3, none⟩ = some (.int .u64 s1) := by rw [Lib.cell_of_heap hr]; rfl
      clear hK hB hd hr hg0 hsz
      go_wp2
      exact bodyPost_ret (v := .tuple #[.agg #[.int .u64 x0, .int .u64 x1, .int .u64 s0, .int .u64 s1], .bool ok]) (by simp [results, Try.results46, go_sem, c0, c1, c2, c3]) rfl ⟨rfl, HW.out⟩
    
set_option maxRecDepth 100000 in
set_option maxHeartbeats 8000000 in
theorem res_more (m k b off cap len : Nat) (n : Int) (o0 o1 p0 p1 x0 x1 y0 y1 s0 s1 r0 r1 : Int) (wh ok : Bool) (hk : leftN m = k) (hkm : k < m) (hm : 2 ≤ m) (hm2 : m ≤ 10000) (hnm : n < (m : Int)) (hnk : (k : Int) < n) (hlc : len + 1 ≤ cap) (hcm : cap ≤ maxLen) (w : World)
    (e0 : w.cell? ⟨b, off + len * 2, none⟩ = some (.int .u64 p0)) (e1 : w.cell? ⟨b, off + len * 2 + 1, none⟩ = some (.int .u64 p1)) (hb : b < w.heap.size)
    (h1 : ∀ W, Below w.heap.size w W → Calls Try.prog 46 #[.int .i64 (n - (k : Int)), .int .i64 ((m : Int) - (k : Int)), .agg #[.int .u64 o0, .int .u64 o1], .slice (some ⟨b, off, none⟩) len cap, .bool false] W fun e w' => e = .returned (.tuple #[.agg #[.int .u64 x0, .int .u64 x1, .int .u64 y0, .int .u64 y1], .bool ok]) ∧ Below W.heap.size W w')
    (h2 : ∀ W, Calls Try.prog 60 #[.agg #[.int .u64 p0, .int .u64 p1], .agg #[.int .u64 x0, .int .u64 x1]] W fun e w' => e = .returned (.agg #[.int .u64 s0, .int .u64 s1]) ∧ Below W.heap.size W w')
    (h3 : ∀ W, Calls Try.prog 60 #[.agg #[.int .u64 p0, .int .u64 p1], .agg #[.int .u64 y0, .int .u64 y1]] W fun e w' => e = .returned (.agg #[.int .u64 r0, .int .u64 r1]) ∧ Below W.heap.size W w') :
    Calls Try.prog 46 #[.int .i64 n, .int .i64 m, .agg #[.int .u64 o0, .int .u64 o1], .slice (some ⟨b, off, none⟩) (len + 1) cap, .bool wh] w fun e w' => e = .returned (.tuple #[.agg #[.int .u64 s0, .int .u64 s1, .int .u64 r0, .int .u64 r1], .bool ok]) ∧ Below w.heap.size w w' := by
  have H1 := Lib.hid h1
  have H2 := Lib.hid h2
  have H3 := Lib.hid h3
  have HK := Lib.hid hk
  clear h1 h2 hk h3
  unfold maxLen at hcm
  have t1 : (n == (m : Int)) = false := by simp; omega
  have t2 : (((len + 1 : Nat) : Int) == 0) = false := by simp; omega
  go_enter Try.func46, Try.ntmps46
  go_wp2_with fail
  have hw1 : IntKind.i64.wrap ((len : Int)) = (len : Int) := IntWalk.i64_in _ (by omega)
  have hx0 : ((w.alloc (.cells #[.int .u64 o0, .int .u64 o1] 40)).alloc (.cells #[.int .u64 0, .int .u64 0, .int .u64 0, .int .u64 0] 63)).heap[w.heap.size]? = some (.cells #[.int .u64 o0, .int .u64 o1] 40 (0, 0)) := (Below.heap_alloc _ _ _ (by simp)).trans (World.alloc_heap_new _ _)
  have hx1 : ((w.alloc (.cells #[.int .u64 o0, .int .u64 o1] 40)).alloc (.cells #[.int .u64 0, .int .u64 0, .int .u64 0, .int .u64 0] 63)).heap[w.heap.size + 1]? = some (.cells #[.int .u64 0, .int .u64 0, .int .u64 0, .int .u64 0] 63 (0, 0)) := by
    have := World.alloc_heap_new (w.alloc (.cells #[.int .u64 o0, .int .u64 o1] 40)) (.cells #[.int .u64 0, .int .u64 0, .int .u64 0, .int .u64 0] 63)
    rw [World.size_alloc] at this; exact this
  have below : Below (w.heap.size) w ((w.alloc (.cells #[.int .u64 o0, .int .u64 o1] 40)).alloc (.cells #[.int .u64 0, .int .u64 0, .int .u64 0, .int .u64 0] 63)) := bla (bla (Below.refl _ _) _) _
  have HBW : Hid (w.heap.size ≤ ((w.alloc (.cells #[.int .u64 o0, .int .u64 o1] 40)).alloc (.cells #[.int .u64 0, .int .u64 0, .int .u64 0, .int .u64 0] 63)).heap.size) := Lib.hid below.size
  have HKEEP : Hid (Keep (w.heap.size) w [((w.heap.size, .cells #[.int .u64 o0, .int .u64 o1] 40) : Nat × Obj), ((w.heap.size + 1, .cells #[.int .u64 0, .int .u64 0, .int .u64 0, .int .u64 0] 63) : Nat × Obj)] ((w.alloc (.cells #[.int .u64 o0, .int .u64 o1] 40)).alloc (.cells #[.int .u64 0, .int .u64 0, .int .u64 0, .int .u64 0] 63))) := Lib.hid ⟨below, by
    intro p hp
    simp only [List.mem_cons, List.not_mem_nil, or_false] at hp
    rcases hp with rfl | rfl
    · exact hx0
    · exact hx1⟩
  have HOLD0 : Hid (∀ b ∈ [(⟨some 13, some 15, 0, #[.int .u64 0, .int .u64 0], #[.int .u64 p0, .int .u64 p1], 40⟩ : RBox)], b.al = none → ((w.alloc (.cells #[.int .u64 o0, .int .u64 o1] 40)).alloc (.cells #[.int .u64 0, .int .u64 0, .int .u64 0, .int .u64 0] 63)).heap[b.blk]? = some (.cells b.z b.T (0, 0)) ∧ w.heap.size ≤ b.blk ∧ ∀ p ∈ [((w.heap.size, .cells #[.int .u64 o0, .int .u64 o1] 40) : Nat × Obj), ((w.heap.size + 1, .cells #[.int .u64 0, .int .u64 0, .int .u64 0, .int .u64 0] 63) : Nat × Obj)], p.1 ≠ b.blk) := Lib.hid (by
    intro b hb
    simp only [List.mem_cons, List.not_mem_nil, or_false] at hb
    subst hb
    intro h; cases h)
  clear below
  refine wp_region_box (w.heap.size) w [(w.heap.size, .cells #[.int .u64 o0, .int .u64 o1] 40), (w.heap.size + 1, .cells #[.int .u64 0, .int .u64 0, .int .u64 0, .int .u64 0] 63)] [⟨some 13, some 15, 0, #[.int .u64 0, .int .u64 0], #[.int .u64 p0, .int .u64 p1], 40⟩] (fun i => ([(.int .i64 m), (.int .i64 k), (.slice (some ⟨b, off, none⟩) (len + 1) cap), (.slice (some ⟨b, off, none⟩) (len + 1) cap), (.int .i64 ((len : Int) + 1)), (.int .i64 (len : Int)), (.pointer (some ⟨b, off + len * 2, none⟩)), (.agg #[.int .u64 p0, .int .u64 p1]), (.slice (some ⟨b, off, none⟩) (len + 1) cap), (.slice (some ⟨b, off, none⟩) (len + 1) cap), (.int .i64 ((len : Int) + 1)), (.int .i64 (len : Int)), (.slice (some ⟨b, off, none⟩) len cap), (undef), (.int .i64 k), (undef), (.slice (some ⟨b, off, none⟩) len cap)] : List Value).getD i undef) (by kernel_rfl) (by kernel_rfl) (by kernel_rfl) (by rfl) (by simp) (by rfl) HBW.out HKEEP.out HOLD0.out ?_ ?_
  · refine ⟨?_, ?_, ?_, ?_, ?_, ?_, ?_, ?_, ?_, ?_, ?_, ?_, ?_, ?_, ?_, ?_, ?_, trivial⟩
    · refine stepG_plain rfl rfl fun g ac W hK hk => ?_
      have h1 : ac.tmps[1]? = some (.int .i64 m) := hk.keep 1 rfl
      refine wpOp_of rfl rfl ?_
      unfold Oper.wp
      simp [execOp, go_sem, h1]
      first | exact ⟨rfl, Below.refl _ _⟩ | exact Below.refl _ _
    · refine stepG_plain rfl rfl fun g ac W hK hk => ?_
      have h44 : ac.tmps[44]? = some (.int .i64 m) := hk.has 0 _ 44 rfl rfl rfl (by simp) rfl
      refine wpOp_of rfl rfl ?_
      unfold Oper.wp
      simp [execOp, go_sem, h44]
      refine (ledHalf_any m hm (by omega) W).mono ?_
      rintro e w' ⟨rfl, rfl⟩
      exact ⟨by rw [HK.out], Below.refl _ _⟩
    · refine stepG_plain rfl rfl fun g ac W hK hk => ?_
      have h3 : ac.tmps[3]? = some (.slice (some ⟨b, off, none⟩) (len + 1) cap) := hk.keep 3 rfl
      refine wpOp_of rfl rfl ?_
      unfold Oper.wp
      simp [execOp, go_sem, h3]
      first | exact ⟨rfl, Below.refl _ _⟩ | exact Below.refl _ _
    · refine stepG_plain rfl rfl fun g ac W hK hk => ?_
      have h3 : ac.tmps[3]? = some (.slice (some ⟨b, off, none⟩) (len + 1) cap) := hk.keep 3 rfl
      refine wpOp_of rfl rfl ?_
      unfold Oper.wp
      simp [execOp, go_sem, h3]
      first | exact ⟨rfl, Below.refl _ _⟩ | exact Below.refl _ _
    · refine stepG_plain rfl rfl fun g ac W hK hk => ?_
      have h47 : ac.tmps[47]? = some (.slice (some ⟨b, off, none⟩) (len + 1) cap) := hk.has 3 _ 47 rfl rfl rfl (by simp) rfl
      refine wpOp_of rfl rfl ?_
      unfold Oper.wp
      simp [execOp, go_sem, h47]
      first | exact ⟨rfl, Below.refl _ _⟩ | exact Below.refl _ _
    · refine stepG_plain rfl rfl fun g ac W hK hk => ?_
      have h48 : ac.tmps[48]? = some (.int .i64 ((len : Int) + 1)) := hk.has 4 _ 48 rfl rfl rfl (by simp) rfl
      refine wpOp_of rfl rfl ?_
      unfold Oper.wp
      simp [execOp, go_sem, h48, hw1]
      first | exact ⟨rfl, Below.refl _ _⟩ | exact Below.refl _ _
    · refine stepG_plain rfl rfl fun g ac W hK hk => ?_
      have h46 : ac.tmps[46]? = some (.slice (some ⟨b, off, none⟩) (len + 1) cap) := hk.has 2 _ 46 rfl rfl rfl (by simp) rfl
      have h49 : ac.tmps[49]? = some (.int .i64 (len : Int)) := hk.has 5 _ 49 rfl rfl rfl (by simp) rfl
      have z3 : (len : Int) < (len : Int) + 1 := by omega
      refine wpOp_of rfl rfl ?_
      unfold Oper.wp
      simp [execOp, go_sem, h46, h49, z3]
      first | exact ⟨rfl, Below.refl _ _⟩ | exact Below.refl _ _
    · refine stepG_plain rfl rfl fun g ac W hK hk => ?_
      have h50 : ac.tmps[50]? = some (.pointer (some ⟨b, off + len * 2, none⟩)) := hk.has 6 _ 50 rfl rfl rfl (by simp) rfl
      have q0 := (hK.1.cell (p := ⟨b, off + len * 2, none⟩) hb).trans e0
      have q1 := (hK.1.cell (p := ⟨b, off + len * 2 + 1, none⟩) hb).trans e1
      refine wpOp_of rfl rfl ?_
      unfold Oper.wp
      simp [execOp, go_sem, h50, q0, q1]
      first | exact ⟨rfl, Below.refl _ _⟩ | exact Below.refl _ _
    · refine stepG_plain rfl rfl fun g ac W hK hk => ?_
      have h3 : ac.tmps[3]? = some (.slice (some ⟨b, off, none⟩) (len + 1) cap) := hk.keep 3 rfl
      refine wpOp_of rfl rfl ?_
      unfold Oper.wp
      simp [execOp, go_sem, h3]
      first | exact ⟨rfl, Below.refl _ _⟩ | exact Below.refl _ _
    · refine stepG_plain rfl rfl fun g ac W hK hk => ?_
      have h3 : ac.tmps[3]? = some (.slice (some ⟨b, off, none⟩) (len + 1) cap) := hk.keep 3 rfl
      refine wpOp_of rfl rfl ?_
      unfold Oper.wp
      simp [execOp, go_sem, h3]
      first | exact ⟨rfl, Below.refl _ _⟩ | exact Below.refl _ _
    · refine stepG_plain rfl rfl fun g ac W hK hk => ?_
      have h53 : ac.tmps[53]? = some (.slice (some ⟨b, off, none⟩) (len + 1) cap) := hk.has 9 _ 53 rfl rfl rfl (by simp) rfl
      refine wpOp_of rfl rfl ?_
      unfold Oper.wp
      simp [execOp, go_sem, h53]
      first | exact ⟨rfl, Below.refl _ _⟩ | exact Below.refl _ _
    · refine stepG_plain rfl rfl fun g ac W hK hk => ?_
      have h54 : ac.tmps[54]? = some (.int .i64 ((len : Int) + 1)) := hk.has 10 _ 54 rfl rfl rfl (by simp) rfl
      refine wpOp_of rfl rfl ?_
      unfold Oper.wp
      simp [execOp, go_sem, h54, hw1]
      first | exact ⟨rfl, Below.refl _ _⟩ | exact Below.refl _ _
    · refine stepG_plain rfl rfl fun g ac W hK hk => ?_
      have h52 : ac.tmps[52]? = some (.slice (some ⟨b, off, none⟩) (len + 1) cap) := hk.has 8 _ 52 rfl rfl rfl (by simp) rfl
      have h55 : ac.tmps[55]? = some (.int .i64 (len : Int)) := hk.has 11 _ 55 rfl rfl rfl (by simp) rfl
      have z1 : (0 : Int) ≤ (len : Int) := by omega
      have z2 : (len : Int) ≤ (cap : Int) := by omega
      refine wpOp_of rfl rfl ?_
      unfold Oper.wp
      simp [execOp, go_sem, h52, h55, z1, z2]
      first | exact ⟨rfl, Below.refl _ _⟩ | exact Below.refl _ _
    · exact stepG_alloc (by rfl) 0 _ rfl rfl fun a W K h => wpOp_of rfl rfl (by unfold Oper.wp; simp [execOp, go_sem]; exact h)
    · refine stepG_plain rfl rfl fun g ac W hK hk => ?_
      have h45 : ac.tmps[45]? = some (.int .i64 k) := hk.has 1 _ 45 rfl rfl rfl (by simp) rfl
      refine wpOp_of rfl rfl ?_
      unfold Oper.wp
      simp [execOp, go_sem, h45]
      first | exact ⟨rfl, Below.refl _ _⟩ | exact Below.refl _ _
    · refine stepG_store (by rfl) 0 _ rfl rfl rfl (by rfl) fun g ac W K hK hk hold hz hgo => ?_
      have h13 := hk.ptr 0 _ 13 _ 13 rfl rfl rfl rfl rfl (by simp)
      have h51 : ac.tmps[51]? = some (.agg #[.int .u64 p0, .int .u64 p1]) := hk.has 7 _ 51 rfl rfl rfl (by simp) rfl
      have z0 : (W).heap[g 0]? = some (.cells #[.int .u64 0, .int .u64 0] 40 (0, 0)) := hz
      have c0_0 : (W).cell? ⟨g 0, 0, none⟩ = some (.int .u64 0) := by rw [Lib.cell_of_heap z0]; rfl
      have f0 := Lib.frozen_of_heap z0 0
      have z1 : ((W).setCell ⟨g 0, 0, none⟩ (.int .u64 p0)).heap[g 0]? = some (.cells #[.int .u64 p0, .int .u64 0] 40 (0, 0)) := setCell_heap z0 0 _
      have c1_1 : ((W).setCell ⟨g 0, 0, none⟩ (.int .u64 p0)).cell? ⟨g 0, 1, none⟩ = some (.int .u64 0) := by rw [Lib.cell_of_heap z1]; rfl
      have f1 := Lib.frozen_of_heap z1 1
      refine wpOp_of rfl rfl ?_
      unfold Oper.wp
      simp [execOp, go_sem, h13, h51, c0_0, f0, c1_1, f1]
      exact hgo _ (((OnlyB.refl _ _).set 0 _).set 1 _) (setCell_heap z1 1 _)
    · refine stepG_plain rfl rfl fun g ac W hK hk => ?_
      have h56 : ac.tmps[56]? = some (.slice (some ⟨b, off, none⟩) len cap) := hk.has 12 _ 56 rfl rfl rfl (by simp) rfl
      refine wpOp_of rfl rfl ?_
      unfold Oper.wp
      simp [execOp, go_sem, h56]
      first | exact ⟨rfl, Below.refl _ _⟩ | exact Below.refl _ _
  · intro g W hK hsz hB hd
    obtain ⟨hg, -, hgn⟩ := hB 0 _ rfl
    have hgn := hgn (by simp)
    rw [World.size_alloc, World.size_alloc] at hgn
    simp [frameOf, Act.put, valG, List.findIdx?_cons]
    have hg : W.heap[g 0]? = some (.cells #[.int .u64 p0, .int .u64 p1] 40 (0, 0)) := hg
    generalize g 0 = G at *
    have hk0 : W.heap[w.heap.size]? = some (.cells #[.int .u64 o0, .int .u64 o1] 40 (0, 0)) := hK.get 0 rfl
    have hk1 : W.heap[w.heap.size + 1]? = some (.cells #[.int .u64 0, .int .u64 0, .int .u64 0, .int .u64 0] 63 (0, 0)) := hK.get 1 rfl
    have HW := Lib.hid hK.1
    have HG := Lib.hid hg
    have HK1 := Lib.hid hk1
    have c0 : W.cell? ⟨w.heap.size, 0, none⟩ = some (.int .u64 o0) := by rw [Lib.cell_of_heap hk0]; rfl
    have c1 : W.cell? ⟨w.heap.size, 1, none⟩ = some (.int .u64 o1) := by rw [Lib.cell_of_heap hk0]; rfl
    clear hK hB hd hg hk0 hk1 hx0 hx1 HBW HKEEP HOLD0 hsz
    have w1 : IntKind.i64.wrap (n - (k : Int)) = n - (k : Int) := by rw [IntKind.wrap_i64]; omega
    have wm : IntKind.i64.wrap ((m : Int) - (k : Int)) = (m : Int) - (k : Int) := by rw [IntKind.wrap_i64]; omega
    have t6 : ¬ n ≤ (k : Int) := by omega
    go_wp2_with fail
    ((with_reducible refine (H1.out _ HW.out).mono ?_); rintro e w5 ⟨rfl, hb5⟩)
    clear c0 c1
    have HB5 : Hid (Below w.heap.size w (w5.alloc (.cells #[.int .u64 x0, .int .u64 x1, .int .u64 y0, .int .u64 y1] 63))) := Lib.hid (bla (bl HW.out hb5) _)
    have HG5 : Hid ((w5.alloc (.cells #[.int .u64 x0, .int .u64 x1, .int .u64 y0, .int .u64 y1] 63)).heap[G]? = some (.cells #[.int .u64 p0, .int .u64 p1] 40 (0, 0))) := Lib.hid (((bla hb5 _).block _ (lt_of_block HG.out)).trans HG.out)
    have HR5 : Hid ((w5.alloc (.cells #[.int .u64 x0, .int .u64 x1, .int .u64 y0, .int .u64 y1] 63)).heap[w.heap.size + 1]? = some (.cells #[.int .u64 0, .int .u64 0, .int .u64 0, .int .u64 0] 63 (0, 0))) := Lib.hid (((bla hb5 _).block _ (lt_of_block HK1.out)).trans HK1.out)
    have HX5 : Hid ((w5.alloc (.cells #[.int .u64 x0, .int .u64 x1, .int .u64 y0, .int .u64 y1] 63)).heap[w5.heap.size]? = some (.cells #[.int .u64 x0, .int .u64 x1, .int .u64 y0, .int .u64 y1] 63 (0, 0))) := Lib.hid (World.alloc_heap_new _ _)
    have hlt5 : w.heap.size + 1 < w5.heap.size := Nat.lt_of_lt_of_le (lt_of_block HK1.out) hb5.size
    go_wp2_with fail
    have below : Below (w.heap.size) w (w5.alloc (.cells #[.int .u64 x0, .int .u64 x1, .int .u64 y0, .int .u64 y1] 63)) := HB5.out
    have HBW : Hid (w.heap.size ≤ (w5.alloc (.cells #[.int .u64 x0, .int .u64 x1, .int .u64 y0, .int .u64 y1] 63)).heap.size) := Lib.hid below.size
    have HKEEP : Hid (Keep (w.heap.size) w [((w5.heap.size, .cells #[.int .u64 x0, .int .u64 x1, .int .u64 y0, .int .u64 y1] 63) : Nat × Obj), ((G, .cells #[.int .u64 p0, .int .u64 p1] 40) : Nat × Obj)] (w5.alloc (.cells #[.int .u64 x0, .int .u64 x1, .int .u64 y0, .int .u64 y1] 63))) := Lib.hid ⟨below, by
      intro p hp
      simp only [List.mem_cons, List.not_mem_nil, or_false] at hp
      rcases hp with rfl | rfl
      · exact HX5.out
      · exact HG5.out⟩
    have HOLD0 : Hid (∀ b ∈ [(⟨none, some 10, w.heap.size + 1, #[.int .u64 0, .int .u64 0, .int .u64 0, .int .u64 0], #[.int .u64 s0, .int .u64 s1, .int .u64 r0, .int .u64 r1], 63⟩ : RBox)], b.al = none → (w5.alloc (.cells #[.int .u64 x0, .int .u64 x1, .int .u64 y0, .int .u64 y1] 63)).heap[b.blk]? = some (.cells b.z b.T (0, 0)) ∧ w.heap.size ≤ b.blk ∧ ∀ p ∈ [((w5.heap.size, .cells #[.int .u64 x0, .int .u64 x1, .int .u64 y0, .int .u64 y1] 63) : Nat × Obj), ((G, .cells #[.int .u64 p0, .int .u64 p1] 40) : Nat × Obj)], p.1 ≠ b.blk) := Lib.hid (by
      intro b hb
      simp only [List.mem_cons, List.not_mem_nil, or_false] at hb
      subst hb
      intro _
      refine ⟨HR5.out, (by show w.heap.size ≤ w.heap.size + 1; omega), fun p hp => ?_⟩
      simp only [List.mem_cons, List.not_mem_nil, or_false] at hp
      rcases hp with rfl | rfl
      · show w5.heap.size ≠ w.heap.size + 1
        omega
      · show G ≠ w.heap.size + 1
        omega)
    clear below
    refine wp_region_box (w.heap.size) w [(w5.heap.size, .cells #[.int .u64 x0, .int .u64 x1, .int .u64 y0, .int .u64 y1] 63), (G, .cells #[.int .u64 p0, .int .u64 p1] 40)] [⟨none, some 10, w.heap.size + 1, #[.int .u64 0, .int .u64 0, .int .u64 0, .int .u64 0], #[.int .u64 s0, .int .u64 s1, .int .u64 r0, .int .u64 r1], 63⟩] (fun i => ([(.agg #[.int .u64 p0, .int .u64 p1]), (.pointer (some ⟨w5.heap.size, 0, none⟩)), (.agg #[.int .u64 x0, .int .u64 x1]), (.agg #[.int .u64 s0, .int .u64 s1]), (.agg #[.int .u64 p0, .int .u64 p1]), (.pointer (some ⟨w5.heap.size, 2, none⟩)), (.agg #[.int .u64 y0, .int .u64 y1]), (.agg #[.int .u64 r0, .int .u64 r1]), (.agg #[.int .u64 s0, .int .u64 s1, .int .u64 r0, .int .u64 r1]), (.bool ok), (undef), (.bool ok)] : List Value).getD i undef) (by kernel_rfl) (by kernel_rfl) (by kernel_rfl) (by rfl) (by simp) (by rfl) HBW.out HKEEP.out HOLD0.out ?_ ?_
    · refine ⟨?_, ?_, ?_, ?_, ?_, ?_, ?_, ?_, ?_, ?_, ?_, ?_, trivial⟩
      · refine stepG_plain rfl rfl fun g ac W hK hk => ?_
        have h13 : ac.tmps[13]? = some (.pointer (some ⟨G, 0, none⟩)) := hk.keep 13 rfl
        have mxq := hK.get 1 rfl
        have q0 : W.cell? ⟨G, 0, none⟩ = some (.int .u64 p0) := by rw [Lib.cell_of_heap mxq]; rfl
        have q1 : W.cell? ⟨G, 1, none⟩ = some (.int .u64 p1) := by rw [Lib.cell_of_heap mxq]; rfl
        refine wpOp_of rfl rfl ?_
        unfold Oper.wp
        simp [execOp, go_sem, h13, q0, q1]
        first | exact ⟨rfl, Below.refl _ _⟩ | exact Below.refl _ _
      · refine stepG_plain rfl rfl fun g ac W hK hk => ?_
        have h17 : ac.tmps[17]? = some (.pointer (some ⟨w5.heap.size, 0, none⟩)) := hk.keep 17 rfl
        refine wpOp_of rfl rfl ?_
        unfold Oper.wp
        simp [execOp, go_sem, h17]
        first | exact ⟨rfl, Below.refl _ _⟩ | exact Below.refl _ _
      · refine stepG_plain rfl rfl fun g ac W hK hk => ?_
        have h90 : ac.tmps[90]? = some (.pointer (some ⟨w5.heap.size, 0, none⟩)) := hk.has 1 _ 90 rfl rfl rfl (by simp) rfl
        have mxq := hK.get 0 rfl
        have q0 : W.cell? ⟨w5.heap.size, 0, none⟩ = some (.int .u64 x0) := by rw [Lib.cell_of_heap mxq]; rfl
        have q1 : W.cell? ⟨w5.heap.size, 1, none⟩ = some (.int .u64 x1) := by rw [Lib.cell_of_heap mxq]; rfl
        refine wpOp_of rfl rfl ?_
        unfold Oper.wp
        simp [execOp, go_sem, h90, q0, q1]
        first | exact ⟨rfl, Below.refl _ _⟩ | exact Below.refl _ _
      · refine stepG_plain rfl rfl fun g ac W hK hk => ?_
        have h89 : ac.tmps[89]? = some (.agg #[.int .u64 p0, .int .u64 p1]) := hk.has 0 _ 89 rfl rfl rfl (by simp) rfl
        have h91 : ac.tmps[91]? = some (.agg #[.int .u64 x0, .int .u64 x1]) := hk.has 2 _ 91 rfl rfl rfl (by simp) rfl
        refine wpOp_of rfl rfl ?_
        unfold Oper.wp
        simp [execOp, go_sem, h89, h91]
        refine (H2.out W).mono ?_
        rintro e w' ⟨rfl, hb⟩
        exact ⟨rfl, hb⟩
      · refine stepG_plain rfl rfl fun g ac W hK hk => ?_
        have h13 : ac.tmps[13]? = some (.pointer (some ⟨G, 0, none⟩)) := hk.keep 13 rfl
        have mxq := hK.get 1 rfl
        have q0 : W.cell? ⟨G, 0, none⟩ = some (.int .u64 p0) := by rw [Lib.cell_of_heap mxq]; rfl
        have q1 : W.cell? ⟨G, 1, none⟩ = some (.int .u64 p1) := by rw [Lib.cell_of_heap mxq]; rfl
        refine wpOp_of rfl rfl ?_
        unfold Oper.wp
        simp [execOp, go_sem, h13, q0, q1]
        first | exact ⟨rfl, Below.refl _ _⟩ | exact Below.refl _ _
      · refine stepG_plain rfl rfl fun g ac W hK hk => ?_
        have h17 : ac.tmps[17]? = some (.pointer (some ⟨w5.heap.size, 0, none⟩)) := hk.keep 17 rfl
        refine wpOp_of rfl rfl ?_
        unfold Oper.wp
        simp [execOp, go_sem, h17]
        first | exact ⟨rfl, Below.refl _ _⟩ | exact Below.refl _ _
      · refine stepG_plain rfl rfl fun g ac W hK hk => ?_
        have h94 : ac.tmps[94]? = some (.pointer (some ⟨w5.heap.size, 2, none⟩)) := hk.has 5 _ 94 rfl rfl rfl (by simp) rfl
        have mxq := hK.get 0 rfl
        have q2 : W.cell? ⟨w5.heap.size, 2, none⟩ = some (.int .u64 y0) := by rw [Lib.cell_of_heap mxq]; rfl
        have q3 : W.cell? ⟨w5.heap.size, 3, none⟩ = some (.int .u64 y1) := by rw [Lib.cell_of_heap mxq]; rfl
        refine wpOp_of rfl rfl ?_
        unfold Oper.wp
        simp [execOp, go_sem, h94, q2, q3]
        first | exact ⟨rfl, Below.refl _ _⟩ | exact Below.refl _ _
      · refine stepG_plain rfl rfl fun g ac W hK hk => ?_
        have h93 : ac.tmps[93]? = some (.agg #[.int .u64 p0, .int .u64 p1]) := hk.has 4 _ 93 rfl rfl rfl (by simp) rfl
        have h95 : ac.tmps[95]? = some (.agg #[.int .u64 y0, .int .u64 y1]) := hk.has 6 _ 95 rfl rfl rfl (by simp) rfl
        refine wpOp_of rfl rfl ?_
        unfold Oper.wp
        simp [execOp, go_sem, h93, h95]
        refine (H3.out W).mono ?_
        rintro e w' ⟨rfl, hb⟩
        exact ⟨rfl, hb⟩
      · refine stepG_plain rfl rfl fun g ac W hK hk => ?_
        have h92 : ac.tmps[92]? = some (.agg #[.int .u64 s0, .int .u64 s1]) := hk.has 3 _ 92 rfl rfl rfl (by simp) rfl
        have h96 : ac.tmps[96]? = some (.agg #[.int .u64 r0, .int .u64 r1]) := hk.has 7 _ 96 rfl rfl rfl (by simp) rfl
        refine wpOp_of rfl rfl ?_
        unfold Oper.wp
        simp [execOp, go_sem, h92, h96]
        first | exact ⟨rfl, Below.refl _ _⟩ | exact Below.refl _ _
      · refine stepG_plain rfl rfl fun g ac W hK hk => ?_
        have h18 : ac.tmps[18]? = some (.bool ok) := hk.keep 18 rfl
        refine wpOp_of rfl rfl ?_
        unfold Oper.wp
        simp [execOp, go_sem, h18]
        first | exact ⟨rfl, Below.refl _ _⟩ | exact Below.refl _ _
      · refine stepG_store (by rfl) 0 _ rfl rfl rfl (by rfl) fun g ac W K hK hk hold hz hgo => ?_
        have h10 : ac.tmps[10]? = some (.pointer (some ⟨w.heap.size + 1, 0, none⟩)) := hk.keep 10 rfl
        have h97 : ac.tmps[97]? = some (.agg #[.int .u64 s0, .int .u64 s1, .int .u64 r0, .int .u64 r1]) := hk.has 8 _ 97 rfl rfl rfl (by simp) rfl
        have hg : g 0 = w.heap.size + 1 := hold rfl
        rw [hg] at hz hgo
        have z0 : (W).heap[w.heap.size + 1]? = some (.cells #[.int .u64 0, .int .u64 0, .int .u64 0, .int .u64 0] 63 (0, 0)) := hz
        have c0_0 : (W).cell? ⟨w.heap.size + 1, 0, none⟩ = some (.int .u64 0) := by rw [Lib.cell_of_heap z0]; rfl
        have f0 := Lib.frozen_of_heap z0 0
        have z1 : ((W).setCell ⟨w.heap.size + 1, 0, none⟩ (.int .u64 s0)).heap[w.heap.size + 1]? = some (.cells #[.int .u64 s0, .int .u64 0, .int .u64 0, .int .u64 0] 63 (0, 0)) := setCell_heap z0 0 _
        have c1_1 : ((W).setCell ⟨w.heap.size + 1, 0, none⟩ (.int .u64 s0)).cell? ⟨w.heap.size + 1, 1, none⟩ = some (.int .u64 0) := by rw [Lib.cell_of_heap z1]; rfl
        have f1 := Lib.frozen_of_heap z1 1
        have z2 : (((W).setCell ⟨w.heap.size + 1, 0, none⟩ (.int .u64 s0)).setCell ⟨w.heap.size + 1, 1, none⟩ (.int .u64 s1)).heap[w.heap.size + 1]? = some (.cells #[.int .u64 s0, .int .u64 s1, .int .u64 0, .int .u64 0] 63 (0, 0)) := setCell_heap z1 1 _
        have c2_2 : (((W).setCell ⟨w.heap.size + 1, 0, none⟩ (.int .u64 s0)).setCell ⟨w.heap.size + 1, 1, none⟩ (.int .u64 s1)).cell? ⟨w.heap.size + 1, 2, none⟩ = some (.int .u64 0) := by rw [Lib.cell_of_heap z2]; rfl
        have f2 := Lib.frozen_of_heap z2 2
        have z3 : ((((W).setCell ⟨w.heap.size + 1, 0, none⟩ (.int .u64 s0)).setCell ⟨w.heap.size + 1, 1, none⟩ (.int .u64 s1)).setCell ⟨w.heap.size + 1, 2, none⟩ (.int .u64 r0)).heap[w.heap.size + 1]? = some (.cells #[.int .u64 s0, .int .u64 s1, .int .u64 r0, .int .u64 0] 63 (0, 0)) := setCell_heap z2 2 _
        have c3_3 : ((((W).setCell ⟨w.heap.size + 1, 0, none⟩ (.int .u64 s0)).setCell ⟨w.heap.size + 1, 1, none⟩ (.int .u64 s1)).setCell ⟨w.heap.size + 1, 2, none⟩ (.int .u64 r0)).cell? ⟨w.heap.size + 1, 3, none⟩ = some (.int .u64 0) := by rw [Lib.cell_of_heap z3]; rfl
        have f3 := Lib.frozen_of_heap z3 3
        refine wpOp_of rfl rfl ?_
        unfold Oper.wp
        simp [execOp, go_sem, h10, h97, c0_0, f0, c1_1, f1, c2_2, f2, c3_3, f3]
        exact hgo _ (((((OnlyB.refl _ _).set 0 _).set 1 _).set 2 _).set 3 _) (setCell_heap z3 3 _)
      · refine stepG_plain rfl rfl fun g ac W hK hk => ?_
        have h98 : ac.tmps[98]? = some (.bool ok) := hk.has 9 _ 98 rfl rfl rfl (by simp) rfl
        refine wpOp_of rfl rfl ?_
        unfold Oper.wp
        simp [execOp, go_sem, h98]
        first | exact ⟨rfl, Below.refl _ _⟩ | exact Below.refl _ _
    · intro g W hK hsz hB hd
      obtain ⟨hr, hg0, -⟩ := hB 0 _ rfl
      have hg0 : g 0 = w.heap.size + 1 := hg0 rfl
      have hr : W.heap[g 0]? = some (.cells #[.int .u64 s0, .int .u64 s1, .int .u64 r0, .int .u64 r1] 63 (0, 0)) := hr
      rw [hg0] at hr
      simp [frameOf, Act.put, valG, List.findIdx?_cons]
      have HW := Lib.hid hK.1
      have c0 : W.cell? ⟨w.heap.size + 1, 0, none⟩ = some (.int .u64 s0) := by rw [Lib.cell_of_heap hr]; rfl
      have c1 : W.cell? ⟨w.heap.size + 1, 1, none⟩ = some (.int .u64 s1) := by rw [Lib.cell_of_heap hr]; rfl
      have c2 : W.cell? ⟨w.heap.size + 1, 2, none⟩ = some (.int .u64 r0) := by rw [Lib.cell_of_heap hr]; rfl
      have c3 : W.cell? ⟨w.heap.size + 1, 3, none⟩ = some (.int .u64 r1) := by rw [Lib.cell_of_heap hr]; rfl
      clear hK hB hd hr hg0 hsz
      go_wp2
      exact bodyPost_ret (v := .tuple #[.agg #[.int .u64 s0, .int .u64 s1, .int .u64 r0, .int .u64 r1], .bool ok]) (by simp [results, Try.results46, go_sem, c0, c1, c2, c3]) rfl ⟨rfl, HW.out⟩
    
set_option maxRecDepth 100000 in
set_option maxHeartbeats 8000000 in
theorem res_whole (len cap : Nat) (a : Option Addr) (n o0 o1 : Int) (q : Bool) (hq : ((len : Int) == 0) = q) (w : World) :
    Calls Try.prog 46 #[.int .i64 n, .int .i64 n, .agg #[.int .u64 o0, .int .u64 o1], .slice a len cap, .bool true] w fun e w' => e = .returned (.tuple #[.agg #[.int .u64 o0, .int .u64 o1, .int .u64 o0, .int .u64 o1], .bool q]) ∧ Below w.heap.size w w' := by
  have t1 : (n == n) = true := by simp
  have hb : Below w.heap.size w ((w.alloc (.cells #[.int .u64 o0, .int .u64 o1] 40)).alloc (.cells #[.int .u64 o0, .int .u64 o1, .int .u64 o0, .int .u64 o1] 63)) := bla (bla (Below.refl _ _) _) _
  go_enter Try.func46, Try.ntmps46
  go_wp2
  exact bodyPost_ret (v := .tuple #[.agg #[.int .u64 o0, .int .u64 o1, .int .u64 o0, .int .u64 o1], .bool q]) (by simp [results, Try.results46, go_sem]) rfl ⟨rfl, hb⟩
set_option maxRecDepth 100000 in
set_option maxHeartbeats 8000000 in
theorem res_part (len cap : Nat) (a : Option Addr) (n o0 o1 : Int) (h1 : ¬ len = 1) (w : World) :
    Calls Try.prog 46 #[.int .i64 n, .int .i64 n, .agg #[.int .u64 o0, .int .u64 o1], .slice a len cap, .bool false] w fun e w' => e = .returned (.tuple #[.agg #[.int .u64 0, .int .u64 0, .int .u64 0, .int .u64 0], .bool false]) ∧ Below w.heap.size w w' := by
  have t1 : (n == n) = true := by simp
  have t2 : ((len : Int) != 1) = true := by simp; omega
  clear h1
  have hb : Below w.heap.size w ((w.alloc (.cells #[.int .u64 o0, .int .u64 o1] 40)).alloc (.cells #[.int .u64 0, .int .u64 0, .int .u64 0, .int .u64 0] 63)) := bla (bla (Below.refl _ _) _) _
  go_enter Try.func46, Try.ntmps46
  go_wp2
  exact bodyPost_ret (v := .tuple #[.agg #[.int .u64 0, .int .u64 0, .int .u64 0, .int .u64 0], .bool false]) (by simp [results, Try.results46, go_sem]) rfl ⟨rfl, hb⟩
set_option maxRecDepth 100000 in
set_option maxHeartbeats 8000000 in
theorem res_none (cap : Nat) (a : Option Addr) (n m o0 o1 : Int) (wh : Bool) (h1 : n ≠ m) (w : World) :
    Calls Try.prog 46 #[.int .i64 n, .int .i64 m, .agg #[.int .u64 o0, .int .u64 o1], .slice a 0 cap, .bool wh] w fun e w' => e = .returned (.tuple #[.agg #[.int .u64 0, .int .u64 0, .int .u64 0, .int .u64 0], .bool false]) ∧ Below w.heap.size w w' := by
  have t1 : (n == m) = false := by simp; exact h1
  clear h1
  have hb : Below w.heap.size w ((w.alloc (.cells #[.int .u64 o0, .int .u64 o1] 40)).alloc (.cells #[.int .u64 0, .int .u64 0, .int .u64 0, .int .u64 0] 63)) := bla (bla (Below.refl _ _) _) _
  go_enter Try.func46, Try.ntmps46
  go_wp2
  exact bodyPost_ret (v := .tuple #[.agg #[.int .u64 0, .int .u64 0, .int .u64 0, .int .u64 0], .bool false]) (by simp [results, Try.results46, go_sem]) rfl ⟨rfl, hb⟩
set_option maxRecDepth 100000 in
set_option maxHeartbeats 8000000 in
theorem res_one (cap b off : Nat) (n o0 o1 p0 p1 : Int) (w : World) (e0 : w.cell? ⟨b, off, none⟩ = some (.int .u64 p0)) (e1 : w.cell? ⟨b, off + 1, none⟩ = some (.int .u64 p1)) (hb : b < w.heap.size) :
    Calls Try.prog 46 #[.int .i64 n, .int .i64 n, .agg #[.int .u64 o0, .int .u64 o1], .slice (some ⟨b, off, none⟩) 1 cap, .bool false] w fun e w' => e = .returned (.tuple #[.agg #[.int .u64 p0, .int .u64 p1, .int .u64 p0, .int .u64 p1], .bool true]) ∧ Below w.heap.size w w' := by
  have t1 : (n == n) = true := by simp
  go_enter Try.func46, Try.ntmps46
  go_wp2_with fail
  have hx1 : ((w.alloc (.cells #[.int .u64 o0, .int .u64 o1] 40)).alloc (.cells #[.int .u64 0, .int .u64 0, .int .u64 0, .int .u64 0] 63)).heap[w.heap.size + 1]? = some (.cells #[.int .u64 0, .int .u64 0, .int .u64 0, .int .u64 0] 63 (0, 0)) := by
    have := World.alloc_heap_new (w.alloc (.cells #[.int .u64 o0, .int .u64 o1] 40)) (.cells #[.int .u64 0, .int .u64 0, .int .u64 0, .int .u64 0] 63)
    rw [World.size_alloc] at this; exact this
  have below : Below (w.heap.size) w ((w.alloc (.cells #[.int .u64 o0, .int .u64 o1] 40)).alloc (.cells #[.int .u64 0, .int .u64 0, .int .u64 0, .int .u64 0] 63)) := bla (bla (Below.refl _ _) _) _
  have HBW : Hid (w.heap.size ≤ ((w.alloc (.cells #[.int .u64 o0, .int .u64 o1] 40)).alloc (.cells #[.int .u64 0, .int .u64 0, .int .u64 0, .int .u64 0] 63)).heap.size) := Lib.hid below.size
  have HKEEP : Hid (Keep (w.heap.size) w [] ((w.alloc (.cells #[.int .u64 o0, .int .u64 o1] 40)).alloc (.cells #[.int .u64 0, .int .u64 0, .int .u64 0, .int .u64 0] 63))) := Lib.hid ⟨below, by intro p hp; cases hp⟩
  have HOLD0 : Hid (∀ b ∈ [(⟨none, some 7, w.heap.size + 1, #[.int .u64 0, .int .u64 0, .int .u64 0, .int .u64 0], #[.int .u64 p0, .int .u64 p1, .int .u64 p0, .int .u64 p1], 63⟩ : RBox)], b.al = none → ((w.alloc (.cells #[.int .u64 o0, .int .u64 o1] 40)).alloc (.cells #[.int .u64 0, .int .u64 0, .int .u64 0, .int .u64 0] 63)).heap[b.blk]? = some (.cells b.z b.T (0, 0)) ∧ w.heap.size ≤ b.blk ∧ ∀ p ∈ ([] : List (Nat × Obj)), p.1 ≠ b.blk) := Lib.hid (by
    intro b hb
    simp only [List.mem_cons, List.not_mem_nil, or_false] at hb
    subst hb
    intro _
    refine ⟨hx1, (by show w.heap.size ≤ w.heap.size + 1; omega), fun p hp => ?_⟩
    cases hp)
  clear below
  refine wp_region_box (w.heap.size) w [] [⟨none, some 7, w.heap.size + 1, #[.int .u64 0, .int .u64 0, .int .u64 0, .int .u64 0], #[.int .u64 p0, .int .u64 p1, .int .u64 p0, .int .u64 p1], 63⟩] (fun i => ([(.slice (some ⟨b, off, none⟩) 1 cap), (.pointer (some ⟨b, off, none⟩)), (.agg #[.int .u64 p0, .int .u64 p1]), (.slice (some ⟨b, off, none⟩) 1 cap), (.pointer (some ⟨b, off, none⟩)), (.agg #[.int .u64 p0, .int .u64 p1]), (.agg #[.int .u64 p0, .int .u64 p1, .int .u64 p0, .int .u64 p1]), (undef), (Value.bool true)] : List Value).getD i undef) (by kernel_rfl) (by kernel_rfl) (by kernel_rfl) (by rfl) (by simp) (by rfl) HBW.out HKEEP.out HOLD0.out ?_ ?_
  · refine ⟨?_, ?_, ?_, ?_, ?_, ?_, ?_, ?_, ?_, trivial⟩
    · refine stepG_plain rfl rfl fun g ac W hK hk => ?_
      have h3 : ac.tmps[3]? = some (.slice (some ⟨b, off, none⟩) 1 cap) := hk.keep 3 rfl
      refine wpOp_of rfl rfl ?_
      unfold Oper.wp
      simp [execOp, go_sem, h3]
      first | exact ⟨rfl, Below.refl _ _⟩ | exact Below.refl _ _
    · refine stepG_plain rfl rfl fun g ac W hK hk => ?_
      have h33 : ac.tmps[33]? = some (.slice (some ⟨b, off, none⟩) 1 cap) := hk.has 0 _ 33 rfl rfl rfl (by simp) rfl
      refine wpOp_of rfl rfl ?_
      unfold Oper.wp
      simp [execOp, go_sem, h33]
      first | exact ⟨rfl, Below.refl _ _⟩ | exact Below.refl _ _
    · refine stepG_plain rfl rfl fun g ac W hK hk => ?_
      have h34 : ac.tmps[34]? = some (.pointer (some ⟨b, off, none⟩)) := hk.has 1 _ 34 rfl rfl rfl (by simp) rfl
      have q0 := (hK.1.cell (p := ⟨b, off, none⟩) hb).trans e0
      have q1 := (hK.1.cell (p := ⟨b, off + 1, none⟩) hb).trans e1
      refine wpOp_of rfl rfl ?_
      unfold Oper.wp
      simp [execOp, go_sem, h34, q0, q1]
      first | exact ⟨rfl, Below.refl _ _⟩ | exact Below.refl _ _
    · refine stepG_plain rfl rfl fun g ac W hK hk => ?_
      have h3 : ac.tmps[3]? = some (.slice (some ⟨b, off, none⟩) 1 cap) := hk.keep 3 rfl
      refine wpOp_of rfl rfl ?_
      unfold Oper.wp
      simp [execOp, go_sem, h3]
      first | exact ⟨rfl, Below.refl _ _⟩ | exact Below.refl _ _
    · refine stepG_plain rfl rfl fun g ac W hK hk => ?_
      have h36 : ac.tmps[36]? = some (.slice (some ⟨b, off, none⟩) 1 cap) := hk.has 3 _ 36 rfl rfl rfl (by simp) rfl
      refine wpOp_of rfl rfl ?_
      unfold Oper.wp
      simp [execOp, go_sem, h36]
      first | exact ⟨rfl, Below.refl _ _⟩ | exact Below.refl _ _
    · refine stepG_plain rfl rfl fun g ac W hK hk => ?_
      have h37 : ac.tmps[37]? = some (.pointer (some ⟨b, off, none⟩)) := hk.has 4 _ 37 rfl rfl rfl (by simp) rfl
      have q0 := (hK.1.cell (p := ⟨b, off, none⟩) hb).trans e0
      have q1 := (hK.1.cell (p := ⟨b, off + 1, none⟩) hb).trans e1
      refine wpOp_of rfl rfl ?_
      unfold Oper.wp
      simp [execOp, go_sem, h37, q0, q1]
      first | exact ⟨rfl, Below.refl _ _⟩ | exact Below.refl _ _
    · refine stepG_plain rfl rfl fun g ac W hK hk => ?_
      have h35 : ac.tmps[35]? = some (.agg #[.int .u64 p0, .int .u64 p1]) := hk.has 2 _ 35 rfl rfl rfl (by simp) rfl
      have h38 : ac.tmps[38]? = some (.agg #[.int .u64 p0, .int .u64 p1]) := hk.has 5 _ 38 rfl rfl rfl (by simp) rfl
      refine wpOp_of rfl rfl ?_
      unfold Oper.wp
      simp [execOp, go_sem, h35, h38]
      first | exact ⟨rfl, Below.refl _ _⟩ | exact Below.refl _ _
    · refine stepG_store (by rfl) 0 _ rfl rfl rfl (by rfl) fun g ac W K hK hk hold hz hgo => ?_
      have h10 : ac.tmps[10]? = some (.pointer (some ⟨w.heap.size + 1, 0, none⟩)) := hk.keep 10 rfl
      have h39 : ac.tmps[39]? = some (.agg #[.int .u64 p0, .int .u64 p1, .int .u64 p0, .int .u64 p1]) := hk.has 6 _ 39 rfl rfl rfl (by simp) rfl
      have hg : g 0 = w.heap.size + 1 := hold rfl
      rw [hg] at hz hgo
      have z0 : (W).heap[w.heap.size + 1]? = some (.cells #[.int .u64 0, .int .u64 0, .int .u64 0, .int .u64 0] 63 (0, 0)) := hz
      have c0_0 : (W).cell? ⟨w.heap.size + 1, 0, none⟩ = some (.int .u64 0) := by rw [Lib.cell_of_heap z0]; rfl
      have f0 := Lib.frozen_of_heap z0 0
      have z1 : ((W).setCell ⟨w.heap.size + 1, 0, none⟩ (.int .u64 p0)).heap[w.heap.size + 1]? = some (.cells #[.int .u64 p0, .int .u64 0, .int .u64 0, .int .u64 0] 63 (0, 0)) := setCell_heap z0 0 _
      have c1_1 : ((W).setCell ⟨w.heap.size + 1, 0, none⟩ (.int .u64 p0)).cell? ⟨w.heap.size + 1, 1, none⟩ = some (.int .u64 0) := by rw [Lib.cell_of_heap z1]; rfl
      have f1 := Lib.frozen_of_heap z1 1
      have z2 : (((W).setCell ⟨w.heap.size + 1, 0, none⟩ (.int .u64 p0)).setCell ⟨w.heap.size + 1, 1, none⟩ (.int .u64 p1)).heap[w.heap.size + 1]? = some (.cells #[.int .u64 p0, .int .u64 p1, .int .u64 0, .int .u64 0] 63 (0, 0)) := setCell_heap z1 1 _
      have c2_2 : (((W).setCell ⟨w.heap.size + 1, 0, none⟩ (.int .u64 p0)).setCell ⟨w.heap.size + 1, 1, none⟩ (.int .u64 p1)).cell? ⟨w.heap.size + 1, 2, none⟩ = some (.int .u64 0) := by rw [Lib.cell_of_heap z2]; rfl
      have f2 := Lib.frozen_of_heap z2 2
      have z3 : ((((W).setCell ⟨w.heap.size + 1, 0, none⟩ (.int .u64 p0)).setCell ⟨w.heap.size + 1, 1, none⟩ (.int .u64 p1)).setCell ⟨w.heap.size + 1, 2, none⟩ (.int .u64 p0)).heap[w.heap.size + 1]? = some (.cells #[.int .u64 p0, .int .u64 p1, .int .u64 p0, .int .u64 0] 63 (0, 0)) := setCell_heap z2 2 _
      have c3_3 : ((((W).setCell ⟨w.heap.size + 1, 0, none⟩ (.int .u64 p0)).setCell ⟨w.heap.size + 1, 1, none⟩ (.int .u64 p1)).setCell ⟨w.heap.size + 1, 2, none⟩ (.int .u64 p0)).cell? ⟨w.heap.size + 1, 3, none⟩ = some (.int .u64 0) := by rw [Lib.cell_of_heap z3]; rfl
      have f3 := Lib.frozen_of_heap z3 3
      refine wpOp_of rfl rfl ?_
      unfold Oper.wp
      simp [execOp, go_sem, h10, h39, c0_0, f0, c1_1, f1, c2_2, f2, c3_3, f3]
      exact hgo _ (((((OnlyB.refl _ _).set 0 _).set 1 _).set 2 _).set 3 _) (setCell_heap z3 3 _)
    · refine stepG_plain rfl rfl fun g ac W hK hk => ?_
      refine wpOp_of rfl rfl ?_
      unfold Oper.wp
      simp [execOp, go_sem]
      first | exact ⟨rfl, Below.refl _ _⟩ | exact Below.refl _ _
  · intro g W hK hsz hB hd
    obtain ⟨hr, hg0, -⟩ := hB 0 _ rfl
    have hg0 : g 0 = w.heap.size + 1 := hg0 rfl
    have hr : W.heap[g 0]? = some (.cells #[.int .u64 p0, .int .u64 p1, .int .u64 p0, .int .u64 p1] 63 (0, 0)) := hr
    rw [hg0] at hr
    simp [frameOf, Act.put, valG, List.findIdx?_cons]
    have HW := Lib.hid hK.1
    have c0 : W.cell? ⟨w.heap.size + 1, 0, none⟩ = some (.int .u64 p0) := by rw [Lib.cell_of_heap hr]; rfl
    have c1 : W.cell? ⟨w.heap.size + 1, 1, none⟩ = some (.int .u64 p1) := by rw [Lib.cell_of_heap hr]; rfl
    have c2 : W.cell? ⟨w.heap.size + 1, 2, none⟩ = some (.int .u64 p0) := by rw [Lib.cell_of_heap hr]; rfl
    have c3 : W.cell? ⟨w.heap.size + 1, 3, none⟩ = some (.int .u64 p1) := by rw [Lib.cell_of_heap hr]; rfl
    clear hK hB hd hr hg0 hsz
    go_wp2
    exact bodyPost_ret (v := .tuple #[.agg #[.int .u64 p0, .int .u64 p1, .int .u64 p0, .int .u64 p1], .bool true]) (by simp [results, Try.results46, go_sem, c0, c1, c2, c3]) rfl ⟨rfl, HW.out⟩
end Go.Proofs.Ytfheflihofafdaa
