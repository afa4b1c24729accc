/- For all digests, numbers, records and proofs, LedgerVerifies returns true and leaves its arguments as they were. -/
import Derived.Test.YtfheflihofafdaaLawAppend
namespace Go.Proofs.Ytfheflihofafdaa
open Go.ChangeShapes Go.WideShapes Go.ChangeAt Go.RowKit Go.Great Pt Tr
attribute [local go_sem] eq_arr

set_option maxRecDepth 100000 in
set_option maxHeartbeats 8000000 in
theorem verifies_big (o0 o1 h0 h1 n m t : Int) (n1 n2 n3 : BA) (a : Option Addr) (len cp : Nat) (w : World) (KR : ∀ W u, IsRecs W u [⟨t, n1, n2, n3⟩] → Calls Try.prog 10 #[.agg #[u]] W fun e w' => e = .returned (.bool true) ∧ Below W.heap.size W w') :
    Calls Try.prog 5 #[.agg #[.int .u64 o0, .int .u64 o1], .agg #[.int .u64 h0, .int .u64 h1], .int .i64 n, .int .i64 m, rv ⟨t, n1, n2, n3⟩, .slice a len cp] w fun e w' => e = .returned (.bool true) ∧ Below w.heap.size w w' := by
  have HR := Lib.hid KR
  clear KR
  have HB0 : Hid (Below w.heap.size w (((w.alloc (.cells #[.int .u64 o0, .int .u64 o1] 40)).alloc (.cells #[.int .u64 h0, .int .u64 h1] 40)).alloc (.cells #[.int .i64 t, .string n1, .string n2, .string n3] 26))) := Lib.hid (bla (bla (bla (Below.refl _ _) _) _) _)
  have HX0 : Hid ((((w.alloc (.cells #[.int .u64 o0, .int .u64 o1] 40)).alloc (.cells #[.int .u64 h0, .int .u64 h1] 40)).alloc (.cells #[.int .i64 t, .string n1, .string n2, .string n3] 26)).heap[w.heap.size]? = some (.cells #[.int .u64 o0, .int .u64 o1] 40 (0, 0))) := Lib.hid ((Below.heap_alloc _ _ _ (by simp; omega)).trans ((Below.heap_alloc _ _ _ (by simp)).trans (World.alloc_heap_new _ _)))
  have HY0 : Hid ((((w.alloc (.cells #[.int .u64 o0, .int .u64 o1] 40)).alloc (.cells #[.int .u64 h0, .int .u64 h1] 40)).alloc (.cells #[.int .i64 t, .string n1, .string n2, .string n3] 26)).heap[w.heap.size + 1]? = some (.cells #[.int .u64 h0, .int .u64 h1] 40 (0, 0))) := Lib.hid (by
    have h := World.alloc_heap_new (w.alloc (.cells #[.int .u64 o0, .int .u64 o1] 40)) (.cells #[.int .u64 h0, .int .u64 h1] 40)
    rw [World.size_alloc] at h
    exact (Below.heap_alloc _ _ _ (by simp)).trans h)
  have HZ0 : Hid ((((w.alloc (.cells #[.int .u64 o0, .int .u64 o1] 40)).alloc (.cells #[.int .u64 h0, .int .u64 h1] 40)).alloc (.cells #[.int .i64 t, .string n1, .string n2, .string n3] 26)).heap[w.heap.size + 2]? = some (.cells #[.int .i64 t, .string n1, .string n2, .string n3] 26 (0, 0))) := Lib.hid (by
    have h := World.alloc_heap_new ((w.alloc (.cells #[.int .u64 o0, .int .u64 o1] 40)).alloc (.cells #[.int .u64 h0, .int .u64 h1] 40)) (.cells #[.int .i64 t, .string n1, .string n2, .string n3] 26)
    rw [World.size_alloc, World.size_alloc] at h; exact h)
  have HN : Hid (IsRecs ((((w.alloc (.cells #[.int .u64 o0, .int .u64 o1] 40)).alloc (.cells #[.int .u64 h0, .int .u64 h1] 40)).alloc (.cells #[.int .i64 t, .string n1, .string n2, .string n3] 26)).alloc (.cells #[.int .i64 t, .string n1, .string n2, .string n3] 26)) (.slice (some ⟨w.heap.size + 3, 0, none⟩) 1 1) [⟨t, n1, n2, n3⟩]) := Lib.hid (by
    have h := recs_one_new (((w.alloc (.cells #[.int .u64 o0, .int .u64 o1] 40)).alloc (.cells #[.int .u64 h0, .int .u64 h1] 40)).alloc (.cells #[.int .i64 t, .string n1, .string n2, .string n3] 26)) ⟨t, n1, n2, n3⟩
    simp only [World.size_alloc] at h; exact h)
  go_enter Try.func5, Try.ntmps5
  go_wp2_with fail
  ((with_reducible refine (HR.out _ _ HN.out).mono ?_); rintro e w1 ⟨rfl, hb1⟩)
  have HA1 : Hid (Below (((w.alloc (.cells #[.int .u64 o0, .int .u64 o1] 40)).alloc (.cells #[.int .u64 h0, .int .u64 h1] 40)).alloc (.cells #[.int .i64 t, .string n1, .string n2, .string n3] 26)).heap.size (((w.alloc (.cells #[.int .u64 o0, .int .u64 o1] 40)).alloc (.cells #[.int .u64 h0, .int .u64 h1] 40)).alloc (.cells #[.int .i64 t, .string n1, .string n2, .string n3] 26)) w1) := Lib.hid ((bla (Below.refl _ (((w.alloc (.cells #[.int .u64 o0, .int .u64 o1] 40)).alloc (.cells #[.int .u64 h0, .int .u64 h1] 40)).alloc (.cells #[.int .i64 t, .string n1, .string n2, .string n3] 26))) (.cells #[.int .i64 t, .string n1, .string n2, .string n3] 26)).trans (hb1.mono (by simp)))
  have HB1 := Lib.hid (bl HB0.out HA1.out)
  have HX1 := Lib.hid ((HA1.out.block _ (lt_of_block HX0.out)).trans HX0.out)
  have HY1 := Lib.hid ((HA1.out.block _ (lt_of_block HY0.out)).trans HY0.out)
  have HZ1 := Lib.hid ((HA1.out.block _ (lt_of_block HZ0.out)).trans HZ0.out)
  clear hb1
  go_wp2_with fail
  ((with_reducible refine (awake_any _).mono ?_); rintro e w9 ⟨rfl, hb9⟩)
  have hb := bl HB1.out hb9
  go_wp2
  go_ret
  exact ⟨rfl, hb⟩
set_option maxRecDepth 100000 in
set_option maxHeartbeats 8000000 in
theorem verifies_long (o0 o1 h0 h1 n m t : Int) (n1 n2 n3 : BA) (a : Option Addr) (len cp : Nat) (w : World) (hl : 20 < len) (KR : ∀ W u, IsRecs W u [⟨t, n1, n2, n3⟩] → Calls Try.prog 10 #[.agg #[u]] W fun e w' => e = .returned (.bool false) ∧ Below W.heap.size W w') :
    Calls Try.prog 5 #[.agg #[.int .u64 o0, .int .u64 o1], .agg #[.int .u64 h0, .int .u64 h1], .int .i64 n, .int .i64 m, rv ⟨t, n1, n2, n3⟩, .slice a len cp] w fun e w' => e = .returned (.bool true) ∧ Below w.heap.size w w' := by
  have HR := Lib.hid KR
  have hl2 : decide ((20 : Int) < (len : Int)) = true := by simp; omega
  clear KR
  have HB0 : Hid (Below w.heap.size w (((w.alloc (.cells #[.int .u64 o0, .int .u64 o1] 40)).alloc (.cells #[.int .u64 h0, .int .u64 h1] 40)).alloc (.cells #[.int .i64 t, .string n1, .string n2, .string n3] 26))) := Lib.hid (bla (bla (bla (Below.refl _ _) _) _) _)
  have HX0 : Hid ((((w.alloc (.cells #[.int .u64 o0, .int .u64 o1] 40)).alloc (.cells #[.int .u64 h0, .int .u64 h1] 40)).alloc (.cells #[.int .i64 t, .string n1, .string n2, .string n3] 26)).heap[w.heap.size]? = some (.cells #[.int .u64 o0, .int .u64 o1] 40 (0, 0))) := Lib.hid ((Below.heap_alloc _ _ _ (by simp; omega)).trans ((Below.heap_alloc _ _ _ (by simp)).trans (World.alloc_heap_new _ _)))
  have HY0 : Hid ((((w.alloc (.cells #[.int .u64 o0, .int .u64 o1] 40)).alloc (.cells #[.int .u64 h0, .int .u64 h1] 40)).alloc (.cells #[.int .i64 t, .string n1, .string n2, .string n3] 26)).heap[w.heap.size + 1]? = some (.cells #[.int .u64 h0, .int .u64 h1] 40 (0, 0))) := Lib.hid (by
    have h := World.alloc_heap_new (w.alloc (.cells #[.int .u64 o0, .int .u64 o1] 40)) (.cells #[.int .u64 h0, .int .u64 h1] 40)
    rw [World.size_alloc] at h
    exact (Below.heap_alloc _ _ _ (by simp)).trans h)
  have HZ0 : Hid ((((w.alloc (.cells #[.int .u64 o0, .int .u64 o1] 40)).alloc (.cells #[.int .u64 h0, .int .u64 h1] 40)).alloc (.cells #[.int .i64 t, .string n1, .string n2, .string n3] 26)).heap[w.heap.size + 2]? = some (.cells #[.int .i64 t, .string n1, .string n2, .string n3] 26 (0, 0))) := Lib.hid (by
    have h := World.alloc_heap_new ((w.alloc (.cells #[.int .u64 o0, .int .u64 o1] 40)).alloc (.cells #[.int .u64 h0, .int .u64 h1] 40)) (.cells #[.int .i64 t, .string n1, .string n2, .string n3] 26)
    rw [World.size_alloc, World.size_alloc] at h; exact h)
  have HN : Hid (IsRecs ((((w.alloc (.cells #[.int .u64 o0, .int .u64 o1] 40)).alloc (.cells #[.int .u64 h0, .int .u64 h1] 40)).alloc (.cells #[.int .i64 t, .string n1, .string n2, .string n3] 26)).alloc (.cells #[.int .i64 t, .string n1, .string n2, .string n3] 26)) (.slice (some ⟨w.heap.size + 3, 0, none⟩) 1 1) [⟨t, n1, n2, n3⟩]) := Lib.hid (by
    have h := recs_one_new (((w.alloc (.cells #[.int .u64 o0, .int .u64 o1] 40)).alloc (.cells #[.int .u64 h0, .int .u64 h1] 40)).alloc (.cells #[.int .i64 t, .string n1, .string n2, .string n3] 26)) ⟨t, n1, n2, n3⟩
    simp only [World.size_alloc] at h; exact h)
  go_enter Try.func5, Try.ntmps5
  go_wp2_with fail
  ((with_reducible refine (HR.out _ _ HN.out).mono ?_); rintro e w1 ⟨rfl, hb1⟩)
  have HA1 : Hid (Below (((w.alloc (.cells #[.int .u64 o0, .int .u64 o1] 40)).alloc (.cells #[.int .u64 h0, .int .u64 h1] 40)).alloc (.cells #[.int .i64 t, .string n1, .string n2, .string n3] 26)).heap.size (((w.alloc (.cells #[.int .u64 o0, .int .u64 o1] 40)).alloc (.cells #[.int .u64 h0, .int .u64 h1] 40)).alloc (.cells #[.int .i64 t, .string n1, .string n2, .string n3] 26)) w1) := Lib.hid ((bla (Below.refl _ (((w.alloc (.cells #[.int .u64 o0, .int .u64 o1] 40)).alloc (.cells #[.int .u64 h0, .int .u64 h1] 40)).alloc (.cells #[.int .i64 t, .string n1, .string n2, .string n3] 26))) (.cells #[.int .i64 t, .string n1, .string n2, .string n3] 26)).trans (hb1.mono (by simp)))
  have HB1 := Lib.hid (bl HB0.out HA1.out)
  have HX1 := Lib.hid ((HA1.out.block _ (lt_of_block HX0.out)).trans HX0.out)
  have HY1 := Lib.hid ((HA1.out.block _ (lt_of_block HY0.out)).trans HY0.out)
  have HZ1 := Lib.hid ((HA1.out.block _ (lt_of_block HZ0.out)).trans HZ0.out)
  clear hb1
  go_wp2_with fail
  ((with_reducible refine (awake_any _).mono ?_); rintro e w9 ⟨rfl, hb9⟩)
  have hb := bl HB1.out hb9
  go_wp2
  go_ret
  exact ⟨rfl, hb⟩
set_option maxRecDepth 100000 in
set_option maxHeartbeats 8000000 in
theorem verifies_walk (o0 o1 h0 h1 n m t : Int) (n1 n2 n3 : BA) (a : Option Addr) (len cp : Nat) (qh qx : Bool) (w : World) (hl : len ≤ 20) (KR : ∀ W u, IsRecs W u [⟨t, n1, n2, n3⟩] → Calls Try.prog 10 #[.agg #[u]] W fun e w' => e = .returned (.bool false) ∧ Below W.heap.size W w')
    (K24 : ∀ W, Below w.heap.size w W → Calls Try.prog 24 #[.agg #[.int .u64 h0, .int .u64 h1], .int .i64 m, .int .i64 n, .agg #[.int .i64 t, .string n1, .string n2, .string n3], .slice a len cp] W fun e w' => e = .returned (.bool qh) ∧ Below W.heap.size W w')
    (K25 : ∀ W, Below w.heap.size w W → Calls Try.prog 25 #[.agg #[.int .u64 h0, .int .u64 h1], .int .i64 m, .int .i64 n, .agg #[.int .i64 t, .string n1, .string n2, .string n3], .slice a len cp] W fun e w' => e = .returned (.bool qh) ∧ Below W.heap.size W w')
    (K26 : ∀ W, Below w.heap.size w W → Calls Try.prog 26 #[.agg #[.int .u64 o0, .int .u64 o1], .int .i64 n, .agg #[.int .u64 h0, .int .u64 h1], .int .i64 m, .slice a len cp] W fun e w' => e = .returned (.bool qx) ∧ Below W.heap.size W w')
    (K27 : ∀ W, Below w.heap.size w W → Calls Try.prog 27 #[.agg #[.int .u64 o0, .int .u64 o1], .int .i64 n, .agg #[.int .u64 h0, .int .u64 h1], .int .i64 m, .slice a len cp] W fun e w' => e = .returned (.bool qx) ∧ Below W.heap.size W w') :
    Calls Try.prog 5 #[.agg #[.int .u64 o0, .int .u64 o1], .agg #[.int .u64 h0, .int .u64 h1], .int .i64 n, .int .i64 m, rv ⟨t, n1, n2, n3⟩, .slice a len cp] w fun e w' => e = .returned (.bool true) ∧ Below w.heap.size w w' := by
  have HR := Lib.hid KR
  have H24 := Lib.hid K24
  have H25 := Lib.hid K25
  have H26 := Lib.hid K26
  have H27 := Lib.hid K27
  have hl2 : decide ((20 : Int) < (len : Int)) = false := by simp; omega
  clear KR K24 K25 K26 K27
  have HB0 : Hid (Below w.heap.size w (((w.alloc (.cells #[.int .u64 o0, .int .u64 o1] 40)).alloc (.cells #[.int .u64 h0, .int .u64 h1] 40)).alloc (.cells #[.int .i64 t, .string n1, .string n2, .string n3] 26))) := Lib.hid (bla (bla (bla (Below.refl _ _) _) _) _)
  have HX0 : Hid ((((w.alloc (.cells #[.int .u64 o0, .int .u64 o1] 40)).alloc (.cells #[.int .u64 h0, .int .u64 h1] 40)).alloc (.cells #[.int .i64 t, .string n1, .string n2, .string n3] 26)).heap[w.heap.size]? = some (.cells #[.int .u64 o0, .int .u64 o1] 40 (0, 0))) := Lib.hid ((Below.heap_alloc _ _ _ (by simp; omega)).trans ((Below.heap_alloc _ _ _ (by simp)).trans (World.alloc_heap_new _ _)))
  have HY0 : Hid ((((w.alloc (.cells #[.int .u64 o0, .int .u64 o1] 40)).alloc (.cells #[.int .u64 h0, .int .u64 h1] 40)).alloc (.cells #[.int .i64 t, .string n1, .string n2, .string n3] 26)).heap[w.heap.size + 1]? = some (.cells #[.int .u64 h0, .int .u64 h1] 40 (0, 0))) := Lib.hid (by
    have h := World.alloc_heap_new (w.alloc (.cells #[.int .u64 o0, .int .u64 o1] 40)) (.cells #[.int .u64 h0, .int .u64 h1] 40)
    rw [World.size_alloc] at h
    exact (Below.heap_alloc _ _ _ (by simp)).trans h)
  have HZ0 : Hid ((((w.alloc (.cells #[.int .u64 o0, .int .u64 o1] 40)).alloc (.cells #[.int .u64 h0, .int .u64 h1] 40)).alloc (.cells #[.int .i64 t, .string n1, .string n2, .string n3] 26)).heap[w.heap.size + 2]? = some (.cells #[.int .i64 t, .string n1, .string n2, .string n3] 26 (0, 0))) := Lib.hid (by
    have h := World.alloc_heap_new ((w.alloc (.cells #[.int .u64 o0, .int .u64 o1] 40)).alloc (.cells #[.int .u64 h0, .int .u64 h1] 40)) (.cells #[.int .i64 t, .string n1, .string n2, .string n3] 26)
    rw [World.size_alloc, World.size_alloc] at h; exact h)
  have HN : Hid (IsRecs ((((w.alloc (.cells #[.int .u64 o0, .int .u64 o1] 40)).alloc (.cells #[.int .u64 h0, .int .u64 h1] 40)).alloc (.cells #[.int .i64 t, .string n1, .string n2, .string n3] 26)).alloc (.cells #[.int .i64 t, .string n1, .string n2, .string n3] 26)) (.slice (some ⟨w.heap.size + 3, 0, none⟩) 1 1) [⟨t, n1, n2, n3⟩]) := Lib.hid (by
    have h := recs_one_new (((w.alloc (.cells #[.int .u64 o0, .int .u64 o1] 40)).alloc (.cells #[.int .u64 h0, .int .u64 h1] 40)).alloc (.cells #[.int .i64 t, .string n1, .string n2, .string n3] 26)) ⟨t, n1, n2, n3⟩
    simp only [World.size_alloc] at h; exact h)
  go_enter Try.func5, Try.ntmps5
  go_wp2_with fail
  ((with_reducible refine (HR.out _ _ HN.out).mono ?_); rintro e w1 ⟨rfl, hb1⟩)
  have HA1 : Hid (Below (((w.alloc (.cells #[.int .u64 o0, .int .u64 o1] 40)).alloc (.cells #[.int .u64 h0, .int .u64 h1] 40)).alloc (.cells #[.int .i64 t, .string n1, .string n2, .string n3] 26)).heap.size (((w.alloc (.cells #[.int .u64 o0, .int .u64 o1] 40)).alloc (.cells #[.int .u64 h0, .int .u64 h1] 40)).alloc (.cells #[.int .i64 t, .string n1, .string n2, .string n3] 26)) w1) := Lib.hid ((bla (Below.refl _ (((w.alloc (.cells #[.int .u64 o0, .int .u64 o1] 40)).alloc (.cells #[.int .u64 h0, .int .u64 h1] 40)).alloc (.cells #[.int .i64 t, .string n1, .string n2, .string n3] 26))) (.cells #[.int .i64 t, .string n1, .string n2, .string n3] 26)).trans (hb1.mono (by simp)))
  have HB1 := Lib.hid (bl HB0.out HA1.out)
  have HX1 := Lib.hid ((HA1.out.block _ (lt_of_block HX0.out)).trans HX0.out)
  have HY1 := Lib.hid ((HA1.out.block _ (lt_of_block HY0.out)).trans HY0.out)
  have HZ1 := Lib.hid ((HA1.out.block _ (lt_of_block HZ0.out)).trans HZ0.out)
  clear hb1
  go_wp2_with fail
  have below : Below (w1.heap.size) w1 w1 := Below.refl _ _
  have HBW : Hid (w1.heap.size ≤ w1.heap.size) := Lib.hid below.size
  have HKEEP : Hid (Keep (w1.heap.size) w1 [((w.heap.size, .cells #[.int .u64 o0, .int .u64 o1] 40) : Nat × Obj), ((w.heap.size + 1, .cells #[.int .u64 h0, .int .u64 h1] 40) : Nat × Obj), ((w.heap.size + 2, .cells #[.int .i64 t, .string n1, .string n2, .string n3] 26) : Nat × Obj)] w1) := Lib.hid ⟨below, by
    intro p hp
    simp only [List.mem_cons, List.not_mem_nil, or_false] at hp
    rcases hp with rfl | rfl | rfl
    · exact HX1.out
    · exact HY1.out
    · exact HZ1.out⟩
  clear below
  have HOLD0 : Hid (∀ b ∈ ([] : List RBox), b.al = none → w1.heap[b.blk]? = some (.cells b.z b.T (0, 0)) ∧ w1.heap.size ≤ b.blk ∧ ∀ p ∈ [((w.heap.size, .cells #[.int .u64 o0, .int .u64 o1] 40) : Nat × Obj), ((w.heap.size + 1, .cells #[.int .u64 h0, .int .u64 h1] 40) : Nat × Obj), ((w.heap.size + 2, .cells #[.int .i64 t, .string n1, .string n2, .string n3] 26) : Nat × Obj)], p.1 ≠ b.blk) := Lib.hid (by intro b hb; cases hb)
  have hqh : (qh == qh) = true := by simp
  have hqx : (qx == qx) = true := by simp
  refine wp_region_box (w1.heap.size) w1 [(w.heap.size, .cells #[.int .u64 o0, .int .u64 o1] 40), (w.heap.size + 1, .cells #[.int .u64 h0, .int .u64 h1] 40), (w.heap.size + 2, .cells #[.int .i64 t, .string n1, .string n2, .string n3] 26)] [] (fun i => ([(.agg #[.int .u64 h0, .int .u64 h1]), (.int .i64 m), (.int .i64 n), (.agg #[.int .i64 t, .string n1, .string n2, .string n3]), (.slice a len cp), (.bool qh), (.agg #[.int .u64 h0, .int .u64 h1]), (.int .i64 m), (.int .i64 n), (.agg #[.int .i64 t, .string n1, .string n2, .string n3]), (.slice a len cp), (.bool qh), (.bool true), (.bool true), (.agg #[.int .u64 o0, .int .u64 o1]), (.int .i64 n), (.agg #[.int .u64 h0, .int .u64 h1]), (.int .i64 m), (.slice a len cp), (.bool qx), (.agg #[.int .u64 o0, .int .u64 o1]), (.int .i64 n), (.agg #[.int .u64 h0, .int .u64 h1]), (.int .i64 m), (.slice a len cp), (.bool qx), (.bool true), (.bool true), (.bool true), (.bool true), (.bool true), (.bool true)] : List Value).getD i undef) (by kernel_rfl) (by kernel_rfl) (by kernel_rfl) (by rfl) (by simp) (by rfl) HBW.out HKEEP.out HOLD0.out ?_ ?_
  · refine ⟨?_, ?_, ?_, ?_, ?_, ?_, ?_, ?_, ?_, ?_, ?_, ?_, ?_, ?_, ?_, ?_, ?_, ?_, ?_, ?_, ?_, ?_, ?_, ?_, ?_, ?_, ?_, ?_, ?_, ?_, ?_, ?_, trivial⟩
    · refine stepG_plain rfl rfl fun g ac W hK hk => ?_
      have h7 : ac.tmps[7]? = some (.pointer (some ⟨w.heap.size + 1, 0, none⟩)) := hk.keep 7 rfl
      have mxq := hK.get 1 rfl
      have q0 : W.cell? ⟨w.heap.size + 1, 0, none⟩ = some (.int .u64 h0) := by rw [Lib.cell_of_heap mxq]; rfl
      have q1 : W.cell? ⟨w.heap.size + 1, 1, none⟩ = some (.int .u64 h1) := by rw [Lib.cell_of_heap mxq]; rfl
      refine wpOp_of rfl rfl ?_
      unfold Oper.wp
      simp [execOp, go_sem, h7, q0, q1]
      first | exact ⟨rfl, Below.refl _ _⟩ | exact Below.refl _ _
    · refine stepG_plain rfl rfl fun g ac W hK hk => ?_
      have h3 : ac.tmps[3]? = some (.int .i64 m) := hk.keep 3 rfl
      refine wpOp_of rfl rfl ?_
      unfold Oper.wp
      simp [execOp, go_sem, h3]
      first | exact ⟨rfl, Below.refl _ _⟩ | exact Below.refl _ _
    · refine stepG_plain rfl rfl fun g ac W hK hk => ?_
      have h2 : ac.tmps[2]? = some (.int .i64 n) := hk.keep 2 rfl
      refine wpOp_of rfl rfl ?_
      unfold Oper.wp
      simp [execOp, go_sem, h2]
      first | exact ⟨rfl, Below.refl _ _⟩ | exact Below.refl _ _
    · refine stepG_plain rfl rfl fun g ac W hK hk => ?_
      have h10 : ac.tmps[10]? = some (.pointer (some ⟨w.heap.size + 2, 0, none⟩)) := hk.keep 10 rfl
      have mxq := hK.get 2 rfl
      have q0 : W.cell? ⟨w.heap.size + 2, 0, none⟩ = some (.int .i64 t) := by rw [Lib.cell_of_heap mxq]; rfl
      have q1 : W.cell? ⟨w.heap.size + 2, 1, none⟩ = some (.string n1) := by rw [Lib.cell_of_heap mxq]; rfl
      have q2 : W.cell? ⟨w.heap.size + 2, 2, none⟩ = some (.string n2) := by rw [Lib.cell_of_heap mxq]; rfl
      have q3 : W.cell? ⟨w.heap.size + 2, 3, none⟩ = some (.string n3) := by rw [Lib.cell_of_heap mxq]; rfl
      refine wpOp_of rfl rfl ?_
      unfold Oper.wp
      simp [execOp, go_sem, h10, q0, q1, q2, q3]
      first | exact ⟨rfl, Below.refl _ _⟩ | exact Below.refl _ _
    · refine stepG_plain rfl rfl fun g ac W hK hk => ?_
      have h5 : ac.tmps[5]? = some (.slice a len cp) := hk.keep 5 rfl
      refine wpOp_of rfl rfl ?_
      unfold Oper.wp
      simp [execOp, go_sem, h5]
      first | exact ⟨rfl, Below.refl _ _⟩ | exact Below.refl _ _
    · refine stepG_plain rfl rfl fun g ac W hK hk => ?_
      have h23 : ac.tmps[23]? = some (.agg #[.int .u64 h0, .int .u64 h1]) := hk.has 0 _ 23 rfl rfl rfl (by simp) rfl
      have h24 : ac.tmps[24]? = some (.int .i64 m) := hk.has 1 _ 24 rfl rfl rfl (by simp) rfl
      have h25 : ac.tmps[25]? = some (.int .i64 n) := hk.has 2 _ 25 rfl rfl rfl (by simp) rfl
      have h26 : ac.tmps[26]? = some (.agg #[.int .i64 t, .string n1, .string n2, .string n3]) := hk.has 3 _ 26 rfl rfl rfl (by simp) rfl
      have h27 : ac.tmps[27]? = some (.slice a len cp) := hk.has 4 _ 27 rfl rfl rfl (by simp) rfl
      refine wpOp_of rfl rfl ?_
      unfold Oper.wp
      simp [execOp, go_sem, h23, h24, h25, h26, h27]
      refine (H24.out W (bl HB1.out hK.1)).mono ?_
      rintro e w' ⟨rfl, hb⟩
      exact ⟨rfl, hb⟩
    · refine stepG_plain rfl rfl fun g ac W hK hk => ?_
      have h7 : ac.tmps[7]? = some (.pointer (some ⟨w.heap.size + 1, 0, none⟩)) := hk.keep 7 rfl
      have mxq := hK.get 1 rfl
      have q0 : W.cell? ⟨w.heap.size + 1, 0, none⟩ = some (.int .u64 h0) := by rw [Lib.cell_of_heap mxq]; rfl
      have q1 : W.cell? ⟨w.heap.size + 1, 1, none⟩ = some (.int .u64 h1) := by rw [Lib.cell_of_heap mxq]; rfl
      refine wpOp_of rfl rfl ?_
      unfold Oper.wp
      simp [execOp, go_sem, h7, q0, q1]
      first | exact ⟨rfl, Below.refl _ _⟩ | exact Below.refl _ _
    · refine stepG_plain rfl rfl fun g ac W hK hk => ?_
      have h3 : ac.tmps[3]? = some (.int .i64 m) := hk.keep 3 rfl
      refine wpOp_of rfl rfl ?_
      unfold Oper.wp
      simp [execOp, go_sem, h3]
      first | exact ⟨rfl, Below.refl _ _⟩ | exact Below.refl _ _
    · refine stepG_plain rfl rfl fun g ac W hK hk => ?_
      have h2 : ac.tmps[2]? = some (.int .i64 n) := hk.keep 2 rfl
      refine wpOp_of rfl rfl ?_
      unfold Oper.wp
      simp [execOp, go_sem, h2]
      first | exact ⟨rfl, Below.refl _ _⟩ | exact Below.refl _ _
    · refine stepG_plain rfl rfl fun g ac W hK hk => ?_
      have h10 : ac.tmps[10]? = some (.pointer (some ⟨w.heap.size + 2, 0, none⟩)) := hk.keep 10 rfl
      have mxq := hK.get 2 rfl
      have q0 : W.cell? ⟨w.heap.size + 2, 0, none⟩ = some (.int .i64 t) := by rw [Lib.cell_of_heap mxq]; rfl
      have q1 : W.cell? ⟨w.heap.size + 2, 1, none⟩ = some (.string n1) := by rw [Lib.cell_of_heap mxq]; rfl
      have q2 : W.cell? ⟨w.heap.size + 2, 2, none⟩ = some (.string n2) := by rw [Lib.cell_of_heap mxq]; rfl
      have q3 : W.cell? ⟨w.heap.size + 2, 3, none⟩ = some (.string n3) := by rw [Lib.cell_of_heap mxq]; rfl
      refine wpOp_of rfl rfl ?_
      unfold Oper.wp
      simp [execOp, go_sem, h10, q0, q1, q2, q3]
      first | exact ⟨rfl, Below.refl _ _⟩ | exact Below.refl _ _
    · refine stepG_plain rfl rfl fun g ac W hK hk => ?_
      have h5 : ac.tmps[5]? = some (.slice a len cp) := hk.keep 5 rfl
      refine wpOp_of rfl rfl ?_
      unfold Oper.wp
      simp [execOp, go_sem, h5]
      first | exact ⟨rfl, Below.refl _ _⟩ | exact Below.refl _ _
    · refine stepG_plain rfl rfl fun g ac W hK hk => ?_
      have h29 : ac.tmps[29]? = some (.agg #[.int .u64 h0, .int .u64 h1]) := hk.has 6 _ 29 rfl rfl rfl (by simp) rfl
      have h30 : ac.tmps[30]? = some (.int .i64 m) := hk.has 7 _ 30 rfl rfl rfl (by simp) rfl
      have h31 : ac.tmps[31]? = some (.int .i64 n) := hk.has 8 _ 31 rfl rfl rfl (by simp) rfl
      have h32 : ac.tmps[32]? = some (.agg #[.int .i64 t, .string n1, .string n2, .string n3]) := hk.has 9 _ 32 rfl rfl rfl (by simp) rfl
      have h33 : ac.tmps[33]? = some (.slice a len cp) := hk.has 10 _ 33 rfl rfl rfl (by simp) rfl
      refine wpOp_of rfl rfl ?_
      unfold Oper.wp
      simp [execOp, go_sem, h29, h30, h31, h32, h33]
      refine (H25.out W (bl HB1.out hK.1)).mono ?_
      rintro e w' ⟨rfl, hb⟩
      exact ⟨rfl, hb⟩
    · refine stepG_plain rfl rfl fun g ac W hK hk => ?_
      have h28 : ac.tmps[28]? = some (.bool qh) := hk.has 5 _ 28 rfl rfl rfl (by simp) rfl
      have h34 : ac.tmps[34]? = some (.bool qh) := hk.has 11 _ 34 rfl rfl rfl (by simp) rfl
      refine wpOp_of rfl rfl ?_
      unfold Oper.wp
      simp [execOp, go_sem, h28, h34]
      first | exact ⟨rfl, Below.refl _ _⟩ | exact Below.refl _ _
    · refine stepG_plain rfl rfl fun g ac W hK hk => ?_
      have h35 : ac.tmps[35]? = some (.bool true) := hk.has 12 _ 35 rfl rfl rfl (by simp) rfl
      refine wpOp_of rfl rfl ?_
      unfold Oper.wp
      simp [execOp, go_sem, h35]
      first | exact ⟨rfl, Below.refl _ _⟩ | exact Below.refl _ _
    · refine stepG_plain rfl rfl fun g ac W hK hk => ?_
      have h6 : ac.tmps[6]? = some (.pointer (some ⟨w.heap.size, 0, none⟩)) := hk.keep 6 rfl
      have hg : ac.tmps[36]? = some (.bool true) := hk.has 13 _ 36 rfl rfl rfl (by simp) rfl
      have mxq := hK.get 0 rfl
      have q0 : W.cell? ⟨w.heap.size, 0, none⟩ = some (.int .u64 o0) := by rw [Lib.cell_of_heap mxq]; rfl
      have q1 : W.cell? ⟨w.heap.size, 1, none⟩ = some (.int .u64 o1) := by rw [Lib.cell_of_heap mxq]; rfl
      refine wpOp_of rfl (by simp [Region.wanted, yielded, hg]) ?_
      unfold Oper.wp
      simp [execOp, go_sem, h6, q0, q1]
      first | exact ⟨rfl, Below.refl _ _⟩ | exact Below.refl _ _
    · refine stepG_plain rfl rfl fun g ac W hK hk => ?_
      have h2 : ac.tmps[2]? = some (.int .i64 n) := hk.keep 2 rfl
      have hg : ac.tmps[36]? = some (.bool true) := hk.has 13 _ 36 rfl rfl rfl (by simp) rfl
      refine wpOp_of rfl (by simp [Region.wanted, yielded, hg]) ?_
      unfold Oper.wp
      simp [execOp, go_sem, h2]
      first | exact ⟨rfl, Below.refl _ _⟩ | exact Below.refl _ _
    · refine stepG_plain rfl rfl fun g ac W hK hk => ?_
      have h7 : ac.tmps[7]? = some (.pointer (some ⟨w.heap.size + 1, 0, none⟩)) := hk.keep 7 rfl
      have hg : ac.tmps[36]? = some (.bool true) := hk.has 13 _ 36 rfl rfl rfl (by simp) rfl
      have mxq := hK.get 1 rfl
      have q0 : W.cell? ⟨w.heap.size + 1, 0, none⟩ = some (.int .u64 h0) := by rw [Lib.cell_of_heap mxq]; rfl
      have q1 : W.cell? ⟨w.heap.size + 1, 1, none⟩ = some (.int .u64 h1) := by rw [Lib.cell_of_heap mxq]; rfl
      refine wpOp_of rfl (by simp [Region.wanted, yielded, hg]) ?_
      unfold Oper.wp
      simp [execOp, go_sem, h7, q0, q1]
      first | exact ⟨rfl, Below.refl _ _⟩ | exact Below.refl _ _
    · refine stepG_plain rfl rfl fun g ac W hK hk => ?_
      have h3 : ac.tmps[3]? = some (.int .i64 m) := hk.keep 3 rfl
      have hg : ac.tmps[36]? = some (.bool true) := hk.has 13 _ 36 rfl rfl rfl (by simp) rfl
      refine wpOp_of rfl (by simp [Region.wanted, yielded, hg]) ?_
      unfold Oper.wp
      simp [execOp, go_sem, h3]
      first | exact ⟨rfl, Below.refl _ _⟩ | exact Below.refl _ _
    · refine stepG_plain rfl rfl fun g ac W hK hk => ?_
      have h5 : ac.tmps[5]? = some (.slice a len cp) := hk.keep 5 rfl
      have hg : ac.tmps[36]? = some (.bool true) := hk.has 13 _ 36 rfl rfl rfl (by simp) rfl
      refine wpOp_of rfl (by simp [Region.wanted, yielded, hg]) ?_
      unfold Oper.wp
      simp [execOp, go_sem, h5]
      first | exact ⟨rfl, Below.refl _ _⟩ | exact Below.refl _ _
    · refine stepG_plain rfl rfl fun g ac W hK hk => ?_
      have h37 : ac.tmps[37]? = some (.agg #[.int .u64 o0, .int .u64 o1]) := hk.has 14 _ 37 rfl rfl rfl (by simp) rfl
      have h38 : ac.tmps[38]? = some (.int .i64 n) := hk.has 15 _ 38 rfl rfl rfl (by simp) rfl
      have h39 : ac.tmps[39]? = some (.agg #[.int .u64 h0, .int .u64 h1]) := hk.has 16 _ 39 rfl rfl rfl (by simp) rfl
      have h40 : ac.tmps[40]? = some (.int .i64 m) := hk.has 17 _ 40 rfl rfl rfl (by simp) rfl
      have h41 : ac.tmps[41]? = some (.slice a len cp) := hk.has 18 _ 41 rfl rfl rfl (by simp) rfl
      have hg : ac.tmps[36]? = some (.bool true) := hk.has 13 _ 36 rfl rfl rfl (by simp) rfl
      refine wpOp_of rfl (by simp [Region.wanted, yielded, hg]) ?_
      unfold Oper.wp
      simp [execOp, go_sem, h37, h38, h39, h40, h41]
      refine (H26.out W (bl HB1.out hK.1)).mono ?_
      rintro e w' ⟨rfl, hb⟩
      exact ⟨rfl, hb⟩
    · refine stepG_plain rfl rfl fun g ac W hK hk => ?_
      have h6 : ac.tmps[6]? = some (.pointer (some ⟨w.heap.size, 0, none⟩)) := hk.keep 6 rfl
      have hg : ac.tmps[36]? = some (.bool true) := hk.has 13 _ 36 rfl rfl rfl (by simp) rfl
      have mxq := hK.get 0 rfl
      have q0 : W.cell? ⟨w.heap.size, 0, none⟩ = some (.int .u64 o0) := by rw [Lib.cell_of_heap mxq]; rfl
      have q1 : W.cell? ⟨w.heap.size, 1, none⟩ = some (.int .u64 o1) := by rw [Lib.cell_of_heap mxq]; rfl
      refine wpOp_of rfl (by simp [Region.wanted, yielded, hg]) ?_
      unfold Oper.wp
      simp [execOp, go_sem, h6, q0, q1]
      first | exact ⟨rfl, Below.refl _ _⟩ | exact Below.refl _ _
    · refine stepG_plain rfl rfl fun g ac W hK hk => ?_
      have h2 : ac.tmps[2]? = some (.int .i64 n) := hk.keep 2 rfl
      have hg : ac.tmps[36]? = some (.bool true) := hk.has 13 _ 36 rfl rfl rfl (by simp) rfl
      refine wpOp_of rfl (by simp [Region.wanted, yielded, hg]) ?_
      unfold Oper.wp
      simp [execOp, go_sem, h2]
      first | exact ⟨rfl, Below.refl _ _⟩ | exact Below.refl _ _
    · refine stepG_plain rfl rfl fun g ac W hK hk => ?_
      have h7 : ac.tmps[7]? = some (.pointer (some ⟨w.heap.size + 1, 0, none⟩)) := hk.keep 7 rfl
      have hg : ac.tmps[36]? = some (.bool true) := hk.has 13 _ 36 rfl rfl rfl (by simp) rfl
      have mxq := hK.get 1 rfl
      have q0 : W.cell? ⟨w.heap.size + 1, 0, none⟩ = some (.int .u64 h0) := by rw [Lib.cell_of_heap mxq]; rfl
      have q1 : W.cell? ⟨w.heap.size + 1, 1, none⟩ = some (.int .u64 h1) := by rw [Lib.cell_of_heap mxq]; rfl
      refine wpOp_of rfl (by simp [Region.wanted, yielded, hg]) ?_
      unfold Oper.wp
      simp [execOp, go_sem, h7, q0, q1]
      first | exact ⟨rfl, Below.refl _ _⟩ | exact Below.refl _ _
    · refine stepG_plain rfl rfl fun g ac W hK hk => ?_
      have h3 : ac.tmps[3]? = some (.int .i64 m) := hk.keep 3 rfl
      have hg : ac.tmps[36]? = some (.bool true) := hk.has 13 _ 36 rfl rfl rfl (by simp) rfl
      refine wpOp_of rfl (by simp [Region.wanted, yielded, hg]) ?_
      unfold Oper.wp
      simp [execOp, go_sem, h3]
      first | exact ⟨rfl, Below.refl _ _⟩ | exact Below.refl _ _
    · refine stepG_plain rfl rfl fun g ac W hK hk => ?_
      have h5 : ac.tmps[5]? = some (.slice a len cp) := hk.keep 5 rfl
      have hg : ac.tmps[36]? = some (.bool true) := hk.has 13 _ 36 rfl rfl rfl (by simp) rfl
      refine wpOp_of rfl (by simp [Region.wanted, yielded, hg]) ?_
      unfold Oper.wp
      simp [execOp, go_sem, h5]
      first | exact ⟨rfl, Below.refl _ _⟩ | exact Below.refl _ _
    · refine stepG_plain rfl rfl fun g ac W hK hk => ?_
      have h43 : ac.tmps[43]? = some (.agg #[.int .u64 o0, .int .u64 o1]) := hk.has 20 _ 43 rfl rfl rfl (by simp) rfl
      have h44 : ac.tmps[44]? = some (.int .i64 n) := hk.has 21 _ 44 rfl rfl rfl (by simp) rfl
      have h45 : ac.tmps[45]? = some (.agg #[.int .u64 h0, .int .u64 h1]) := hk.has 22 _ 45 rfl rfl rfl (by simp) rfl
      have h46 : ac.tmps[46]? = some (.int .i64 m) := hk.has 23 _ 46 rfl rfl rfl (by simp) rfl
      have h47 : ac.tmps[47]? = some (.slice a len cp) := hk.has 24 _ 47 rfl rfl rfl (by simp) rfl
      have hg : ac.tmps[36]? = some (.bool true) := hk.has 13 _ 36 rfl rfl rfl (by simp) rfl
      refine wpOp_of rfl (by simp [Region.wanted, yielded, hg]) ?_
      unfold Oper.wp
      simp [execOp, go_sem, h43, h44, h45, h46, h47]
      refine (H27.out W (bl HB1.out hK.1)).mono ?_
      rintro e w' ⟨rfl, hb⟩
      exact ⟨rfl, hb⟩
    · refine stepG_plain rfl rfl fun g ac W hK hk => ?_
      have h42 : ac.tmps[42]? = some (.bool qx) := hk.has 19 _ 42 rfl rfl rfl (by simp) rfl
      have h48 : ac.tmps[48]? = some (.bool qx) := hk.has 25 _ 48 rfl rfl rfl (by simp) rfl
      have hg : ac.tmps[36]? = some (.bool true) := hk.has 13 _ 36 rfl rfl rfl (by simp) rfl
      refine wpOp_of rfl (by simp [Region.wanted, yielded, hg]) ?_
      unfold Oper.wp
      simp [execOp, go_sem, h42, h48]
      first | exact ⟨rfl, Below.refl _ _⟩ | exact Below.refl _ _
    · refine stepG_plain rfl rfl fun g ac W hK hk => ?_
      have h36 : ac.tmps[36]? = some (.bool true) := hk.has 13 _ 36 rfl rfl rfl (by simp) rfl
      have h49 : ac.tmps[49]? = some (.bool true) := hk.has 26 _ 49 rfl rfl rfl (by simp) rfl
      refine wpOp_of rfl rfl ?_
      unfold Oper.wp
      simp [execOp, go_sem, h36, h49]
      first | exact ⟨rfl, Below.refl _ _⟩ | exact Below.refl _ _
    · refine stepG_plain rfl rfl fun g ac W hK hk => ?_
      have h50 : ac.tmps[50]? = some (.bool true) := hk.has 27 _ 50 rfl rfl rfl (by simp) rfl
      refine wpOp_of rfl rfl ?_
      unfold Oper.wp
      simp [execOp, go_sem, h50]
      first | exact ⟨rfl, Below.refl _ _⟩ | exact Below.refl _ _
    · refine stepG_plain rfl rfl fun g ac W hK hk => ?_
      have hg : ac.tmps[51]? = some (.bool true) := hk.has 28 _ 51 rfl rfl rfl (by simp) rfl
      refine wpOp_of rfl (by simp [Region.wanted, yielded, hg]) ?_
      unfold Oper.wp
      simp [execOp, go_sem]
      refine (awake_any W).mono ?_
      rintro e w' ⟨rfl, hb⟩
      exact ⟨rfl, hb⟩
    · refine stepG_plain rfl rfl fun g ac W hK hk => ?_
      have h51 : ac.tmps[51]? = some (.bool true) := hk.has 28 _ 51 rfl rfl rfl (by simp) rfl
      have h52 : ac.tmps[52]? = some (.bool true) := hk.has 29 _ 52 rfl rfl rfl (by simp) rfl
      refine wpOp_of rfl rfl ?_
      unfold Oper.wp
      simp [execOp, go_sem, h51, h52]
      first | exact ⟨rfl, Below.refl _ _⟩ | exact Below.refl _ _
    · refine stepG_plain rfl rfl fun g ac W hK hk => ?_
      have h53 : ac.tmps[53]? = some (.bool true) := hk.has 30 _ 53 rfl rfl rfl (by simp) rfl
      refine wpOp_of rfl rfl ?_
      unfold Oper.wp
      simp [execOp, go_sem, h53]
      first | exact ⟨rfl, Below.refl _ _⟩ | exact Below.refl _ _
  · intro g W hK hsz hB hd
    simp [frameOf, Act.put, valG]
    have HW := Lib.hid (bl HB1.out hK.1)
    clear hK hB hd hsz
    go_wp2
    go_ret
    exact ⟨rfl, HW.out⟩

theorem verifiesLaw_any (old head : Dig) (n m : Int) (r : Rec) (L : List Dig) (v : Value) (w : World) (hr : r.Fit) (hv : IsDigs w v L) :
    Calls Try.prog 5 #[old.v, head.v, .int .i64 n, .int .i64 m, rv r, v] w fun e w' => e = .returned (.bool true) ∧ Below w.heap.size w w' := by
  obtain ⟨a, c, e, _⟩ := id hv
  subst e
  have hr1 : ∀ x ∈ [r], x.Fit := fun x hx => by rw [List.mem_singleton.1 hx]; exact hr
  cases hbig : bigL [r] with
  | true => exact verifies_big old.1 old.2 head.1 head.2 n m r.time r.who r.what r.data a L.length c w fun W u hu => great_any [r] u W hu hr1 true hbig
  | false =>
    by_cases hl : L.length ≤ 20
    · exact verifies_walk old.1 old.2 head.1 head.2 n m r.time r.who r.what r.data a L.length c (holdM head.1 head.2 m n r L) (xtM old n head m L) w hl (fun W u hu => great_any [r] u W hu hr1 false hbig)
        (fun W hW => holds_any head.1 head.2 m n r L _ W hr (hv.below hW)) (fun W hW => refHolds_any head.1 head.2 m n r L _ W hr (hv.below hW)) (fun W hW => extends_any old n head m L _ W (hv.below hW)) (fun W hW => refExtends_any old n head m L _ W (hv.below hW))
    · exact verifies_long old.1 old.2 head.1 head.2 n m r.time r.who r.what r.data a L.length c w (by omega) fun W u hu => great_any [r] u W hu hr1 false hbig

section
variable {H : Type} {enc : TypeId × Value → H} {P : Program} {w : World} {base : Nat} {spare : Nat → Bool} {held : Bool}
theorem trodAll_six {t t1 t2 t3 t4 t5 : TypeId} {args : Array Value} {ds : List (DataW H)} {ps : List MemPlace} (h : DataW.TrodAll enc P w base spare held [t, t1, t2, t3, t4, t5] args.toList ds ps) :
    ∃ v v1 v2 v3 v4 v5 d d1 d2 d3 d4 d5 p p1 p2 p3 p4 p5, args = #[v, v1, v2, v3, v4, v5] ∧ ds = [d, d1, d2, d3, d4, d5] ∧ ps = p ++ p1 ++ p2 ++ p3 ++ p4 ++ p5 ∧ DataW.Trod enc P w base spare held t v d p ∧ DataW.Trod enc P w base spare held t1 v1 d1 p1 ∧ DataW.Trod enc P w base spare held t2 v2 d2 p2 ∧
      DataW.Trod enc P w base spare held t3 v3 d3 p3 ∧ DataW.Trod enc P w base spare held t4 v4 d4 p4 ∧ DataW.Trod enc P w base spare held t5 v5 d5 p5 := by
  obtain ⟨v, vs, d, ds', p, q, hargs, rfl, rfl, hd, hrest⟩ := trodAll_cons h
  obtain ⟨v1, vs1, d1, ds1, p1, q1, rfl, rfl, rfl, hd1, hrest1⟩ := trodAll_cons hrest
  obtain ⟨v2, vs2, d2, ds2, p2, q2, rfl, rfl, rfl, hd2, hrest2⟩ := trodAll_cons hrest1
  obtain ⟨v3, vs3, d3, ds3, p3, q3, rfl, rfl, rfl, hd3, hrest3⟩ := trodAll_cons hrest2
  obtain ⟨v4, vs4, d4, ds4, p4, q4, rfl, rfl, rfl, hd4, hrest4⟩ := trodAll_cons hrest3
  obtain ⟨v5, vs5, d5, ds5, p5, q5, rfl, rfl, rfl, hd5, hrest5⟩ := trodAll_cons hrest4
  obtain ⟨rfl, rfl, rfl⟩ := trodAll_nil hrest5
  exact ⟨v, v1, v2, v3, v4, v5, d, d1, d2, d3, d4, d5, p, p1, p2, p3, p4, p5, by cases args; simp_all, rfl, by simp, hd, hd1, hd2, hd3, hd4, hd5⟩
end

set_option maxRecDepth 100000 in
theorem verifies_lifted (os : Os) (started : os.Started) (H : Type) (enc : TypeId × Value → H) :
    ReturnsInHanded {} Try.checked os 5 .any (Rows.ledgerVerifiesSpec.pre6 enc Try.prog Try.f5 Rows.ledgerVerifiesRow.domain false) (Rows.ledgerVerifiesSpec.post enc Try.prog Try.f5 false true false false) := by
  refine returnsInHanded_of_change (C := Try.checked) ownK started (by kernel_rfl) Try.func5
    (ChangeSpec.witness6 (enc := enc) (C := Try.checked) false ⟨#[], #[.agg #[.int .u64 0, .int .u64 0], .agg #[.int .u64 0, .int .u64 0], .int .i64 0, .int .i64 0, .agg #[.int .i64 0, .string ⟨#[]⟩, .string ⟨#[]⟩, .string ⟨#[]⟩], .slice none 0 0], []⟩ 8 (by kernel_rfl) (by kernel_rfl) (by kernel_rfl) (by kernel_rfl)) ?_
  intro W base args ds gs before hval0 hW hcnd _
  have hval : ∀ (j : Nat) t v, Try.f5.params[j]? = some t → args[j]? = some v → Value.okWide Try.prog W .any base t v := hval0
  have hW' := hW
  obtain ⟨p, q, hA0, hV, rfl, hfz, hnd⟩ := hW
  have hA : DataW.TrodAll enc Try.prog W 0 (fun _ => true) true Try.f5.params.toList args.toList ds p := hA0
  rw [Try.params5] at hA hval
  obtain ⟨v0, v1, v2, v3, v4, v5, d0, d1, d2, d3, d4, d5, p0, p1, p2, p3, p4, p5, rfl, rfl, rfl, h0, h1, h2, h3, h4, h5⟩ := trodAll_six hA
  obtain ⟨rfl, rfl⟩ := trodVars_none hV
  have k0 := h0
  have lt0 : ∀ x ∈ p0, x.block < W.heap.size := by obtain ⟨m, hm⟩ := k0; exact DataW.trod_lt m _ _ _ hm
  have k1 := h1
  have lt1 : ∀ x ∈ p1, x.block < W.heap.size := by obtain ⟨m, hm⟩ := k1; exact DataW.trod_lt m _ _ _ hm
  have k4 := h4
  have lt4 : ∀ x ∈ p4, x.block < W.heap.size := by obtain ⟨m, hm⟩ := k4; exact DataW.trod_lt m _ _ _ hm
  have k5 := h5
  have lt5 : ∀ x ∈ p5, x.block < W.heap.size := by obtain ⟨m, hm⟩ := k5; exact DataW.trod_lt m _ _ _ hm
  obtain ⟨old, rfl, _⟩ := open_dig (hval 0 40 v0 rfl rfl) h0
  obtain ⟨hd, rfl, _⟩ := open_dig (hval 1 40 v1 rfl rfl) h1
  obtain ⟨n, rfl, rfl, rfl, w2⟩ := open_int Try.underlying3 (hval 2 3 v2 rfl rfl) h2
  obtain ⟨m, rfl, rfl, rfl, w3⟩ := open_int Try.underlying3 (hval 3 3 v3 rfl rfl) h3
  obtain ⟨r, rfl, hr⟩ := open_rec (hval 4 26 v4 rfl rfl) h4
  obtain ⟨a5, len5, cap5, rfl⟩ := okWide_slice Try.underlying35 (hval 5 35 v5 rfl rfl)
  obtain ⟨L, hdigs⟩ : ∃ L, IsDigs W (.slice a5 len5 cap5) L := by
    obtain ⟨fuel, hf⟩ := h5
    obtain ⟨v, L, e, h, _⟩ := open_digsS hf
    simp [Value.cells] at e
    rw [e]
    exact ⟨L, h⟩
  clear hA0 hval0
  refine (verifiesLaw_any old hd n m r L _ W hr hdigs).mono fun e W' ⟨he, bel⟩ => ?_
  subst he
  exact ⟨_, rfl, _, _, _, [], _, [], hW', trodAll_mk1 (shut_bool Try.underlying4 _), (trodAll_cons_mk (Below.trod laidOut (by kernel_rfl) (of_decide_eq_true (by kernel_rfl)) k0 bel lt0) (trodAll_cons_mk (Below.trod laidOut (by kernel_rfl) (of_decide_eq_true (by kernel_rfl)) k1 bel lt1) (trodAll_cons_mk (shut_int Try.underlying3 w2) (trodAll_cons_mk (shut_int Try.underlying3 w3) (trodAll_cons_mk (Below.trod laidOut (by kernel_rfl) (of_decide_eq_true (by kernel_rfl)) k4 bel lt4) (trodAll_cons_mk (Below.trod laidOut (by kernel_rfl) (of_decide_eq_true (by kernel_rfl)) k5 bel lt5) trodAll_mk0)))))), rfl, bel.frame _, fun h => by cases h⟩

set_option maxRecDepth 100000 in
theorem verifies_holds : Rows.LedgerVerifiesSaid :=
  OpenClaim.holds_of_wide 5 Try.f5 rfl rfl rfl rfl rfl rfl rfl ⟨rfl, rfl, rfl, rfl, rfl⟩ rfl rfl rfl rfl rfl (by kernel_rfl) Try.func5 (by kernel_rfl)
    (of_decide_eq_true (by kernel_rfl)) (by unfold Func.isWrapper; rw [if_neg (of_decide_eq_false (by kernel_rfl))]; exact ⟨rfl, rfl⟩)
    (fun os started H enc _ => verifies_lifted os started H enc)
#print axioms verifies_holds
end Go.Proofs.Ytfheflihofafdaa
