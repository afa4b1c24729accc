/- For every ledger and record, LedgerAppend returns true and leaves its arguments as they were. -/
import Derived.Test.YtfheflihofafdaaEqual
namespace Go.Proofs.Ytfheflihofafdaa
open Go.ChangeShapes Go.WideShapes Go.ChangeAt Go.RowKit Go.Great Pt Tr
attribute [local go_sem] eq_arr

theorem recs_one_new (W : World) (r : Rec) : IsRecs (W.alloc (rc r)) (.slice (some ⟨W.heap.size, 0, none⟩) 1 1) [r] := by
  refine ⟨_, 1, rfl, (by show 1 ≤ maxLen; decide), Nat.le_refl _, .inr ⟨W.heap.size, 0, rfl, by simp, fun j hj => ?_⟩⟩
  obtain rfl : j = 0 := by have : j < 1 := hj; omega
  have h := World.alloc_heap_new W (rc r)
  refine ⟨?_, ?_, ?_, ?_⟩ <;> (rw [Lib.cell_of_heap h]; rfl)
set_option maxRecDepth 100000 in
set_option maxHeartbeats 8000000 in
theorem append_big (a : Option Addr) (len c : Nat) (t : Int) (n1 n2 n3 : BA) (w : World) (KG : ∀ W, Below w.heap.size w W → Calls Try.prog 10 #[.agg #[.slice a len c]] W fun e w' => e = .returned (.bool true) ∧ Below W.heap.size W w') :
    Calls Try.prog 3 #[.agg #[.slice a len c], rv ⟨t, n1, n2, n3⟩] w fun e w' => e = .returned (.bool true) ∧ Below w.heap.size w w' := by
  have HG := Lib.hid KG
  clear KG
  have HB0 : Hid (Below w.heap.size w ((w.alloc (.cells #[.slice a len c] 24)).alloc (.cells #[.int .i64 t, .string n1, .string n2, .string n3] 26))) := Lib.hid (bla (bla (Below.refl _ _) _) _)
  have HX0 : Hid (((w.alloc (.cells #[.slice a len c] 24)).alloc (.cells #[.int .i64 t, .string n1, .string n2, .string n3] 26)).heap[w.heap.size]? = some (.cells #[.slice a len c] 24 (0, 0))) := Lib.hid ((Below.heap_alloc _ _ _ (by simp)).trans (World.alloc_heap_new _ _))
  have HY0 : Hid (((w.alloc (.cells #[.slice a len c] 24)).alloc (.cells #[.int .i64 t, .string n1, .string n2, .string n3] 26)).heap[w.heap.size + 1]? = some (.cells #[.int .i64 t, .string n1, .string n2, .string n3] 26 (0, 0))) := Lib.hid (by
    have := World.alloc_heap_new (w.alloc (.cells #[.slice a len c] 24)) (.cells #[.int .i64 t, .string n1, .string n2, .string n3] 26)
    rw [World.size_alloc] at this; exact this)
  go_enter Try.func3, Try.ntmps3
  go_wp2_with fail
  ((with_reducible refine (HG.out _ HB0.out).mono ?_); rintro e w1 ⟨rfl, hb1⟩)
  have HB1 := Lib.hid (bl HB0.out hb1)
  clear hb1
  go_wp2_with fail
  ((with_reducible refine (awake_any _).mono ?_); rintro e w9 ⟨rfl, hb9⟩)
  have hb := bl HB1.out hb9
  go_wp2
  go_ret
  exact ⟨rfl, hb⟩
set_option maxRecDepth 100000 in
set_option maxHeartbeats 8000000 in
theorem append_big2 (a : Option Addr) (len c : Nat) (t : Int) (n1 n2 n3 : BA) (w : World) (KG : ∀ W, Below w.heap.size w W → Calls Try.prog 10 #[.agg #[.slice a len c]] W fun e w' => e = .returned (.bool false) ∧ Below W.heap.size W w')
    (KR : ∀ W u, IsRecs W u [⟨t, n1, n2, n3⟩] → Calls Try.prog 10 #[.agg #[u]] W fun e w' => e = .returned (.bool true) ∧ Below W.heap.size W w') :
    Calls Try.prog 3 #[.agg #[.slice a len c], rv ⟨t, n1, n2, n3⟩] w fun e w' => e = .returned (.bool true) ∧ Below w.heap.size w w' := by
  have HG := Lib.hid KG
  have HR := Lib.hid KR
  clear KG KR
  have HB0 : Hid (Below w.heap.size w ((w.alloc (.cells #[.slice a len c] 24)).alloc (.cells #[.int .i64 t, .string n1, .string n2, .string n3] 26))) := Lib.hid (bla (bla (Below.refl _ _) _) _)
  have HX0 : Hid (((w.alloc (.cells #[.slice a len c] 24)).alloc (.cells #[.int .i64 t, .string n1, .string n2, .string n3] 26)).heap[w.heap.size]? = some (.cells #[.slice a len c] 24 (0, 0))) := Lib.hid ((Below.heap_alloc _ _ _ (by simp)).trans (World.alloc_heap_new _ _))
  have HY0 : Hid (((w.alloc (.cells #[.slice a len c] 24)).alloc (.cells #[.int .i64 t, .string n1, .string n2, .string n3] 26)).heap[w.heap.size + 1]? = some (.cells #[.int .i64 t, .string n1, .string n2, .string n3] 26 (0, 0))) := Lib.hid (by
    have := World.alloc_heap_new (w.alloc (.cells #[.slice a len c] 24)) (.cells #[.int .i64 t, .string n1, .string n2, .string n3] 26)
    rw [World.size_alloc] at this; exact this)
  go_enter Try.func3, Try.ntmps3
  go_wp2_with fail
  ((with_reducible refine (HG.out _ HB0.out).mono ?_); rintro e w1 ⟨rfl, hb1⟩)
  have HB1 := Lib.hid (bl HB0.out hb1)
  have HX1 := Lib.hid ((hb1.block _ (lt_of_block HX0.out)).trans HX0.out)
  have HY1 := Lib.hid ((hb1.block _ (lt_of_block HY0.out)).trans HY0.out)
  have y0 : w1.cell? ⟨w.heap.size + 1, 0, none⟩ = some (.int .i64 t) := by rw [Lib.cell_of_heap HY1.out]; rfl
  have y1 : w1.cell? ⟨w.heap.size + 1, 1, none⟩ = some (.string n1) := by rw [Lib.cell_of_heap HY1.out]; rfl
  have y2 : w1.cell? ⟨w.heap.size + 1, 2, none⟩ = some (.string n2) := by rw [Lib.cell_of_heap HY1.out]; rfl
  have y3 : w1.cell? ⟨w.heap.size + 1, 3, none⟩ = some (.string n3) := by rw [Lib.cell_of_heap HY1.out]; rfl
  have HN : Hid (IsRecs (w1.alloc (.cells #[.int .i64 t, .string n1, .string n2, .string n3] 26)) (.slice (some ⟨w1.heap.size, 0, none⟩) 1 1) [⟨t, n1, n2, n3⟩]) := Lib.hid (recs_one_new w1 ⟨t, n1, n2, n3⟩)
  clear hb1
  go_wp2_with fail
  ((with_reducible refine (HR.out _ _ HN.out).mono ?_); rintro e w2 ⟨rfl, hb2⟩)
  have HA2 := Lib.hid ((bla (Below.refl _ w1) (.cells #[.int .i64 t, .string n1, .string n2, .string n3] 26)).trans (hb2.mono (by simp)))
  have HB2 := Lib.hid (bl HB1.out HA2.out)
  have HX2 := Lib.hid ((HA2.out.block _ (lt_of_block HX1.out)).trans HX1.out)
  have HY2 := Lib.hid ((HA2.out.block _ (lt_of_block HY1.out)).trans HY1.out)
  clear y0 y1 y2 y3 hb2
  go_wp2_with fail
  ((with_reducible refine (awake_any _).mono ?_); rintro e w9 ⟨rfl, hb9⟩)
  have hb := bl HB2.out hb9
  go_wp2
  go_ret
  exact ⟨rfl, hb⟩
set_option maxRecDepth 100000 in
set_option maxHeartbeats 8000000 in
theorem append_walk (a : Option Addr) (len c : Nat) (t ec ea : Int) (n1 n2 n3 : BA) (M : List Rec) (w : World) (KG : ∀ W, Below w.heap.size w W → Calls Try.prog 10 #[.agg #[.slice a len c]] W fun e w' => e = .returned (.bool false) ∧ Below W.heap.size W w')
    (KR : ∀ W u, IsRecs W u [⟨t, n1, n2, n3⟩] → Calls Try.prog 10 #[.agg #[u]] W fun e w' => e = .returned (.bool false) ∧ Below W.heap.size W w')
    (K12 : ∀ W, Below w.heap.size w W → Calls Try.prog 12 #[.agg #[.slice a len c], rv ⟨t, n1, n2, n3⟩] W fun e w' => ∃ u, e = .returned (.tuple #[.agg #[u], .int .i64 ea]) ∧ IsRecs w' u M ∧ Below W.heap.size W w')
    (K13 : ∀ W, Below w.heap.size w W → Calls Try.prog 13 #[.agg #[.slice a len c], rv ⟨t, n1, n2, n3⟩] W fun e w' => ∃ u, e = .returned (.tuple #[.agg #[u], .int .i64 ea]) ∧ IsRecs w' u M ∧ Below W.heap.size W w')
    (K14 : ∀ W, Below w.heap.size w W → Calls Try.prog 14 #[.agg #[.slice a len c]] W fun e w' => e = .returned (.int .i64 ec) ∧ Below W.heap.size W w')
    (K15 : ∀ W, Below w.heap.size w W → Calls Try.prog 15 #[.agg #[.slice a len c]] W fun e w' => e = .returned (.int .i64 ec) ∧ Below W.heap.size W w')
    (K16 : ∀ W u v, IsRecs W u M → IsRecs W v M → Calls Try.prog 16 #[.agg #[u], .agg #[v]] W fun e w' => e = .returned (.bool true) ∧ Below W.heap.size W w') :
    Calls Try.prog 3 #[.agg #[.slice a len c], rv ⟨t, n1, n2, n3⟩] w fun e w' => e = .returned (.bool true) ∧ Below w.heap.size w w' := by
  have HG := Lib.hid KG
  have HR := Lib.hid KR
  have H12 := Lib.hid K12
  have H13 := Lib.hid K13
  have H14 := Lib.hid K14
  have H15 := Lib.hid K15
  have H16 := Lib.hid K16
  clear KG KR K12 K13 K14 K15 K16
  have HB0 : Hid (Below w.heap.size w ((w.alloc (.cells #[.slice a len c] 24)).alloc (.cells #[.int .i64 t, .string n1, .string n2, .string n3] 26))) := Lib.hid (bla (bla (Below.refl _ _) _) _)
  have HX0 : Hid (((w.alloc (.cells #[.slice a len c] 24)).alloc (.cells #[.int .i64 t, .string n1, .string n2, .string n3] 26)).heap[w.heap.size]? = some (.cells #[.slice a len c] 24 (0, 0))) := Lib.hid ((Below.heap_alloc _ _ _ (by simp)).trans (World.alloc_heap_new _ _))
  have HY0 : Hid (((w.alloc (.cells #[.slice a len c] 24)).alloc (.cells #[.int .i64 t, .string n1, .string n2, .string n3] 26)).heap[w.heap.size + 1]? = some (.cells #[.int .i64 t, .string n1, .string n2, .string n3] 26 (0, 0))) := Lib.hid (by
    have := World.alloc_heap_new (w.alloc (.cells #[.slice a len c] 24)) (.cells #[.int .i64 t, .string n1, .string n2, .string n3] 26)
    rw [World.size_alloc] at this; exact this)
  go_enter Try.func3, Try.ntmps3
  go_wp2_with fail
  ((with_reducible refine (HG.out _ HB0.out).mono ?_); rintro e w1 ⟨rfl, hb1⟩)
  have HB1 := Lib.hid (bl HB0.out hb1)
  have HX1 := Lib.hid ((hb1.block _ (lt_of_block HX0.out)).trans HX0.out)
  have HY1 := Lib.hid ((hb1.block _ (lt_of_block HY0.out)).trans HY0.out)
  have y0 : w1.cell? ⟨w.heap.size + 1, 0, none⟩ = some (.int .i64 t) := by rw [Lib.cell_of_heap HY1.out]; rfl
  have y1 : w1.cell? ⟨w.heap.size + 1, 1, none⟩ = some (.string n1) := by rw [Lib.cell_of_heap HY1.out]; rfl
  have y2 : w1.cell? ⟨w.heap.size + 1, 2, none⟩ = some (.string n2) := by rw [Lib.cell_of_heap HY1.out]; rfl
  have y3 : w1.cell? ⟨w.heap.size + 1, 3, none⟩ = some (.string n3) := by rw [Lib.cell_of_heap HY1.out]; rfl
  have HN : Hid (IsRecs (w1.alloc (.cells #[.int .i64 t, .string n1, .string n2, .string n3] 26)) (.slice (some ⟨w1.heap.size, 0, none⟩) 1 1) [⟨t, n1, n2, n3⟩]) := Lib.hid (recs_one_new w1 ⟨t, n1, n2, n3⟩)
  clear hb1
  go_wp2_with fail
  ((with_reducible refine (HR.out _ _ HN.out).mono ?_); rintro e w2 ⟨rfl, hb2⟩)
  have HA2 := Lib.hid ((bla (Below.refl _ w1) (.cells #[.int .i64 t, .string n1, .string n2, .string n3] 26)).trans (hb2.mono (by simp)))
  have HB2 := Lib.hid (bl HB1.out HA2.out)
  have HX2 := Lib.hid ((HA2.out.block _ (lt_of_block HX1.out)).trans HX1.out)
  have HY2 := Lib.hid ((HA2.out.block _ (lt_of_block HY1.out)).trans HY1.out)
  clear y0 y1 y2 y3 hb2
  have x0 : w2.cell? ⟨w.heap.size, 0, none⟩ = some (.slice a len c) := by rw [Lib.cell_of_heap HX2.out]; rfl
  have y0 : w2.cell? ⟨w.heap.size + 1, 0, none⟩ = some (.int .i64 t) := by rw [Lib.cell_of_heap HY2.out]; rfl
  have y1 : w2.cell? ⟨w.heap.size + 1, 1, none⟩ = some (.string n1) := by rw [Lib.cell_of_heap HY2.out]; rfl
  have y2 : w2.cell? ⟨w.heap.size + 1, 2, none⟩ = some (.string n2) := by rw [Lib.cell_of_heap HY2.out]; rfl
  have y3 : w2.cell? ⟨w.heap.size + 1, 3, none⟩ = some (.string n3) := by rw [Lib.cell_of_heap HY2.out]; rfl
  go_wp2_with fail
  ((with_reducible refine (H12.out _ HB2.out).mono ?_); rintro e w3 ⟨u3, rfl, hu3, hb3⟩)
  have HU := Lib.hid hu3
  obtain ⟨a3, c3, hu, _⟩ := hu3
  subst hu
  have HD3 : Hid (Below w2.heap.size w2 (w3.alloc (.cells #[.slice a3 M.length c3] 24))) := Lib.hid (bla hb3 _)
  have HB3 := Lib.hid (bl HB2.out HD3.out)
  have HX3 := Lib.hid ((HD3.out.block _ (lt_of_block HX2.out)).trans HX2.out)
  have HY3 := Lib.hid ((HD3.out.block _ (lt_of_block HY2.out)).trans HY2.out)
  have HZ3 : Hid ((w3.alloc (.cells #[.slice a3 M.length c3] 24)).heap[w3.heap.size]? = some (.cells #[.slice a3 M.length c3] 24 (0, 0))) := Lib.hid (World.alloc_heap_new _ _)
  have HU3 : Hid (IsRecs (w3.alloc (.cells #[.slice a3 M.length c3] 24)) (.slice a3 M.length c3) M) := Lib.hid (HU.out.below ((Below.refl _ _).alloc (Nat.le_refl _) _) (Nat.le_refl _))
  clear x0 y0 y1 y2 y3 hb3 HU
  have x0 : (w3.alloc (.cells #[.slice a3 M.length c3] 24)).cell? ⟨w.heap.size, 0, none⟩ = some (.slice a len c) := by rw [Lib.cell_of_heap HX3.out]; rfl
  have y0 : (w3.alloc (.cells #[.slice a3 M.length c3] 24)).cell? ⟨w.heap.size + 1, 0, none⟩ = some (.int .i64 t) := by rw [Lib.cell_of_heap HY3.out]; rfl
  have y1 : (w3.alloc (.cells #[.slice a3 M.length c3] 24)).cell? ⟨w.heap.size + 1, 1, none⟩ = some (.string n1) := by rw [Lib.cell_of_heap HY3.out]; rfl
  have y2 : (w3.alloc (.cells #[.slice a3 M.length c3] 24)).cell? ⟨w.heap.size + 1, 2, none⟩ = some (.string n2) := by rw [Lib.cell_of_heap HY3.out]; rfl
  have y3 : (w3.alloc (.cells #[.slice a3 M.length c3] 24)).cell? ⟨w.heap.size + 1, 3, none⟩ = some (.string n3) := by rw [Lib.cell_of_heap HY3.out]; rfl
  go_wp2_with fail
  ((with_reducible refine (H13.out _ HB3.out).mono ?_); rintro e w4 ⟨u4, rfl, hu4, hb4⟩)
  have HU := Lib.hid hu4
  obtain ⟨a4, c4, hu, _⟩ := hu4
  subst hu
  have HD4 : Hid (Below (w3.alloc (.cells #[.slice a3 M.length c3] 24)).heap.size (w3.alloc (.cells #[.slice a3 M.length c3] 24)) (w4.alloc (.cells #[.slice a4 M.length c4] 24))) := Lib.hid (bla hb4 _)
  have HB4 := Lib.hid (bl HB3.out HD4.out)
  have HX4 := Lib.hid ((HD4.out.block _ (lt_of_block HX3.out)).trans HX3.out)
  have HY4 := Lib.hid ((HD4.out.block _ (lt_of_block HY3.out)).trans HY3.out)
  have HZ4 : Hid ((w4.alloc (.cells #[.slice a4 M.length c4] 24)).heap[w4.heap.size]? = some (.cells #[.slice a4 M.length c4] 24 (0, 0))) := Lib.hid (World.alloc_heap_new _ _)
  have HU4 : Hid (IsRecs (w4.alloc (.cells #[.slice a4 M.length c4] 24)) (.slice a4 M.length c4) M) := Lib.hid (HU.out.below ((Below.refl _ _).alloc (Nat.le_refl _) _) (Nat.le_refl _))
  have HZ34 := Lib.hid ((HD4.out.block _ (lt_of_block HZ3.out)).trans HZ3.out)
  have HU34 := Lib.hid (HU3.out.below HD4.out (Nat.le_refl _))
  clear x0 y0 y1 y2 y3 hb4 HU
  have x0 : (w4.alloc (.cells #[.slice a4 M.length c4] 24)).cell? ⟨w.heap.size, 0, none⟩ = some (.slice a len c) := by rw [Lib.cell_of_heap HX4.out]; rfl
  have y0 : (w4.alloc (.cells #[.slice a4 M.length c4] 24)).cell? ⟨w.heap.size + 1, 0, none⟩ = some (.int .i64 t) := by rw [Lib.cell_of_heap HY4.out]; rfl
  have y1 : (w4.alloc (.cells #[.slice a4 M.length c4] 24)).cell? ⟨w.heap.size + 1, 1, none⟩ = some (.string n1) := by rw [Lib.cell_of_heap HY4.out]; rfl
  have y2 : (w4.alloc (.cells #[.slice a4 M.length c4] 24)).cell? ⟨w.heap.size + 1, 2, none⟩ = some (.string n2) := by rw [Lib.cell_of_heap HY4.out]; rfl
  have y3 : (w4.alloc (.cells #[.slice a4 M.length c4] 24)).cell? ⟨w.heap.size + 1, 3, none⟩ = some (.string n3) := by rw [Lib.cell_of_heap HY4.out]; rfl
  clear x0 y0 y1 y2 y3
  go_wp2_with fail
  have below : Below ((w4.alloc (.cells #[.slice a4 M.length c4] 24)).heap.size) (w4.alloc (.cells #[.slice a4 M.length c4] 24)) (w4.alloc (.cells #[.slice a4 M.length c4] 24)) := Below.refl _ _
  have HBW : Hid ((w4.alloc (.cells #[.slice a4 M.length c4] 24)).heap.size ≤ (w4.alloc (.cells #[.slice a4 M.length c4] 24)).heap.size) := Lib.hid below.size
  have HKEEP : Hid (Keep ((w4.alloc (.cells #[.slice a4 M.length c4] 24)).heap.size) (w4.alloc (.cells #[.slice a4 M.length c4] 24)) [((w.heap.size, .cells #[.slice a len c] 24) : Nat × Obj), ((w3.heap.size, .cells #[.slice a3 M.length c3] 24) : Nat × Obj), ((w4.heap.size, .cells #[.slice a4 M.length c4] 24) : Nat × Obj)] (w4.alloc (.cells #[.slice a4 M.length c4] 24))) := Lib.hid ⟨below, by
    intro p hp
    simp only [List.mem_cons, List.not_mem_nil, or_false] at hp
    rcases hp with rfl | rfl | rfl
    · exact HX4.out
    · exact HZ34.out
    · exact HZ4.out⟩
  clear below
  have HOLD0 : Hid (∀ b ∈ ([] : List RBox), b.al = none → (w4.alloc (.cells #[.slice a4 M.length c4] 24)).heap[b.blk]? = some (.cells b.z b.T (0, 0)) ∧ (w4.alloc (.cells #[.slice a4 M.length c4] 24)).heap.size ≤ b.blk ∧ ∀ p ∈ [((w.heap.size, .cells #[.slice a len c] 24) : Nat × Obj), ((w3.heap.size, .cells #[.slice a3 M.length c3] 24) : Nat × Obj), ((w4.heap.size, .cells #[.slice a4 M.length c4] 24) : Nat × Obj)], p.1 ≠ b.blk) := Lib.hid (by intro b hb; cases hb)
  have hec : (ec == ec) = true := by simp
  have hea : (ea == ea) = true := by simp
  refine wp_region_box ((w4.alloc (.cells #[.slice a4 M.length c4] 24)).heap.size) (w4.alloc (.cells #[.slice a4 M.length c4] 24)) [(w.heap.size, .cells #[.slice a len c] 24), (w3.heap.size, .cells #[.slice a3 M.length c3] 24), (w4.heap.size, .cells #[.slice a4 M.length c4] 24)] [] (fun i => ([(.agg #[.slice a len c]), (.int .i64 ec), (.agg #[.slice a len c]), (.int .i64 ec), (.bool true), (.bool true), (.agg #[.slice a3 M.length c3]), (.agg #[.slice a4 M.length c4]), (.bool true), (.bool true), (.bool true), (.int .i64 ea), (.int .i64 ea), (.bool true), (.bool true), (.bool true), (.bool true), (.bool true), (.bool true)] : List Value).getD i undef) (by kernel_rfl) (by kernel_rfl) (by kernel_rfl) (by rfl) (by simp) (by rfl) HBW.out HKEEP.out HOLD0.out ?_ ?_
  · refine ⟨?_, ?_, ?_, ?_, ?_, ?_, ?_, ?_, ?_, ?_, ?_, ?_, ?_, ?_, ?_, ?_, ?_, ?_, ?_, trivial⟩
    · refine stepG_plain rfl rfl fun g ac W hK hk => ?_
      have h2 : ac.tmps[2]? = some (.pointer (some ⟨w.heap.size, 0, none⟩)) := hk.keep 2 rfl
      have mxq := hK.get 0 rfl
      have q0 : W.cell? ⟨w.heap.size, 0, none⟩ = some (.slice a len c) := by rw [Lib.cell_of_heap mxq]; rfl
      refine wpOp_of rfl rfl ?_
      unfold Oper.wp
      simp [execOp, go_sem, h2, q0]
      first | exact ⟨rfl, Below.refl _ _⟩ | exact Below.refl _ _
    · refine stepG_plain rfl rfl fun g ac W hK hk => ?_
      have h30 : ac.tmps[30]? = some (.agg #[.slice a len c]) := hk.has 0 _ 30 rfl rfl rfl (by simp) rfl
      refine wpOp_of rfl rfl ?_
      unfold Oper.wp
      simp [execOp, go_sem, h30]
      refine (H14.out W (bl HB4.out hK.1)).mono ?_
      rintro e w' ⟨rfl, hb⟩
      exact ⟨rfl, hb⟩
    · refine stepG_plain rfl rfl fun g ac W hK hk => ?_
      have h2 : ac.tmps[2]? = some (.pointer (some ⟨w.heap.size, 0, none⟩)) := hk.keep 2 rfl
      have mxq := hK.get 0 rfl
      have q0 : W.cell? ⟨w.heap.size, 0, none⟩ = some (.slice a len c) := by rw [Lib.cell_of_heap mxq]; rfl
      refine wpOp_of rfl rfl ?_
      unfold Oper.wp
      simp [execOp, go_sem, h2, q0]
      first | exact ⟨rfl, Below.refl _ _⟩ | exact Below.refl _ _
    · refine stepG_plain rfl rfl fun g ac W hK hk => ?_
      have h32 : ac.tmps[32]? = some (.agg #[.slice a len c]) := hk.has 2 _ 32 rfl rfl rfl (by simp) rfl
      refine wpOp_of rfl rfl ?_
      unfold Oper.wp
      simp [execOp, go_sem, h32]
      refine (H15.out W (bl HB4.out hK.1)).mono ?_
      rintro e w' ⟨rfl, hb⟩
      exact ⟨rfl, hb⟩
    · refine stepG_plain rfl rfl fun g ac W hK hk => ?_
      have h31 : ac.tmps[31]? = some (.int .i64 ec) := hk.has 1 _ 31 rfl rfl rfl (by simp) rfl
      have h33 : ac.tmps[33]? = some (.int .i64 ec) := hk.has 3 _ 33 rfl rfl rfl (by simp) rfl
      refine wpOp_of rfl rfl ?_
      unfold Oper.wp
      simp [execOp, go_sem, h31, h33]
      first | exact ⟨rfl, Below.refl _ _⟩ | exact Below.refl _ _
    · refine stepG_plain rfl rfl fun g ac W hK hk => ?_
      have h34 : ac.tmps[34]? = some (.bool true) := hk.has 4 _ 34 rfl rfl rfl (by simp) rfl
      refine wpOp_of rfl rfl ?_
      unfold Oper.wp
      simp [execOp, go_sem, h34]
      first | exact ⟨rfl, Below.refl _ _⟩ | exact Below.refl _ _
    · refine stepG_plain rfl rfl fun g ac W hK hk => ?_
      have h5 : ac.tmps[5]? = some (.pointer (some ⟨w3.heap.size, 0, none⟩)) := hk.keep 5 rfl
      have hg : ac.tmps[35]? = some (.bool true) := hk.has 5 _ 35 rfl rfl rfl (by simp) rfl
      have mxq := hK.get 1 rfl
      have q0 : W.cell? ⟨w3.heap.size, 0, none⟩ = some (.slice a3 M.length c3) := by rw [Lib.cell_of_heap mxq]; rfl
      refine wpOp_of rfl (by simp [Region.wanted, yielded, hg]) ?_
      unfold Oper.wp
      simp [execOp, go_sem, h5, q0]
      first | exact ⟨rfl, Below.refl _ _⟩ | exact Below.refl _ _
    · refine stepG_plain rfl rfl fun g ac W hK hk => ?_
      have h7 : ac.tmps[7]? = some (.pointer (some ⟨w4.heap.size, 0, none⟩)) := hk.keep 7 rfl
      have hg : ac.tmps[35]? = some (.bool true) := hk.has 5 _ 35 rfl rfl rfl (by simp) rfl
      have mxq := hK.get 2 rfl
      have q0 : W.cell? ⟨w4.heap.size, 0, none⟩ = some (.slice a4 M.length c4) := by rw [Lib.cell_of_heap mxq]; rfl
      refine wpOp_of rfl (by simp [Region.wanted, yielded, hg]) ?_
      unfold Oper.wp
      simp [execOp, go_sem, h7, q0]
      first | exact ⟨rfl, Below.refl _ _⟩ | exact Below.refl _ _
    · refine stepG_plain rfl rfl fun g ac W hK hk => ?_
      have h36 : ac.tmps[36]? = some (.agg #[.slice a3 M.length c3]) := hk.has 6 _ 36 rfl rfl rfl (by simp) rfl
      have h37 : ac.tmps[37]? = some (.agg #[.slice a4 M.length c4]) := hk.has 7 _ 37 rfl rfl rfl (by simp) rfl
      have hg : ac.tmps[35]? = some (.bool true) := hk.has 5 _ 35 rfl rfl rfl (by simp) rfl
      refine wpOp_of rfl (by simp [Region.wanted, yielded, hg]) ?_
      unfold Oper.wp
      simp [execOp, go_sem, h36, h37]
      refine (H16.out W _ _ (HU34.out.below hK.1 (Nat.le_refl _)) (HU4.out.below hK.1 (Nat.le_refl _))).mono ?_
      rintro e w' ⟨rfl, hb⟩
      exact ⟨rfl, hb⟩
    · refine stepG_plain rfl rfl fun g ac W hK hk => ?_
      have h35 : ac.tmps[35]? = some (.bool true) := hk.has 5 _ 35 rfl rfl rfl (by simp) rfl
      have h38 : ac.tmps[38]? = some (.bool true) := hk.has 8 _ 38 rfl rfl rfl (by simp) rfl
      refine wpOp_of rfl rfl ?_
      unfold Oper.wp
      simp [execOp, go_sem, h35, h38]
      first | exact ⟨rfl, Below.refl _ _⟩ | exact Below.refl _ _
    · refine stepG_plain rfl rfl fun g ac W hK hk => ?_
      have h39 : ac.tmps[39]? = some (.bool true) := hk.has 9 _ 39 rfl rfl rfl (by simp) rfl
      refine wpOp_of rfl rfl ?_
      unfold Oper.wp
      simp [execOp, go_sem, h39]
      first | exact ⟨rfl, Below.refl _ _⟩ | exact Below.refl _ _
    · refine stepG_plain rfl rfl fun g ac W hK hk => ?_
      have h6 : ac.tmps[6]? = some (.int .i64 ea) := hk.keep 6 rfl
      have hg : ac.tmps[40]? = some (.bool true) := hk.has 10 _ 40 rfl rfl rfl (by simp) rfl
      refine wpOp_of rfl (by simp [Region.wanted, yielded, hg]) ?_
      unfold Oper.wp
      simp [execOp, go_sem, h6]
      first | exact ⟨rfl, Below.refl _ _⟩ | exact Below.refl _ _
    · refine stepG_plain rfl rfl fun g ac W hK hk => ?_
      have h8 : ac.tmps[8]? = some (.int .i64 ea) := hk.keep 8 rfl
      have hg : ac.tmps[40]? = some (.bool true) := hk.has 10 _ 40 rfl rfl rfl (by simp) rfl
      refine wpOp_of rfl (by simp [Region.wanted, yielded, hg]) ?_
      unfold Oper.wp
      simp [execOp, go_sem, h8]
      first | exact ⟨rfl, Below.refl _ _⟩ | exact Below.refl _ _
    · refine stepG_plain rfl rfl fun g ac W hK hk => ?_
      have h41 : ac.tmps[41]? = some (.int .i64 ea) := hk.has 11 _ 41 rfl rfl rfl (by simp) rfl
      have h42 : ac.tmps[42]? = some (.int .i64 ea) := hk.has 12 _ 42 rfl rfl rfl (by simp) rfl
      have hg : ac.tmps[40]? = some (.bool true) := hk.has 10 _ 40 rfl rfl rfl (by simp) rfl
      refine wpOp_of rfl (by simp [Region.wanted, yielded, hg]) ?_
      unfold Oper.wp
      simp [execOp, go_sem, h41, h42]
      first | exact ⟨rfl, Below.refl _ _⟩ | exact Below.refl _ _
    · refine stepG_plain rfl rfl fun g ac W hK hk => ?_
      have h40 : ac.tmps[40]? = some (.bool true) := hk.has 10 _ 40 rfl rfl rfl (by simp) rfl
      have h43 : ac.tmps[43]? = some (.bool true) := hk.has 13 _ 43 rfl rfl rfl (by simp) rfl
      refine wpOp_of rfl rfl ?_
      unfold Oper.wp
      simp [execOp, go_sem, h40, h43]
      first | exact ⟨rfl, Below.refl _ _⟩ | exact Below.refl _ _
    · refine stepG_plain rfl rfl fun g ac W hK hk => ?_
      have h44 : ac.tmps[44]? = some (.bool true) := hk.has 14 _ 44 rfl rfl rfl (by simp) rfl
      refine wpOp_of rfl rfl ?_
      unfold Oper.wp
      simp [execOp, go_sem, h44]
      first | exact ⟨rfl, Below.refl _ _⟩ | exact Below.refl _ _
    · refine stepG_plain rfl rfl fun g ac W hK hk => ?_
      have hg : ac.tmps[45]? = some (.bool true) := hk.has 15 _ 45 rfl rfl rfl (by simp) rfl
      refine wpOp_of rfl (by simp [Region.wanted, yielded, hg]) ?_
      unfold Oper.wp
      simp [execOp, go_sem]
      refine (awake_any W).mono ?_
      rintro e w' ⟨rfl, hb⟩
      exact ⟨rfl, hb⟩
    · refine stepG_plain rfl rfl fun g ac W hK hk => ?_
      have h45 : ac.tmps[45]? = some (.bool true) := hk.has 15 _ 45 rfl rfl rfl (by simp) rfl
      have h46 : ac.tmps[46]? = some (.bool true) := hk.has 16 _ 46 rfl rfl rfl (by simp) rfl
      refine wpOp_of rfl rfl ?_
      unfold Oper.wp
      simp [execOp, go_sem, h45, h46]
      first | exact ⟨rfl, Below.refl _ _⟩ | exact Below.refl _ _
    · refine stepG_plain rfl rfl fun g ac W hK hk => ?_
      have h47 : ac.tmps[47]? = some (.bool true) := hk.has 17 _ 47 rfl rfl rfl (by simp) rfl
      refine wpOp_of rfl rfl ?_
      unfold Oper.wp
      simp [execOp, go_sem, h47]
      first | exact ⟨rfl, Below.refl _ _⟩ | exact Below.refl _ _
  · intro g W hK hsz hB hd
    simp [frameOf, Act.put, valG]
    have HW := Lib.hid (bl HB4.out hK.1)
    clear hK hB hd hsz
    go_wp2
    go_ret
    exact ⟨rfl, HW.out⟩

theorem big_len {L : List Rec} (h : bigL L = false) : L.length ≤ 20 := by
  unfold bigL at h
  simp only [Bool.or_eq_false_iff, decide_eq_false_iff_not] at h
  omega
theorem appendLaw_any (L : List Rec) (r : Rec) (v : Value) (w : World) (h : IsRecs w v L) (hf : ∀ x ∈ L, x.Fit) (hr : r.Fit) :
    Calls Try.prog 3 #[.agg #[v], rv r] w fun e w' => e = .returned (.bool true) ∧ Below w.heap.size w w' := by
  obtain ⟨a, c, e, _⟩ := id h
  subst e
  have hW : ∀ W, Below w.heap.size w W → IsRecs W (.slice a L.length c) L := fun W hb => h.below hb (Nat.le_refl _)
  have hr1 : ∀ x ∈ [r], x.Fit := fun x hx => by rw [List.mem_singleton.1 hx]; exact hr
  cases hbig : bigL L with
  | true => exact append_big a L.length c r.time r.who r.what r.data w fun W hb => great_any L _ W (hW W hb) hf true hbig
  | false =>
    cases hbig2 : bigL [r] with
    | true => exact append_big2 a L.length c r.time r.who r.what r.data w (fun W hb => great_any L _ W (hW W hb) hf false hbig) fun W u hu => great_any [r] u W hu hr1 true hbig2
    | false =>
      have hlen := big_len hbig
      exact append_walk a L.length c r.time (chkL L) (appE L r) r.who r.what r.data (appL L r) w (fun W hb => great_any L _ W (hW W hb) hf false hbig) (fun W u hu => great_any [r] u W hu hr1 false hbig2)
        (fun W hb => append_any L r _ W (hW W hb) hf hr (by omega)) (fun W hb => refAppend_any L r _ W (hW W hb) hf hr (by omega)) (fun W hb => check_any L _ W (hW W hb) hf _ rfl) (fun W hb => refCheck_any L _ W (hW W hb) hf _ rfl)
        (fun W u v hu hv => by
          refine (same_any _ _ u v W hu hv).mono ?_
          rintro e w' ⟨rfl, hb⟩
          exact ⟨by simp, hb⟩)

set_option maxRecDepth 100000 in
theorem append_lifted (os : Os) (started : os.Started) (H : Type) (enc : TypeId × Value → H) :
    ReturnsInHanded {} Try.checked os 3 .any (Rows.ledgerAppendSpec.pre6 enc Try.prog Try.f3 Rows.ledgerAppendRow.domain false) (Rows.ledgerAppendSpec.post enc Try.prog Try.f3 false true false false) := by
  refine returnsInHanded_of_change (C := Try.checked) ownK started (by kernel_rfl) Try.func3
    (ChangeSpec.witness6 (enc := enc) (C := Try.checked) false ⟨#[], #[.agg #[.slice none 0 0], .agg #[.int .i64 0, .string ⟨#[]⟩, .string ⟨#[]⟩, .string ⟨#[]⟩]], []⟩ 8 (by kernel_rfl) (by kernel_rfl) (by kernel_rfl) (by kernel_rfl)) ?_
  intro W base args ds gs before hval0 hW hcnd _
  have hval : ∀ (j : Nat) t v, Try.f3.params[j]? = some t → args[j]? = some v → Value.okWide Try.prog W .any base t v := hval0
  have hW' := hW
  obtain ⟨p, q, hA0, hV, rfl, hfz, hnd⟩ := hW
  have hA : DataW.TrodAll enc Try.prog W 0 (fun _ => true) true Try.f3.params.toList args.toList ds p := hA0
  rw [Try.params3] at hA hval
  obtain ⟨v0, v1, d0, d1, p0, p1, rfl, rfl, rfl, h0, h1⟩ := trodAll_two hA
  obtain ⟨rfl, rfl⟩ := trodVars_none hV
  have k0 := h0
  have lt0 : ∀ x ∈ p0, x.block < W.heap.size := by obtain ⟨m, hm⟩ := k0; exact DataW.trod_lt m _ _ _ hm
  have k1 := h1
  have lt1 : ∀ x ∈ p1, x.block < W.heap.size := by obtain ⟨m, hm⟩ := k1; exact DataW.trod_lt m _ _ _ hm
  obtain ⟨u, L, rfl, i0, hf⟩ := open_ledger (hval 0 24 v0 rfl rfl) h0
  obtain ⟨r, rfl, hr⟩ := open_rec (hval 1 26 v1 rfl rfl) h1
  clear hA0 hval0
  refine (appendLaw_any L r u W i0 hf hr).mono fun e W' ⟨he, bel⟩ => ?_
  subst he
  exact ⟨_, rfl, _, _, _, [], _, [], hW', trodAll_mk1 (shut_bool Try.underlying4 _), (trodAll_cons_mk (Below.trod laidOut (by kernel_rfl) (of_decide_eq_true (by kernel_rfl)) k0 bel lt0) (trodAll_cons_mk (Below.trod laidOut (by kernel_rfl) (of_decide_eq_true (by kernel_rfl)) k1 bel lt1) trodAll_mk0)), rfl, bel.frame _, fun h => by cases h⟩

set_option maxRecDepth 100000 in
theorem append_holds : Rows.LedgerAppendSaid :=
  OpenClaim.holds_of_wide 3 Try.f3 rfl rfl rfl rfl rfl rfl rfl ⟨rfl, rfl, rfl, rfl, rfl⟩ rfl rfl rfl rfl rfl (by kernel_rfl) Try.func3 (by kernel_rfl)
    (of_decide_eq_true (by kernel_rfl)) (by unfold Func.isWrapper; rw [if_neg (of_decide_eq_false (by kernel_rfl))]; exact ⟨rfl, rfl⟩)
    (fun os started H enc _ => append_lifted os started H enc)
#print axioms append_holds
end Go.Proofs.Ytfheflihofafdaa
