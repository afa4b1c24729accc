/- For every ledger and record, LedgerAppended returns true and leaves its arguments as they were: appending keeps the records before, and the head before is a beginning of the new one. -/
import Derived.Test.YtfheflihofafdaaLawGrowth
namespace Go.Proofs.Ytfheflihofafdaa
open Go.ChangeShapes Go.WideShapes Go.ChangeAt Go.RowKit Go.Great Pt Tr
attribute [local go_sem] eq_arr

set_option maxRecDepth 100000 in
set_option maxHeartbeats 8000000 in
theorem appended_big (a : Option Addr) (len c : Nat) (t : Int) (n1 n2 n3 : BA) (w : World) (KG : ∀ W, Below w.heap.size w W → Calls Try.prog 10 #[.agg #[.slice a len c]] W fun e w' => e = .returned (.bool true) ∧ Below W.heap.size W w') :
    Calls Try.prog 9 #[.agg #[.slice a len c], rv ⟨t, n1, n2, n3⟩] w fun e w' => e = .returned (.bool true) ∧ Below w.heap.size w w' := by
  have HG := Lib.hid KG
  clear KG
  have HB0 : Hid (Below w.heap.size w ((w.alloc (.cells #[.slice a len c] 24)).alloc (.cells #[.int .i64 t, .string n1, .string n2, .string n3] 26))) := Lib.hid (bla (bla (Below.refl _ _) _) _)
  have HX0 : Hid (((w.alloc (.cells #[.slice a len c] 24)).alloc (.cells #[.int .i64 t, .string n1, .string n2, .string n3] 26)).heap[w.heap.size]? = some (.cells #[.slice a len c] 24 (0, 0))) := Lib.hid ((Below.heap_alloc _ _ _ (by simp)).trans (World.alloc_heap_new _ _))
  have HY0 : Hid (((w.alloc (.cells #[.slice a len c] 24)).alloc (.cells #[.int .i64 t, .string n1, .string n2, .string n3] 26)).heap[w.heap.size + 1]? = some (.cells #[.int .i64 t, .string n1, .string n2, .string n3] 26 (0, 0))) := Lib.hid (by
    have := World.alloc_heap_new (w.alloc (.cells #[.slice a len c] 24)) (.cells #[.int .i64 t, .string n1, .string n2, .string n3] 26)
    rw [World.size_alloc] at this; exact this)
  go_enter Try.func9, Try.ntmps9
  go_wp2_with fail
  ((with_reducible refine (HG.out _ HB0.out).mono ?_); rintro e w1 ⟨rfl, hb1⟩)
  have HB1 := Lib.hid (bl HB0.out hb1)
  clear hb1
  go_wp2_with fail
  ((with_reducible refine (awake_any _).mono ?_); rintro e w9 ⟨rfl, hb9⟩)
  have hb := bl HB1.out hb9
  go_wp2
  go_ret
  exact ⟨rfl, hb⟩
set_option maxRecDepth 100000 in
set_option maxHeartbeats 8000000 in
theorem appended_big2 (a : Option Addr) (len c : Nat) (t : Int) (n1 n2 n3 : BA) (w : World) (KG : ∀ W, Below w.heap.size w W → Calls Try.prog 10 #[.agg #[.slice a len c]] W fun e w' => e = .returned (.bool false) ∧ Below W.heap.size W w')
    (KR : ∀ W u, IsRecs W u [⟨t, n1, n2, n3⟩] → Calls Try.prog 10 #[.agg #[u]] W fun e w' => e = .returned (.bool true) ∧ Below W.heap.size W w') :
    Calls Try.prog 9 #[.agg #[.slice a len c], rv ⟨t, n1, n2, n3⟩] w fun e w' => e = .returned (.bool true) ∧ Below w.heap.size w w' := by
  have HG := Lib.hid KG
  have HR := Lib.hid KR
  clear KG KR
  have HB0 : Hid (Below w.heap.size w ((w.alloc (.cells #[.slice a len c] 24)).alloc (.cells #[.int .i64 t, .string n1, .string n2, .string n3] 26))) := Lib.hid (bla (bla (Below.refl _ _) _) _)
  have HX0 : Hid (((w.alloc (.cells #[.slice a len c] 24)).alloc (.cells #[.int .i64 t, .string n1, .string n2, .string n3] 26)).heap[w.heap.size]? = some (.cells #[.slice a len c] 24 (0, 0))) := Lib.hid ((Below.heap_alloc _ _ _ (by simp)).trans (World.alloc_heap_new _ _))
  have HY0 : Hid (((w.alloc (.cells #[.slice a len c] 24)).alloc (.cells #[.int .i64 t, .string n1, .string n2, .string n3] 26)).heap[w.heap.size + 1]? = some (.cells #[.int .i64 t, .string n1, .string n2, .string n3] 26 (0, 0))) := Lib.hid (by
    have := World.alloc_heap_new (w.alloc (.cells #[.slice a len c] 24)) (.cells #[.int .i64 t, .string n1, .string n2, .string n3] 26)
    rw [World.size_alloc] at this; exact this)
  go_enter Try.func9, Try.ntmps9
  go_wp2_with fail
  ((with_reducible refine (HG.out _ HB0.out).mono ?_); rintro e w1 ⟨rfl, hb1⟩)
  have HB1 := Lib.hid (bl HB0.out hb1)
  have HX1 := Lib.hid ((hb1.block _ (lt_of_block HX0.out)).trans HX0.out)
  have HY1 := Lib.hid ((hb1.block _ (lt_of_block HY0.out)).trans HY0.out)
  have y0 : w1.cell? ⟨w.heap.size + 1, 0, none⟩ = some (.int .i64 t) := by rw [Lib.cell_of_heap HY1.out]; rfl
  have y1 : w1.cell? ⟨w.heap.size + 1, 1, none⟩ = some (.string n1) := by rw [Lib.cell_of_heap HY1.out]; rfl
  have y2 : w1.cell? ⟨w.heap.size + 1, 2, none⟩ = some (.string n2) := by rw [Lib.cell_of_heap HY1.out]; rfl
  have y3 : w1.cell? ⟨w.heap.size + 1, 3, none⟩ = some (.string n3) := by rw [Lib.cell_of_heap HY1.out]; rfl
  have HN : Hid (IsRecs (w1.alloc (.cells #[.int .i64 t, .string n1, .string n2, .string n3] 26)) (.slice (some ⟨w1.heap.size, 0, none⟩) 1 1) [⟨t, n1, n2, n3⟩]) := Lib.hid (recs_one_new w1 ⟨t, n1, n2, n3⟩)
  clear hb1
  go_wp2_with fail
  ((with_reducible refine (HR.out _ _ HN.out).mono ?_); rintro e w2 ⟨rfl, hb2⟩)
  have HA2 := Lib.hid ((bla (Below.refl _ w1) (.cells #[.int .i64 t, .string n1, .string n2, .string n3] 26)).trans (hb2.mono (by simp)))
  have HB2 := Lib.hid (bl HB1.out HA2.out)
  have HX2 := Lib.hid ((HA2.out.block _ (lt_of_block HX1.out)).trans HX1.out)
  have HY2 := Lib.hid ((HA2.out.block _ (lt_of_block HY1.out)).trans HY1.out)
  clear y0 y1 y2 y3 hb2
  go_wp2_with fail
  ((with_reducible refine (awake_any _).mono ?_); rintro e w9 ⟨rfl, hb9⟩)
  have hb := bl HB2.out hb9
  go_wp2
  go_ret
  exact ⟨rfl, hb⟩
set_option maxRecDepth 100000 in
set_option maxHeartbeats 8000000 in
theorem appended_err (a : Option Addr) (len c : Nat) (t ea : Int) (n1 n2 n3 : BA) (w : World) (he : ea ≠ 0) (KG : ∀ W, Below w.heap.size w W → Calls Try.prog 10 #[.agg #[.slice a len c]] W fun e w' => e = .returned (.bool false) ∧ Below W.heap.size W w')
    (KR : ∀ W u, IsRecs W u [⟨t, n1, n2, n3⟩] → Calls Try.prog 10 #[.agg #[u]] W fun e w' => e = .returned (.bool false) ∧ Below W.heap.size W w')
    (K12 : ∀ W, Below w.heap.size w W → Calls Try.prog 12 #[.agg #[.slice a len c], rv ⟨t, n1, n2, n3⟩] W fun e w' => ∃ u, e = .returned (.tuple #[.agg #[u], .int .i64 ea]) ∧ IsRecs w' u [] ∧ Below W.heap.size W w') :
    Calls Try.prog 9 #[.agg #[.slice a len c], rv ⟨t, n1, n2, n3⟩] w fun e w' => e = .returned (.bool true) ∧ Below w.heap.size w w' := by
  have HG := Lib.hid KG
  have HR := Lib.hid KR
  have H12 := Lib.hid K12
  have hne : (ea != 0) = true := by simpa using he
  clear KG KR K12 he
  have HB0 : Hid (Below w.heap.size w ((w.alloc (.cells #[.slice a len c] 24)).alloc (.cells #[.int .i64 t, .string n1, .string n2, .string n3] 26))) := Lib.hid (bla (bla (Below.refl _ _) _) _)
  have HX0 : Hid (((w.alloc (.cells #[.slice a len c] 24)).alloc (.cells #[.int .i64 t, .string n1, .string n2, .string n3] 26)).heap[w.heap.size]? = some (.cells #[.slice a len c] 24 (0, 0))) := Lib.hid ((Below.heap_alloc _ _ _ (by simp)).trans (World.alloc_heap_new _ _))
  have HY0 : Hid (((w.alloc (.cells #[.slice a len c] 24)).alloc (.cells #[.int .i64 t, .string n1, .string n2, .string n3] 26)).heap[w.heap.size + 1]? = some (.cells #[.int .i64 t, .string n1, .string n2, .string n3] 26 (0, 0))) := Lib.hid (by
    have := World.alloc_heap_new (w.alloc (.cells #[.slice a len c] 24)) (.cells #[.int .i64 t, .string n1, .string n2, .string n3] 26)
    rw [World.size_alloc] at this; exact this)
  go_enter Try.func9, Try.ntmps9
  go_wp2_with fail
  ((with_reducible refine (HG.out _ HB0.out).mono ?_); rintro e w1 ⟨rfl, hb1⟩)
  have HB1 := Lib.hid (bl HB0.out hb1)
  have HX1 := Lib.hid ((hb1.block _ (lt_of_block HX0.out)).trans HX0.out)
  have HY1 := Lib.hid ((hb1.block _ (lt_of_block HY0.out)).trans HY0.out)
  have y0 : w1.cell? ⟨w.heap.size + 1, 0, none⟩ = some (.int .i64 t) := by rw [Lib.cell_of_heap HY1.out]; rfl
  have y1 : w1.cell? ⟨w.heap.size + 1, 1, none⟩ = some (.string n1) := by rw [Lib.cell_of_heap HY1.out]; rfl
  have y2 : w1.cell? ⟨w.heap.size + 1, 2, none⟩ = some (.string n2) := by rw [Lib.cell_of_heap HY1.out]; rfl
  have y3 : w1.cell? ⟨w.heap.size + 1, 3, none⟩ = some (.string n3) := by rw [Lib.cell_of_heap HY1.out]; rfl
  have HN : Hid (IsRecs (w1.alloc (.cells #[.int .i64 t, .string n1, .string n2, .string n3] 26)) (.slice (some ⟨w1.heap.size, 0, none⟩) 1 1) [⟨t, n1, n2, n3⟩]) := Lib.hid (recs_one_new w1 ⟨t, n1, n2, n3⟩)
  clear hb1
  go_wp2_with fail
  ((with_reducible refine (HR.out _ _ HN.out).mono ?_); rintro e w2 ⟨rfl, hb2⟩)
  have HA2 := Lib.hid ((bla (Below.refl _ w1) (.cells #[.int .i64 t, .string n1, .string n2, .string n3] 26)).trans (hb2.mono (by simp)))
  have HB2 := Lib.hid (bl HB1.out HA2.out)
  have HX2 := Lib.hid ((HA2.out.block _ (lt_of_block HX1.out)).trans HX1.out)
  have HY2 := Lib.hid ((HA2.out.block _ (lt_of_block HY1.out)).trans HY1.out)
  clear y0 y1 y2 y3 hb2
  have x0' : w2.cell? ⟨w.heap.size, 0, none⟩ = some (.slice a len c) := by rw [Lib.cell_of_heap HX2.out]; rfl
  have y0' : w2.cell? ⟨w.heap.size + 1, 0, none⟩ = some (.int .i64 t) := by rw [Lib.cell_of_heap HY2.out]; rfl
  have y1' : w2.cell? ⟨w.heap.size + 1, 1, none⟩ = some (.string n1) := by rw [Lib.cell_of_heap HY2.out]; rfl
  have y2' : w2.cell? ⟨w.heap.size + 1, 2, none⟩ = some (.string n2) := by rw [Lib.cell_of_heap HY2.out]; rfl
  have y3' : w2.cell? ⟨w.heap.size + 1, 3, none⟩ = some (.string n3) := by rw [Lib.cell_of_heap HY2.out]; rfl
  go_wp2_with fail
  ((with_reducible refine (H12.out _ HB2.out).mono ?_); rintro e w3 ⟨u3, rfl, hu3, hb3⟩)
  have HU := Lib.hid hu3
  obtain ⟨a3, c3, hu, _⟩ := hu3
  subst hu
  have HD3 : Hid (Below w2.heap.size w2 (w3.alloc (.cells #[.slice a3 0 c3] 24))) := Lib.hid (bla hb3 _)
  have HB3 := Lib.hid (bl HB2.out HD3.out)
  have HX3 := Lib.hid ((HD3.out.block _ (lt_of_block HX2.out)).trans HX2.out)
  have HY3 := Lib.hid ((HD3.out.block _ (lt_of_block HY2.out)).trans HY2.out)
  have HZ3 : Hid ((w3.alloc (.cells #[.slice a3 0 c3] 24)).heap[w3.heap.size]? = some (.cells #[.slice a3 0 c3] 24 (0, 0))) := Lib.hid (World.alloc_heap_new _ _)
  clear hb3
  clear x0' y0' y1' y2' y3'
  go_wp2_with fail
  ((with_reducible refine (awake_any _).mono ?_); rintro e w9 ⟨rfl, hb9⟩)
  have hb := bl HB3.out hb9
  go_wp2
  go_ret
  exact ⟨rfl, hb⟩
set_option maxRecDepth 100000 in
set_option maxHeartbeats 8000000 in
theorem appended_ok (a : Option Addr) (len c : Nat) (t x0 x1 y0 y1 : Int) (n1 n2 n3 : BA) (P : List Dig) (MR : List Rec) (w : World) (hlen : len ≤ 20) (hM : MR.length = len + 1)
    (hlast : ∀ W a3 c3, IsRecs W (.slice a3 (len + 1) c3) MR → ∃ b off, a3 = some ⟨b, off, none⟩ ∧ b < W.heap.size ∧ RecAt W b (off + len * 4) ⟨t, n1, n2, n3⟩ ∧ len + 1 ≤ c3)
    (KG : ∀ W, Below w.heap.size w W → Calls Try.prog 10 #[.agg #[.slice a len c]] W fun e w' => e = .returned (.bool false) ∧ Below W.heap.size W w')
    (KR : ∀ W u, IsRecs W u [⟨t, n1, n2, n3⟩] → Calls Try.prog 10 #[.agg #[u]] W fun e w' => e = .returned (.bool false) ∧ Below W.heap.size W w')
    (K12 : ∀ W, Below w.heap.size w W → Calls Try.prog 12 #[.agg #[.slice a len c], rv ⟨t, n1, n2, n3⟩] W fun e w' => ∃ u, e = .returned (.tuple #[.agg #[u], .int .i64 0]) ∧ IsRecs w' u MR ∧ Below W.heap.size W w')
    (K14 : ∀ W u, IsRecs W u MR → Calls Try.prog 14 #[.agg #[u]] W fun e w' => e = .returned (.int .i64 0) ∧ Below W.heap.size W w')
    (K16 : ∀ W a3 c3, Below w.heap.size w W → IsRecs W (.slice a3 (len + 1) c3) MR → Calls Try.prog 16 #[.agg #[.slice a3 len c3], .agg #[.slice a len c]] W fun e w' => e = .returned (.bool true) ∧ Below W.heap.size W w')
    (K19 : ∀ W u, IsRecs W u MR → Calls Try.prog 19 #[.agg #[u], .int .i64 len] W fun e w' => ∃ u, e = .returned (.tuple #[u, .int .i64 0]) ∧ IsDigs w' u P ∧ Below W.heap.size W w')
    (K21 : ∀ W, Below w.heap.size w W → Calls Try.prog 21 #[.agg #[.slice a len c]] W fun e w' => e = .returned (.agg #[.int .u64 y0, .int .u64 y1]) ∧ Below W.heap.size W w')
    (KH : ∀ W u, IsRecs W u MR → Calls Try.prog 21 #[.agg #[u]] W fun e w' => e = .returned (.agg #[.int .u64 x0, .int .u64 x1]) ∧ Below W.heap.size W w')
    (K26 : ∀ W u, IsDigs W u P → Calls Try.prog 26 #[.agg #[.int .u64 y0, .int .u64 y1], .int .i64 len, .agg #[.int .u64 x0, .int .u64 x1], .int .i64 ((len : Int) + 1), u] W fun e w' => e = .returned (.bool true) ∧ Below W.heap.size W w') :
    Calls Try.prog 9 #[.agg #[.slice a len c], rv ⟨t, n1, n2, n3⟩] w fun e w' => e = .returned (.bool true) ∧ Below w.heap.size w w' := by
  have HG := Lib.hid KG
  have HR := Lib.hid KR
  have H12 := Lib.hid K12
  have H14 := Lib.hid K14
  have H16 := Lib.hid K16
  have H19 := Lib.hid K19
  have H21 := Lib.hid K21
  have HH := Lib.hid KH
  have H26 := Lib.hid K26
  have HML := Lib.hid hM
  have HLAST := Lib.hid hlast
  clear KG KR K12 K14 K16 K19 K21 KH K26 hM hlast
  have HB0 : Hid (Below w.heap.size w ((w.alloc (.cells #[.slice a len c] 24)).alloc (.cells #[.int .i64 t, .string n1, .string n2, .string n3] 26))) := Lib.hid (bla (bla (Below.refl _ _) _) _)
  have HX0 : Hid (((w.alloc (.cells #[.slice a len c] 24)).alloc (.cells #[.int .i64 t, .string n1, .string n2, .string n3] 26)).heap[w.heap.size]? = some (.cells #[.slice a len c] 24 (0, 0))) := Lib.hid ((Below.heap_alloc _ _ _ (by simp)).trans (World.alloc_heap_new _ _))
  have HY0 : Hid (((w.alloc (.cells #[.slice a len c] 24)).alloc (.cells #[.int .i64 t, .string n1, .string n2, .string n3] 26)).heap[w.heap.size + 1]? = some (.cells #[.int .i64 t, .string n1, .string n2, .string n3] 26 (0, 0))) := Lib.hid (by
    have := World.alloc_heap_new (w.alloc (.cells #[.slice a len c] 24)) (.cells #[.int .i64 t, .string n1, .string n2, .string n3] 26)
    rw [World.size_alloc] at this; exact this)
  go_enter Try.func9, Try.ntmps9
  go_wp2_with fail
  ((with_reducible refine (HG.out _ HB0.out).mono ?_); rintro e w1 ⟨rfl, hb1⟩)
  have HB1 := Lib.hid (bl HB0.out hb1)
  have HX1 := Lib.hid ((hb1.block _ (lt_of_block HX0.out)).trans HX0.out)
  have HY1 := Lib.hid ((hb1.block _ (lt_of_block HY0.out)).trans HY0.out)
  have y0 : w1.cell? ⟨w.heap.size + 1, 0, none⟩ = some (.int .i64 t) := by rw [Lib.cell_of_heap HY1.out]; rfl
  have y1 : w1.cell? ⟨w.heap.size + 1, 1, none⟩ = some (.string n1) := by rw [Lib.cell_of_heap HY1.out]; rfl
  have y2 : w1.cell? ⟨w.heap.size + 1, 2, none⟩ = some (.string n2) := by rw [Lib.cell_of_heap HY1.out]; rfl
  have y3 : w1.cell? ⟨w.heap.size + 1, 3, none⟩ = some (.string n3) := by rw [Lib.cell_of_heap HY1.out]; rfl
  have HN : Hid (IsRecs (w1.alloc (.cells #[.int .i64 t, .string n1, .string n2, .string n3] 26)) (.slice (some ⟨w1.heap.size, 0, none⟩) 1 1) [⟨t, n1, n2, n3⟩]) := Lib.hid (recs_one_new w1 ⟨t, n1, n2, n3⟩)
  clear hb1
  go_wp2_with fail
  ((with_reducible refine (HR.out _ _ HN.out).mono ?_); rintro e w2 ⟨rfl, hb2⟩)
  have HA2 := Lib.hid ((bla (Below.refl _ w1) (.cells #[.int .i64 t, .string n1, .string n2, .string n3] 26)).trans (hb2.mono (by simp)))
  have HB2 := Lib.hid (bl HB1.out HA2.out)
  have HX2 := Lib.hid ((HA2.out.block _ (lt_of_block HX1.out)).trans HX1.out)
  have HY2 := Lib.hid ((HA2.out.block _ (lt_of_block HY1.out)).trans HY1.out)
  clear y0 y1 y2 y3 hb2
  have x0' : w2.cell? ⟨w.heap.size, 0, none⟩ = some (.slice a len c) := by rw [Lib.cell_of_heap HX2.out]; rfl
  have y0' : w2.cell? ⟨w.heap.size + 1, 0, none⟩ = some (.int .i64 t) := by rw [Lib.cell_of_heap HY2.out]; rfl
  have y1' : w2.cell? ⟨w.heap.size + 1, 1, none⟩ = some (.string n1) := by rw [Lib.cell_of_heap HY2.out]; rfl
  have y2' : w2.cell? ⟨w.heap.size + 1, 2, none⟩ = some (.string n2) := by rw [Lib.cell_of_heap HY2.out]; rfl
  have y3' : w2.cell? ⟨w.heap.size + 1, 3, none⟩ = some (.string n3) := by rw [Lib.cell_of_heap HY2.out]; rfl
  go_wp2_with fail
  ((with_reducible refine (H12.out _ HB2.out).mono ?_); rintro e w3 ⟨u3, rfl, hu3, hb3⟩)
  have HU := Lib.hid hu3
  obtain ⟨a3, c3, hu, _⟩ := hu3
  rw [HML.out] at hu
  subst hu
  have HD3 : Hid (Below w2.heap.size w2 (w3.alloc (.cells #[.slice a3 (len + 1) c3] 24))) := Lib.hid (bla hb3 _)
  have HB3 := Lib.hid (bl HB2.out HD3.out)
  have HX3 := Lib.hid ((HD3.out.block _ (lt_of_block HX2.out)).trans HX2.out)
  have HY3 := Lib.hid ((HD3.out.block _ (lt_of_block HY2.out)).trans HY2.out)
  have HZ3 : Hid ((w3.alloc (.cells #[.slice a3 (len + 1) c3] 24)).heap[w3.heap.size]? = some (.cells #[.slice a3 (len + 1) c3] 24 (0, 0))) := Lib.hid (World.alloc_heap_new _ _)
  have HU3 : Hid (IsRecs (w3.alloc (.cells #[.slice a3 (len + 1) c3] 24)) (.slice a3 (len + 1) c3) MR) := Lib.hid (HU.out.below ((Below.refl _ _).alloc (Nat.le_refl _) _) (Nat.le_refl _))
  clear hb3 HU
  clear x0' y0' y1' y2' y3'
  obtain ⟨b, off, rfl, hbl, hrl, hc3⟩ := HLAST.out _ _ _ HU3.out
  have HRL := Lib.hid hrl
  clear hrl
  go_wp2_with fail
  have below : Below ((w3.alloc (.cells #[.slice (some ⟨b, off, none⟩) (len + 1) c3] 24)).heap.size) (w3.alloc (.cells #[.slice (some ⟨b, off, none⟩) (len + 1) c3] 24)) (w3.alloc (.cells #[.slice (some ⟨b, off, none⟩) (len + 1) c3] 24)) := Below.refl _ _
  have HBW : Hid ((w3.alloc (.cells #[.slice (some ⟨b, off, none⟩) (len + 1) c3] 24)).heap.size ≤ (w3.alloc (.cells #[.slice (some ⟨b, off, none⟩) (len + 1) c3] 24)).heap.size) := Lib.hid below.size
  have HKEEP : Hid (Keep ((w3.alloc (.cells #[.slice (some ⟨b, off, none⟩) (len + 1) c3] 24)).heap.size) (w3.alloc (.cells #[.slice (some ⟨b, off, none⟩) (len + 1) c3] 24)) [((w.heap.size, .cells #[.slice a len c] 24) : Nat × Obj), ((w.heap.size + 1, .cells #[.int .i64 t, .string n1, .string n2, .string n3] 26) : Nat × Obj), ((w3.heap.size, .cells #[.slice (some ⟨b, off, none⟩) (len + 1) c3] 24) : Nat × Obj)] (w3.alloc (.cells #[.slice (some ⟨b, off, none⟩) (len + 1) c3] 24))) := Lib.hid ⟨below, by
    intro p hp
    simp only [List.mem_cons, List.not_mem_nil, or_false] at hp
    rcases hp with rfl | rfl | rfl
    · exact HX3.out
    · exact HY3.out
    · exact HZ3.out⟩
  clear below
  have HOLD0 : Hid (∀ xb ∈ ([] : List RBox), xb.al = none → (w3.alloc (.cells #[.slice (some ⟨b, off, none⟩) (len + 1) c3] 24)).heap[xb.blk]? = some (.cells xb.z xb.T (0, 0)) ∧ (w3.alloc (.cells #[.slice (some ⟨b, off, none⟩) (len + 1) c3] 24)).heap.size ≤ xb.blk ∧ ∀ p ∈ [((w.heap.size, .cells #[.slice a len c] 24) : Nat × Obj), ((w.heap.size + 1, .cells #[.int .i64 t, .string n1, .string n2, .string n3] 26) : Nat × Obj), ((w3.heap.size, .cells #[.slice (some ⟨b, off, none⟩) (len + 1) c3] 24) : Nat × Obj)], p.1 ≠ xb.blk) := Lib.hid (by intro xb hb; cases hb)
  refine wp_region_box ((w3.alloc (.cells #[.slice (some ⟨b, off, none⟩) (len + 1) c3] 24)).heap.size) (w3.alloc (.cells #[.slice (some ⟨b, off, none⟩) (len + 1) c3] 24)) [(w.heap.size, .cells #[.slice a len c] 24), (w.heap.size + 1, .cells #[.int .i64 t, .string n1, .string n2, .string n3] 26), (w3.heap.size, .cells #[.slice (some ⟨b, off, none⟩) (len + 1) c3] 24)] [] (fun i => ([(.agg #[.slice (some ⟨b, off, none⟩) (len + 1) c3]), (.int .i64 0), (.bool false), (.bool false), (.pointer (some ⟨w3.heap.size, 0, none⟩)), (.slice (some ⟨b, off, none⟩) (len + 1) c3), (.int .i64 ((len : Int) + 1)), (.int .i64 len), (.int .i64 ((len : Int) + 1)), (.bool false), (.bool false), (.bool false), (.pointer (some ⟨w3.heap.size, 0, none⟩)), (.slice (some ⟨b, off, none⟩) (len + 1) c3), (.int .i64 len), (.slice (some ⟨b, off, none⟩) len c3), (.agg #[.slice (some ⟨b, off, none⟩) len c3]), (.agg #[.slice a len c]), (.bool true), (.bool false), (.bool false), (.bool false), (.pointer (some ⟨w3.heap.size, 0, none⟩)), (.slice (some ⟨b, off, none⟩) (len + 1) c3), (.int .i64 len), (.pointer (some ⟨b, off + len * 4, none⟩)), (.agg #[.int .i64 t, .string n1, .string n2, .string n3]), (.agg #[.int .i64 t, .string n1, .string n2, .string n3]), (.bool false), (.bool false)] : List Value).getD i undef) (by kernel_rfl) (by kernel_rfl) (by kernel_rfl) (by rfl) (by simp) (by rfl) HBW.out HKEEP.out HOLD0.out ?_ ?_
  · refine ⟨?_, ?_, ?_, ?_, ?_, ?_, ?_, ?_, ?_, ?_, ?_, ?_, ?_, ?_, ?_, ?_, ?_, ?_, ?_, ?_, ?_, ?_, ?_, ?_, ?_, ?_, ?_, ?_, ?_, ?_, trivial⟩
    · refine stepG_plain rfl rfl fun g ac W hK hk => ?_
      have h6 : ac.tmps[6]? = some (.pointer (some ⟨w3.heap.size, 0, none⟩)) := hk.keep 6 rfl
      have mxq := hK.get 2 rfl
      have q0 : W.cell? ⟨w3.heap.size, 0, none⟩ = some (.slice (some ⟨b, off, none⟩) (len + 1) c3) := by rw [Lib.cell_of_heap mxq]; rfl
      refine wpOp_of rfl rfl ?_
      unfold Oper.wp
      simp [execOp, go_sem, h6, q0]
      first | exact ⟨rfl, Below.refl _ _⟩ | exact Below.refl _ _
    · refine stepG_plain rfl rfl fun g ac W hK hk => ?_
      have h37 : ac.tmps[37]? = some (.agg #[.slice (some ⟨b, off, none⟩) (len + 1) c3]) := hk.has 0 _ 37 rfl rfl rfl (by simp) rfl
      refine wpOp_of rfl rfl ?_
      unfold Oper.wp
      simp [execOp, go_sem, h37]
      refine (H14.out W _ (HU3.out.below hK.1 (Nat.le_refl _))).mono ?_
      rintro e w' ⟨rfl, hb⟩
      exact ⟨rfl, hb⟩
    · refine stepG_plain rfl rfl fun g ac W hK hk => ?_
      have h38 : ac.tmps[38]? = some (.int .i64 0) := hk.has 1 _ 38 rfl rfl rfl (by simp) rfl
      refine wpOp_of rfl rfl ?_
      unfold Oper.wp
      simp [execOp, go_sem, h38]
      first | exact ⟨rfl, Below.refl _ _⟩ | exact Below.refl _ _
    · refine stepG_plain rfl rfl fun g ac W hK hk => ?_
      have h39 : ac.tmps[39]? = some (.bool false) := hk.has 2 _ 39 rfl rfl rfl (by simp) rfl
      refine wpOp_of rfl rfl ?_
      unfold Oper.wp
      simp [execOp, go_sem, h39]
      first | exact ⟨rfl, Below.refl _ _⟩ | exact Below.refl _ _
    · refine stepG_plain rfl rfl fun g ac W hK hk => ?_
      have h6 : ac.tmps[6]? = some (.pointer (some ⟨w3.heap.size, 0, none⟩)) := hk.keep 6 rfl
      have hg : ac.tmps[40]? = some (.bool false) := hk.has 3 _ 40 rfl rfl rfl (by simp) rfl
      refine wpOp_of rfl (by simp [Region.wanted, yielded, hg]) ?_
      unfold Oper.wp
      simp [execOp, go_sem, h6]
      first | exact ⟨rfl, Below.refl _ _⟩ | exact Below.refl _ _
    · refine stepG_plain rfl rfl fun g ac W hK hk => ?_
      have h41 : ac.tmps[41]? = some (.pointer (some ⟨w3.heap.size, 0, none⟩)) := hk.has 4 _ 41 rfl rfl rfl (by simp) rfl
      have hg : ac.tmps[40]? = some (.bool false) := hk.has 3 _ 40 rfl rfl rfl (by simp) rfl
      have mxq := hK.get 2 rfl
      have q0 : W.cell? ⟨w3.heap.size, 0, none⟩ = some (.slice (some ⟨b, off, none⟩) (len + 1) c3) := by rw [Lib.cell_of_heap mxq]; rfl
      refine wpOp_of rfl (by simp [Region.wanted, yielded, hg]) ?_
      unfold Oper.wp
      simp [execOp, go_sem, h41, q0]
      first | exact ⟨rfl, Below.refl _ _⟩ | exact Below.refl _ _
    · refine stepG_plain rfl rfl fun g ac W hK hk => ?_
      have h42 : ac.tmps[42]? = some (.slice (some ⟨b, off, none⟩) (len + 1) c3) := hk.has 5 _ 42 rfl rfl rfl (by simp) rfl
      have hg : ac.tmps[40]? = some (.bool false) := hk.has 3 _ 40 rfl rfl rfl (by simp) rfl
      refine wpOp_of rfl (by simp [Region.wanted, yielded, hg]) ?_
      unfold Oper.wp
      simp [execOp, go_sem, h42]
      first | exact ⟨rfl, Below.refl _ _⟩ | exact Below.refl _ _
    · refine stepG_plain rfl rfl fun g ac W hK hk => ?_
      have h5 : ac.tmps[5]? = some (.int .i64 len) := hk.keep 5 rfl
      have hg : ac.tmps[40]? = some (.bool false) := hk.has 3 _ 40 rfl rfl rfl (by simp) rfl
      refine wpOp_of rfl (by simp [Region.wanted, yielded, hg]) ?_
      unfold Oper.wp
      simp [execOp, go_sem, h5]
      first | exact ⟨rfl, Below.refl _ _⟩ | exact Below.refl _ _
    · refine stepG_plain rfl rfl fun g ac W hK hk => ?_
      have h44 : ac.tmps[44]? = some (.int .i64 len) := hk.has 7 _ 44 rfl rfl rfl (by simp) rfl
      have hg : ac.tmps[40]? = some (.bool false) := hk.has 3 _ 40 rfl rfl rfl (by simp) rfl
      have hw1 : IntKind.i64.wrap ((len : Int) + 1) = (len : Int) + 1 := IntWalk.i64_in _ (by omega)
      refine wpOp_of rfl (by simp [Region.wanted, yielded, hg]) ?_
      unfold Oper.wp
      simp [execOp, go_sem, h44, hw1]
      first | exact ⟨rfl, Below.refl _ _⟩ | exact Below.refl _ _
    · refine stepG_plain rfl rfl fun g ac W hK hk => ?_
      have h43 : ac.tmps[43]? = some (.int .i64 ((len : Int) + 1)) := hk.has 6 _ 43 rfl rfl rfl (by simp) rfl
      have h45 : ac.tmps[45]? = some (.int .i64 ((len : Int) + 1)) := hk.has 8 _ 45 rfl rfl rfl (by simp) rfl
      have hg : ac.tmps[40]? = some (.bool false) := hk.has 3 _ 40 rfl rfl rfl (by simp) rfl
      refine wpOp_of rfl (by simp [Region.wanted, yielded, hg]) ?_
      unfold Oper.wp
      simp [execOp, go_sem, h43, h45]
      first | exact ⟨rfl, Below.refl _ _⟩ | exact Below.refl _ _
    · refine stepG_plain rfl rfl fun g ac W hK hk => ?_
      have h40 : ac.tmps[40]? = some (.bool false) := hk.has 3 _ 40 rfl rfl rfl (by simp) rfl
      have h46 : ac.tmps[46]? = some (.bool false) := hk.has 9 _ 46 rfl rfl rfl (by simp) rfl
      refine wpOp_of rfl rfl ?_
      unfold Oper.wp
      simp [execOp, go_sem, h40, h46]
      first | exact ⟨rfl, Below.refl _ _⟩ | exact Below.refl _ _
    · refine stepG_plain rfl rfl fun g ac W hK hk => ?_
      have h47 : ac.tmps[47]? = some (.bool false) := hk.has 10 _ 47 rfl rfl rfl (by simp) rfl
      refine wpOp_of rfl rfl ?_
      unfold Oper.wp
      simp [execOp, go_sem, h47]
      first | exact ⟨rfl, Below.refl _ _⟩ | exact Below.refl _ _
    · refine stepG_plain rfl rfl fun g ac W hK hk => ?_
      have h6 : ac.tmps[6]? = some (.pointer (some ⟨w3.heap.size, 0, none⟩)) := hk.keep 6 rfl
      have hg : ac.tmps[48]? = some (.bool false) := hk.has 11 _ 48 rfl rfl rfl (by simp) rfl
      refine wpOp_of rfl (by simp [Region.wanted, yielded, hg]) ?_
      unfold Oper.wp
      simp [execOp, go_sem, h6]
      first | exact ⟨rfl, Below.refl _ _⟩ | exact Below.refl _ _
    · refine stepG_plain rfl rfl fun g ac W hK hk => ?_
      have h49 : ac.tmps[49]? = some (.pointer (some ⟨w3.heap.size, 0, none⟩)) := hk.has 12 _ 49 rfl rfl rfl (by simp) rfl
      have hg : ac.tmps[48]? = some (.bool false) := hk.has 11 _ 48 rfl rfl rfl (by simp) rfl
      have mxq := hK.get 2 rfl
      have q0 : W.cell? ⟨w3.heap.size, 0, none⟩ = some (.slice (some ⟨b, off, none⟩) (len + 1) c3) := by rw [Lib.cell_of_heap mxq]; rfl
      refine wpOp_of rfl (by simp [Region.wanted, yielded, hg]) ?_
      unfold Oper.wp
      simp [execOp, go_sem, h49, q0]
      first | exact ⟨rfl, Below.refl _ _⟩ | exact Below.refl _ _
    · refine stepG_plain rfl rfl fun g ac W hK hk => ?_
      have h5 : ac.tmps[5]? = some (.int .i64 len) := hk.keep 5 rfl
      have hg : ac.tmps[48]? = some (.bool false) := hk.has 11 _ 48 rfl rfl rfl (by simp) rfl
      refine wpOp_of rfl (by simp [Region.wanted, yielded, hg]) ?_
      unfold Oper.wp
      simp [execOp, go_sem, h5]
      first | exact ⟨rfl, Below.refl _ _⟩ | exact Below.refl _ _
    · refine stepG_plain rfl rfl fun g ac W hK hk => ?_
      have h50 : ac.tmps[50]? = some (.slice (some ⟨b, off, none⟩) (len + 1) c3) := hk.has 13 _ 50 rfl rfl rfl (by simp) rfl
      have h51 : ac.tmps[51]? = some (.int .i64 len) := hk.has 14 _ 51 rfl rfl rfl (by simp) rfl
      have hg : ac.tmps[48]? = some (.bool false) := hk.has 11 _ 48 rfl rfl rfl (by simp) rfl
      have z1 : (0 : Int) ≤ (len : Int) := by omega
      have z2 : (len : Int) ≤ (c3 : Int) := by omega
      refine wpOp_of rfl (by simp [Region.wanted, yielded, hg]) ?_
      unfold Oper.wp
      simp [execOp, go_sem, h50, h51, z1, z2]
      first | exact ⟨rfl, Below.refl _ _⟩ | exact Below.refl _ _
    · refine stepG_plain rfl rfl fun g ac W hK hk => ?_
      have h52 : ac.tmps[52]? = some (.slice (some ⟨b, off, none⟩) len c3) := hk.has 15 _ 52 rfl rfl rfl (by simp) rfl
      have hg : ac.tmps[48]? = some (.bool false) := hk.has 11 _ 48 rfl rfl rfl (by simp) rfl
      refine wpOp_of rfl (by simp [Region.wanted, yielded, hg]) ?_
      unfold Oper.wp
      simp [execOp, go_sem, h52]
      first | exact ⟨rfl, Below.refl _ _⟩ | exact Below.refl _ _
    · refine stepG_plain rfl rfl fun g ac W hK hk => ?_
      have h2 : ac.tmps[2]? = some (.pointer (some ⟨w.heap.size, 0, none⟩)) := hk.keep 2 rfl
      have hg : ac.tmps[48]? = some (.bool false) := hk.has 11 _ 48 rfl rfl rfl (by simp) rfl
      have mxq := hK.get 0 rfl
      have q0 : W.cell? ⟨w.heap.size, 0, none⟩ = some (.slice a len c) := by rw [Lib.cell_of_heap mxq]; rfl
      refine wpOp_of rfl (by simp [Region.wanted, yielded, hg]) ?_
      unfold Oper.wp
      simp [execOp, go_sem, h2, q0]
      first | exact ⟨rfl, Below.refl _ _⟩ | exact Below.refl _ _
    · refine stepG_plain rfl rfl fun g ac W hK hk => ?_
      have h53 : ac.tmps[53]? = some (.agg #[.slice (some ⟨b, off, none⟩) len c3]) := hk.has 16 _ 53 rfl rfl rfl (by simp) rfl
      have h54 : ac.tmps[54]? = some (.agg #[.slice a len c]) := hk.has 17 _ 54 rfl rfl rfl (by simp) rfl
      have hg : ac.tmps[48]? = some (.bool false) := hk.has 11 _ 48 rfl rfl rfl (by simp) rfl
      refine wpOp_of rfl (by simp [Region.wanted, yielded, hg]) ?_
      unfold Oper.wp
      simp [execOp, go_sem, h53, h54]
      refine (H16.out W _ _ (bl HB3.out hK.1) (HU3.out.below hK.1 (Nat.le_refl _))).mono ?_
      rintro e w' ⟨rfl, hb⟩
      exact ⟨rfl, hb⟩
    · refine stepG_plain rfl rfl fun g ac W hK hk => ?_
      have h55 : ac.tmps[55]? = some (.bool true) := hk.has 18 _ 55 rfl rfl rfl (by simp) rfl
      have hg : ac.tmps[48]? = some (.bool false) := hk.has 11 _ 48 rfl rfl rfl (by simp) rfl
      refine wpOp_of rfl (by simp [Region.wanted, yielded, hg]) ?_
      unfold Oper.wp
      simp [execOp, go_sem, h55]
      first | exact ⟨rfl, Below.refl _ _⟩ | exact Below.refl _ _
    · refine stepG_plain rfl rfl fun g ac W hK hk => ?_
      have h48 : ac.tmps[48]? = some (.bool false) := hk.has 11 _ 48 rfl rfl rfl (by simp) rfl
      have h56 : ac.tmps[56]? = some (.bool false) := hk.has 19 _ 56 rfl rfl rfl (by simp) rfl
      refine wpOp_of rfl rfl ?_
      unfold Oper.wp
      simp [execOp, go_sem, h48, h56]
      first | exact ⟨rfl, Below.refl _ _⟩ | exact Below.refl _ _
    · refine stepG_plain rfl rfl fun g ac W hK hk => ?_
      have h57 : ac.tmps[57]? = some (.bool false) := hk.has 20 _ 57 rfl rfl rfl (by simp) rfl
      refine wpOp_of rfl rfl ?_
      unfold Oper.wp
      simp [execOp, go_sem, h57]
      first | exact ⟨rfl, Below.refl _ _⟩ | exact Below.refl _ _
    · refine stepG_plain rfl rfl fun g ac W hK hk => ?_
      have h6 : ac.tmps[6]? = some (.pointer (some ⟨w3.heap.size, 0, none⟩)) := hk.keep 6 rfl
      have hg : ac.tmps[58]? = some (.bool false) := hk.has 21 _ 58 rfl rfl rfl (by simp) rfl
      refine wpOp_of rfl (by simp [Region.wanted, yielded, hg]) ?_
      unfold Oper.wp
      simp [execOp, go_sem, h6]
      first | exact ⟨rfl, Below.refl _ _⟩ | exact Below.refl _ _
    · refine stepG_plain rfl rfl fun g ac W hK hk => ?_
      have h59 : ac.tmps[59]? = some (.pointer (some ⟨w3.heap.size, 0, none⟩)) := hk.has 22 _ 59 rfl rfl rfl (by simp) rfl
      have hg : ac.tmps[58]? = some (.bool false) := hk.has 21 _ 58 rfl rfl rfl (by simp) rfl
      have mxq := hK.get 2 rfl
      have q0 : W.cell? ⟨w3.heap.size, 0, none⟩ = some (.slice (some ⟨b, off, none⟩) (len + 1) c3) := by rw [Lib.cell_of_heap mxq]; rfl
      refine wpOp_of rfl (by simp [Region.wanted, yielded, hg]) ?_
      unfold Oper.wp
      simp [execOp, go_sem, h59, q0]
      first | exact ⟨rfl, Below.refl _ _⟩ | exact Below.refl _ _
    · refine stepG_plain rfl rfl fun g ac W hK hk => ?_
      have h5 : ac.tmps[5]? = some (.int .i64 len) := hk.keep 5 rfl
      have hg : ac.tmps[58]? = some (.bool false) := hk.has 21 _ 58 rfl rfl rfl (by simp) rfl
      refine wpOp_of rfl (by simp [Region.wanted, yielded, hg]) ?_
      unfold Oper.wp
      simp [execOp, go_sem, h5]
      first | exact ⟨rfl, Below.refl _ _⟩ | exact Below.refl _ _
    · refine stepG_plain rfl rfl fun g ac W hK hk => ?_
      have h60 : ac.tmps[60]? = some (.slice (some ⟨b, off, none⟩) (len + 1) c3) := hk.has 23 _ 60 rfl rfl rfl (by simp) rfl
      have h61 : ac.tmps[61]? = some (.int .i64 len) := hk.has 24 _ 61 rfl rfl rfl (by simp) rfl
      have hg : ac.tmps[58]? = some (.bool false) := hk.has 21 _ 58 rfl rfl rfl (by simp) rfl
      have z1 : (0 : Int) ≤ (len : Int) := by omega
      have z2 : (len : Int) < (len : Int) + 1 := by omega
      refine wpOp_of rfl (by simp [Region.wanted, yielded, hg]) ?_
      unfold Oper.wp
      simp [execOp, go_sem, h60, h61, z1, z2]
      first | exact ⟨rfl, Below.refl _ _⟩ | exact Below.refl _ _
    · refine stepG_plain rfl rfl fun g ac W hK hk => ?_
      have h62 : ac.tmps[62]? = some (.pointer (some ⟨b, off + len * 4, none⟩)) := hk.has 25 _ 62 rfl rfl rfl (by simp) rfl
      have hg : ac.tmps[58]? = some (.bool false) := hk.has 21 _ 58 rfl rfl rfl (by simp) rfl
      obtain ⟨q0, q1, q2, q3⟩ := HRL.out.below hK.1 hbl
      simp only at q0 q1 q2 q3
      refine wpOp_of rfl (by simp [Region.wanted, yielded, hg]) ?_
      unfold Oper.wp
      simp [execOp, go_sem, h62, q0, q1, q2, q3]
      first | exact ⟨rfl, Below.refl _ _⟩ | exact Below.refl _ _
    · refine stepG_plain rfl rfl fun g ac W hK hk => ?_
      have h3 : ac.tmps[3]? = some (.pointer (some ⟨w.heap.size + 1, 0, none⟩)) := hk.keep 3 rfl
      have hg : ac.tmps[58]? = some (.bool false) := hk.has 21 _ 58 rfl rfl rfl (by simp) rfl
      have mxr := hK.get 1 rfl
      have r0 : W.cell? ⟨w.heap.size + 1, 0, none⟩ = some (.int .i64 t) := by rw [Lib.cell_of_heap mxr]; rfl
      have r1 : W.cell? ⟨w.heap.size + 1, 1, none⟩ = some (.string n1) := by rw [Lib.cell_of_heap mxr]; rfl
      have r2 : W.cell? ⟨w.heap.size + 1, 2, none⟩ = some (.string n2) := by rw [Lib.cell_of_heap mxr]; rfl
      have r3 : W.cell? ⟨w.heap.size + 1, 3, none⟩ = some (.string n3) := by rw [Lib.cell_of_heap mxr]; rfl
      refine wpOp_of rfl (by simp [Region.wanted, yielded, hg]) ?_
      unfold Oper.wp
      simp [execOp, go_sem, h3, r0, r1, r2, r3]
      first | exact ⟨rfl, Below.refl _ _⟩ | exact Below.refl _ _
    · refine stepG_plain rfl rfl fun g ac W hK hk => ?_
      have h63 : ac.tmps[63]? = some (.agg #[.int .i64 t, .string n1, .string n2, .string n3]) := hk.has 26 _ 63 rfl rfl rfl (by simp) rfl
      have h64 : ac.tmps[64]? = some (.agg #[.int .i64 t, .string n1, .string n2, .string n3]) := hk.has 27 _ 64 rfl rfl rfl (by simp) rfl
      have hg : ac.tmps[58]? = some (.bool false) := hk.has 21 _ 58 rfl rfl rfl (by simp) rfl
      refine wpOp_of rfl (by simp [Region.wanted, yielded, hg]) ?_
      unfold Oper.wp
      simp [execOp, go_sem, h63, h64]
      first | exact ⟨rfl, Below.refl _ _⟩ | exact Below.refl _ _
    · refine stepG_plain rfl rfl fun g ac W hK hk => ?_
      have h58 : ac.tmps[58]? = some (.bool false) := hk.has 21 _ 58 rfl rfl rfl (by simp) rfl
      have h65 : ac.tmps[65]? = some (.bool false) := hk.has 28 _ 65 rfl rfl rfl (by simp) rfl
      refine wpOp_of rfl rfl ?_
      unfold Oper.wp
      simp [execOp, go_sem, h58, h65]
      first | exact ⟨rfl, Below.refl _ _⟩ | exact Below.refl _ _
  · intro g W hK hsz hB hd
    simp [frameOf, Act.put, valG]
    have HD4 : Hid (Below (w3.alloc (.cells #[.slice (some ⟨b, off, none⟩) (len + 1) c3] 24)).heap.size (w3.alloc (.cells #[.slice (some ⟨b, off, none⟩) (len + 1) c3] 24)) W) := Lib.hid hK.1
    have HB4 := Lib.hid (bl HB3.out HD4.out)
    have HX4 : Hid (W.heap[w.heap.size]? = some (.cells #[.slice a len c] 24 (0, 0))) := Lib.hid (hK.get 0 rfl)
    have HZ4 : Hid (W.heap[w3.heap.size]? = some (.cells #[.slice (some ⟨b, off, none⟩) (len + 1) c3] 24 (0, 0))) := Lib.hid (hK.get 2 rfl)
    have HU4 := Lib.hid (HU3.out.below HD4.out (Nat.le_refl _))
    clear hK hB hd hsz HKEEP HOLD0 HBW
    generalize W = w4 at *
    have x0' : w4.cell? ⟨w3.heap.size, 0, none⟩ = some (.slice (some ⟨b, off, none⟩) (len + 1) c3) := by rw [Lib.cell_of_heap HZ4.out]; rfl
    go_wp2_with fail
    ((with_reducible refine (H19.out _ _ HU4.out).mono ?_); rintro e w5 ⟨u5, rfl, hu5, hb5⟩)
    have HP := Lib.hid hu5
    obtain ⟨a5, c5, hu, _⟩ := hu5
    subst hu
    have HB5 := Lib.hid (bl HB4.out hb5)
    have HX5 := Lib.hid ((hb5.block _ (lt_of_block HX4.out)).trans HX4.out)
    have HZ5 := Lib.hid ((hb5.block _ (lt_of_block HZ4.out)).trans HZ4.out)
    have HU5 := Lib.hid (HU4.out.below hb5 (Nat.le_refl _))
    clear x0' hb5
    go_wp2_with fail
    have below : Below (w5.heap.size) w5 w5 := Below.refl _ _
    have HBW : Hid (w5.heap.size ≤ w5.heap.size) := Lib.hid below.size
    have HKEEP : Hid (Keep (w5.heap.size) w5 [((w.heap.size, .cells #[.slice a len c] 24) : Nat × Obj), ((w3.heap.size, .cells #[.slice (some ⟨b, off, none⟩) (len + 1) c3] 24) : Nat × Obj)] w5) := Lib.hid ⟨below, by
      intro p hp
      simp only [List.mem_cons, List.not_mem_nil, or_false] at hp
      rcases hp with rfl | rfl
      · exact HX5.out
      · exact HZ5.out⟩
    clear below
    have HOLD0 : Hid (∀ xb ∈ ([] : List RBox), xb.al = none → w5.heap[xb.blk]? = some (.cells xb.z xb.T (0, 0)) ∧ w5.heap.size ≤ xb.blk ∧ ∀ p ∈ [((w.heap.size, .cells #[.slice a len c] 24) : Nat × Obj), ((w3.heap.size, .cells #[.slice (some ⟨b, off, none⟩) (len + 1) c3] 24) : Nat × Obj)], p.1 ≠ xb.blk) := Lib.hid (by intro xb hb; cases hb)
    refine wp_region_box (w5.heap.size) w5 [(w.heap.size, .cells #[.slice a len c] 24), (w3.heap.size, .cells #[.slice (some ⟨b, off, none⟩) (len + 1) c3] 24)] [] (fun i => ([(.int .i64 0), (.bool true), (.bool true), (.agg #[.slice a len c]), (.agg #[.int .u64 y0, .int .u64 y1]), (.int .i64 len), (.agg #[.slice (some ⟨b, off, none⟩) (len + 1) c3]), (.agg #[.int .u64 x0, .int .u64 x1]), (.int .i64 len), (.int .i64 ((len : Int) + 1)), (.slice a5 P.length c5), (.bool true), (.bool true), (.bool true), (.bool true), (.bool true), (.bool true)] : List Value).getD i undef) (by kernel_rfl) (by kernel_rfl) (by kernel_rfl) (by rfl) (by simp) (by rfl) HBW.out HKEEP.out HOLD0.out ?_ ?_
    · refine ⟨?_, ?_, ?_, ?_, ?_, ?_, ?_, ?_, ?_, ?_, ?_, ?_, ?_, ?_, ?_, ?_, ?_, trivial⟩
      · refine stepG_plain rfl rfl fun g ac W hK hk => ?_
        have h9 : ac.tmps[9]? = some (.int .i64 0) := hk.keep 9 rfl
        refine wpOp_of rfl rfl ?_
        unfold Oper.wp
        simp [execOp, go_sem, h9]
        first | exact ⟨rfl, Below.refl _ _⟩ | exact Below.refl _ _
      · refine stepG_plain rfl rfl fun g ac W hK hk => ?_
        have h73 : ac.tmps[73]? = some (.int .i64 0) := hk.has 0 _ 73 rfl rfl rfl (by simp) rfl
        refine wpOp_of rfl rfl ?_
        unfold Oper.wp
        simp [execOp, go_sem, h73]
        first | exact ⟨rfl, Below.refl _ _⟩ | exact Below.refl _ _
      · refine stepG_plain rfl rfl fun g ac W hK hk => ?_
        have h74 : ac.tmps[74]? = some (.bool true) := hk.has 1 _ 74 rfl rfl rfl (by simp) rfl
        refine wpOp_of rfl rfl ?_
        unfold Oper.wp
        simp [execOp, go_sem, h74]
        first | exact ⟨rfl, Below.refl _ _⟩ | exact Below.refl _ _
      · refine stepG_plain rfl rfl fun g ac W hK hk => ?_
        have h2 : ac.tmps[2]? = some (.pointer (some ⟨w.heap.size, 0, none⟩)) := hk.keep 2 rfl
        have hg : ac.tmps[75]? = some (.bool true) := hk.has 2 _ 75 rfl rfl rfl (by simp) rfl
        have mxq := hK.get 0 rfl
        have q0 : W.cell? ⟨w.heap.size, 0, none⟩ = some (.slice a len c) := by rw [Lib.cell_of_heap mxq]; rfl
        refine wpOp_of rfl (by simp [Region.wanted, yielded, hg]) ?_
        unfold Oper.wp
        simp [execOp, go_sem, h2, q0]
        first | exact ⟨rfl, Below.refl _ _⟩ | exact Below.refl _ _
      · refine stepG_plain rfl rfl fun g ac W hK hk => ?_
        have h76 : ac.tmps[76]? = some (.agg #[.slice a len c]) := hk.has 3 _ 76 rfl rfl rfl (by simp) rfl
        have hg : ac.tmps[75]? = some (.bool true) := hk.has 2 _ 75 rfl rfl rfl (by simp) rfl
        refine wpOp_of rfl (by simp [Region.wanted, yielded, hg]) ?_
        unfold Oper.wp
        simp [execOp, go_sem, h76]
        refine (H21.out W (bl HB5.out hK.1)).mono ?_
        rintro e w' ⟨rfl, hb⟩
        exact ⟨rfl, hb⟩
      · refine stepG_plain rfl rfl fun g ac W hK hk => ?_
        have h5 : ac.tmps[5]? = some (.int .i64 len) := hk.keep 5 rfl
        have hg : ac.tmps[75]? = some (.bool true) := hk.has 2 _ 75 rfl rfl rfl (by simp) rfl
        refine wpOp_of rfl (by simp [Region.wanted, yielded, hg]) ?_
        unfold Oper.wp
        simp [execOp, go_sem, h5]
        first | exact ⟨rfl, Below.refl _ _⟩ | exact Below.refl _ _
      · refine stepG_plain rfl rfl fun g ac W hK hk => ?_
        have h6 : ac.tmps[6]? = some (.pointer (some ⟨w3.heap.size, 0, none⟩)) := hk.keep 6 rfl
        have hg : ac.tmps[75]? = some (.bool true) := hk.has 2 _ 75 rfl rfl rfl (by simp) rfl
        have mxq := hK.get 1 rfl
        have q0 : W.cell? ⟨w3.heap.size, 0, none⟩ = some (.slice (some ⟨b, off, none⟩) (len + 1) c3) := by rw [Lib.cell_of_heap mxq]; rfl
        refine wpOp_of rfl (by simp [Region.wanted, yielded, hg]) ?_
        unfold Oper.wp
        simp [execOp, go_sem, h6, q0]
        first | exact ⟨rfl, Below.refl _ _⟩ | exact Below.refl _ _
      · refine stepG_plain rfl rfl fun g ac W hK hk => ?_
        have h79 : ac.tmps[79]? = some (.agg #[.slice (some ⟨b, off, none⟩) (len + 1) c3]) := hk.has 6 _ 79 rfl rfl rfl (by simp) rfl
        have hg : ac.tmps[75]? = some (.bool true) := hk.has 2 _ 75 rfl rfl rfl (by simp) rfl
        refine wpOp_of rfl (by simp [Region.wanted, yielded, hg]) ?_
        unfold Oper.wp
        simp [execOp, go_sem, h79]
        refine (HH.out W _ (HU5.out.below hK.1 (Nat.le_refl _))).mono ?_
        rintro e w' ⟨rfl, hb⟩
        exact ⟨rfl, hb⟩
      · refine stepG_plain rfl rfl fun g ac W hK hk => ?_
        have h5 : ac.tmps[5]? = some (.int .i64 len) := hk.keep 5 rfl
        have hg : ac.tmps[75]? = some (.bool true) := hk.has 2 _ 75 rfl rfl rfl (by simp) rfl
        refine wpOp_of rfl (by simp [Region.wanted, yielded, hg]) ?_
        unfold Oper.wp
        simp [execOp, go_sem, h5]
        first | exact ⟨rfl, Below.refl _ _⟩ | exact Below.refl _ _
      · refine stepG_plain rfl rfl fun g ac W hK hk => ?_
        have h81 : ac.tmps[81]? = some (.int .i64 len) := hk.has 8 _ 81 rfl rfl rfl (by simp) rfl
        have hg : ac.tmps[75]? = some (.bool true) := hk.has 2 _ 75 rfl rfl rfl (by simp) rfl
        have hw1 : IntKind.i64.wrap ((len : Int) + 1) = (len : Int) + 1 := IntWalk.i64_in _ (by omega)
        refine wpOp_of rfl (by simp [Region.wanted, yielded, hg]) ?_
        unfold Oper.wp
        simp [execOp, go_sem, h81, hw1]
        first | exact ⟨rfl, Below.refl _ _⟩ | exact Below.refl _ _
      · refine stepG_plain rfl rfl fun g ac W hK hk => ?_
        have h8 : ac.tmps[8]? = some (.slice a5 P.length c5) := hk.keep 8 rfl
        have hg : ac.tmps[75]? = some (.bool true) := hk.has 2 _ 75 rfl rfl rfl (by simp) rfl
        refine wpOp_of rfl (by simp [Region.wanted, yielded, hg]) ?_
        unfold Oper.wp
        simp [execOp, go_sem, h8]
        first | exact ⟨rfl, Below.refl _ _⟩ | exact Below.refl _ _
      · refine stepG_plain rfl rfl fun g ac W hK hk => ?_
        have h77 : ac.tmps[77]? = some (.agg #[.int .u64 y0, .int .u64 y1]) := hk.has 4 _ 77 rfl rfl rfl (by simp) rfl
        have h78 : ac.tmps[78]? = some (.int .i64 len) := hk.has 5 _ 78 rfl rfl rfl (by simp) rfl
        have h80 : ac.tmps[80]? = some (.agg #[.int .u64 x0, .int .u64 x1]) := hk.has 7 _ 80 rfl rfl rfl (by simp) rfl
        have h82 : ac.tmps[82]? = some (.int .i64 ((len : Int) + 1)) := hk.has 9 _ 82 rfl rfl rfl (by simp) rfl
        have h83 : ac.tmps[83]? = some (.slice a5 P.length c5) := hk.has 10 _ 83 rfl rfl rfl (by simp) rfl
        have hg : ac.tmps[75]? = some (.bool true) := hk.has 2 _ 75 rfl rfl rfl (by simp) rfl
        refine wpOp_of rfl (by simp [Region.wanted, yielded, hg]) ?_
        unfold Oper.wp
        simp [execOp, go_sem, h77, h78, h80, h82, h83]
        refine (H26.out W _ (HP.out.below hK.1)).mono ?_
        rintro e w' ⟨rfl, hb⟩
        exact ⟨rfl, hb⟩
      · refine stepG_plain rfl rfl fun g ac W hK hk => ?_
        have h75 : ac.tmps[75]? = some (.bool true) := hk.has 2 _ 75 rfl rfl rfl (by simp) rfl
        have h84 : ac.tmps[84]? = some (.bool true) := hk.has 11 _ 84 rfl rfl rfl (by simp) rfl
        refine wpOp_of rfl rfl ?_
        unfold Oper.wp
        simp [execOp, go_sem, h75, h84]
        first | exact ⟨rfl, Below.refl _ _⟩ | exact Below.refl _ _
      · refine stepG_plain rfl rfl fun g ac W hK hk => ?_
        have h85 : ac.tmps[85]? = some (.bool true) := hk.has 12 _ 85 rfl rfl rfl (by simp) rfl
        refine wpOp_of rfl rfl ?_
        unfold Oper.wp
        simp [execOp, go_sem, h85]
        first | exact ⟨rfl, Below.refl _ _⟩ | exact Below.refl _ _
      · refine stepG_plain rfl rfl fun g ac W hK hk => ?_
        have hg : ac.tmps[86]? = some (.bool true) := hk.has 13 _ 86 rfl rfl rfl (by simp) rfl
        refine wpOp_of rfl (by simp [Region.wanted, yielded, hg]) ?_
        unfold Oper.wp
        simp [execOp, go_sem]
        refine (awake_any W).mono ?_
        rintro e w' ⟨rfl, hb⟩
        exact ⟨rfl, hb⟩
      · refine stepG_plain rfl rfl fun g ac W hK hk => ?_
        have h86 : ac.tmps[86]? = some (.bool true) := hk.has 13 _ 86 rfl rfl rfl (by simp) rfl
        have h87 : ac.tmps[87]? = some (.bool true) := hk.has 14 _ 87 rfl rfl rfl (by simp) rfl
        refine wpOp_of rfl rfl ?_
        unfold Oper.wp
        simp [execOp, go_sem, h86, h87]
        first | exact ⟨rfl, Below.refl _ _⟩ | exact Below.refl _ _
      · refine stepG_plain rfl rfl fun g ac W hK hk => ?_
        have h88 : ac.tmps[88]? = some (.bool true) := hk.has 15 _ 88 rfl rfl rfl (by simp) rfl
        refine wpOp_of rfl rfl ?_
        unfold Oper.wp
        simp [execOp, go_sem, h88]
        first | exact ⟨rfl, Below.refl _ _⟩ | exact Below.refl _ _
    · intro g W hK hsz hB hd
      simp [frameOf, Act.put, valG]
      have HW := Lib.hid (bl HB5.out hK.1)
      clear hK hB hd hsz
      go_wp2
      go_ret
      exact ⟨rfl, HW.out⟩
    

theorem chkFrom_snoc : ∀ (L : List Rec) (r : Rec) (last : Int), chkFrom last L = 0 → okR r = true → (L.getLast?.map (·.time)).getD last ≤ r.time → chkFrom last (L ++ [r]) = 0
  | [], r, last, _, hr, ht => by
    simp at ht
    simp [chkFrom, hr]; omega
  | x :: L, r, last, h, hr, ht => by
    simp only [List.cons_append, chkFrom] at h ⊢
    split at h
    · simp at h
    · rename_i h1
      rw [if_neg h1]
      split at h
      · simp at h
      · rename_i h2
        rw [if_neg h2]
        refine chkFrom_snoc L r x.time h hr ?_
        cases L with
        | nil => simpa using ht
        | cons y t =>
          rw [List.getLast?_cons_cons] at ht
          cases hz : (y :: t).getLast? with
          | none => simp at hz
          | some z => rw [hz] at ht; exact ht
theorem prvT_last (L : List Rec) : prvT L L.length = (L.getLast?.map (·.time)).getD 0 := by
  unfold prvT
  by_cases h : 0 < L.length
  · rw [dif_pos ⟨h, by omega⟩, List.getLast?_eq_getElem?, List.getElem?_eq_getElem (by omega)]
    rfl
  · have : L = [] := List.length_eq_zero_iff.1 (by omega)
    subst this
    simp
theorem chk_app (L : List Rec) (r : Rec) (h : appE L r = 0) (hl : L.length < 10000) : chkL L = 0 ∧ chkL (L ++ [r]) = 0 := by
  unfold appE at h
  split at h
  · rename_i h1; exact absurd h h1
  · rename_i h1
    have h0 : chkL L = 0 := Classical.not_not.1 h1
    split at h
    · simp at h
    · rename_i h2
      split at h
      · simp at h
      · rename_i h3
        refine ⟨h0, ?_⟩
        unfold chkL at h0 ⊢
        rw [if_neg (by omega)] at h0
        rw [if_neg (by rw [List.length_append]; simp; omega)]
        exact chkFrom_snoc L r 0 h0 (by simpa using h2) (by rw [← prvT_last]; omega)
theorem appendedLaw_any (L : List Rec) (r : Rec) (v : Value) (w : World) (h : IsRecs w v L) (hf : ∀ x ∈ L, x.Fit) (hr : r.Fit) :
    Calls Try.prog 9 #[.agg #[v], rv r] w fun e w' => e = .returned (.bool true) ∧ Below w.heap.size w w' := by
  obtain ⟨a, c, e, _⟩ := id h
  subst e
  have hW : ∀ W, Below w.heap.size w W → IsRecs W (.slice a L.length c) L := fun W hb => h.below hb (Nat.le_refl _)
  have hr1 : ∀ x ∈ [r], x.Fit := fun x hx => by rw [List.mem_singleton.1 hx]; exact hr
  cases hbig : bigL L with
  | true => exact appended_big a L.length c r.time r.who r.what r.data w fun W hb => great_any L _ W (hW W hb) hf true hbig
  | false =>
    cases hbig2 : bigL [r] with
    | true => exact appended_big2 a L.length c r.time r.who r.what r.data w (fun W hb => great_any L _ W (hW W hb) hf false hbig) fun W u hu => great_any [r] u W hu hr1 true hbig2
    | false =>
      have hlen := big_len hbig
      by_cases he : appE L r = 0
      · obtain ⟨hc, hcm⟩ := chk_app L r he (by omega)
        have hM : appL L r = L ++ [r] := by unfold appL; rw [if_pos he]
        have hl1 : (L ++ [r]).length = L.length + 1 := by simp
        have hfm : ∀ x ∈ L ++ [r], x.Fit := fun x hx => by
          rcases List.mem_append.1 hx with h | h
          · exact hf x h
          · exact hr1 x h
        have ht : (L ++ [r]).take L.length = L := by simp
        refine appended_ok a L.length c r.time (headM (L ++ [r])).1 (headM (L ++ [r])).2 (headM L).1 (headM L).2 r.who r.what r.data (extM (L ++ [r]) L.length) (L ++ [r]) w hlen hl1 (fun W a3 c3 h3 => ?_)
          (fun W hb => great_any L _ W (hW W hb) hf false hbig) (fun W u hu => great_any [r] u W hu hr1 false hbig2) (fun W hb => ?_) (fun W u hu => check_any _ u W hu hfm 0 hcm) (fun W a3 c3 hb h3 => ?_) (fun W u hu => ?_)
          (fun W hb => head_any L _ W (hW W hb) hf) (fun W u hu => head_any _ u W hu hfm) (fun W u hu => ?_)
        · obtain ⟨a', c', e, k1, k2, k3⟩ := h3
          simp only [Value.slice.injEq] at e
          obtain ⟨rfl, _, rfl⟩ := e
          obtain ⟨b, off, rfl, hb, hcell⟩ := k3.resolve_left (by simp)
          have := hcell L.length (by rw [hl1]; omega)
          refine ⟨b, off, rfl, hb, ?_, by omega⟩
          simpa using this
        · have := append_any L r _ W (hW W hb) hf hr (by omega)
          rw [he, hM] at this
          exact this
        · have h4 : IsRecs W (.slice a3 (L ++ [r]).length c3) (L ++ [r]) := by rw [hl1]; exact h3
          have := same_any ((L ++ [r]).take L.length) L _ _ W (recs_take h4 L.length (by rw [hl1]; omega)) (hW W hb)
          rw [ht] at this
          refine this.mono ?_
          rintro e w' ⟨rfl, hb⟩
          exact ⟨by simp, hb⟩
        · have := extend_any (L ++ [r]) u L.length W hu hfm (by rw [hl1]; omega)
          rw [ext_code hcm (by rw [hl1]; omega)] at this
          exact this
        · have := extends_any (headM L) L.length (headM (L ++ [r])) ((L.length : Int) + 1) _ u W hu
          have hg := growth_holds (L ++ [r]) L.length (by rw [hl1]; omega) hcm
          rw [ht, hl1, Int.natCast_add] at hg
          rw [show ((L.length : Int) + 1) = (L.length : Int) + ((1 : Nat) : Int) from rfl] at this ⊢
          rw [hg] at this
          exact this
      · have hM : appL L r = [] := by unfold appL; rw [if_neg he]
        refine appended_err a L.length c r.time (appE L r) r.who r.what r.data w he (fun W hb => great_any L _ W (hW W hb) hf false hbig) (fun W u hu => great_any [r] u W hu hr1 false hbig2) (fun W hb => ?_)
        have := append_any L r _ W (hW W hb) hf hr (by omega)
        rw [hM] at this
        exact this

set_option maxRecDepth 100000 in
theorem appendedL_lifted (os : Os) (started : os.Started) (H : Type) (enc : TypeId × Value → H) :
    ReturnsInHanded {} Try.checked os 9 .any (Rows.ledgerAppendedSpec.pre6 enc Try.prog Try.f9 Rows.ledgerAppendedRow.domain false) (Rows.ledgerAppendedSpec.post enc Try.prog Try.f9 false true false false) := by
  refine returnsInHanded_of_change (C := Try.checked) ownK started (by kernel_rfl) Try.func9
    (ChangeSpec.witness6 (enc := enc) (C := Try.checked) false ⟨#[], #[.agg #[.slice none 0 0], .agg #[.int .i64 0, .string ⟨#[]⟩, .string ⟨#[]⟩, .string ⟨#[]⟩]], []⟩ 8 (by kernel_rfl) (by kernel_rfl) (by kernel_rfl) (by kernel_rfl)) ?_
  intro W base args ds gs before hval0 hW hcnd _
  have hval : ∀ (j : Nat) t v, Try.f9.params[j]? = some t → args[j]? = some v → Value.okWide Try.prog W .any base t v := hval0
  have hW' := hW
  obtain ⟨p, q, hA0, hV, rfl, hfz, hnd⟩ := hW
  have hA : DataW.TrodAll enc Try.prog W 0 (fun _ => true) true Try.f9.params.toList args.toList ds p := hA0
  rw [Try.params9] at hA hval
  obtain ⟨v0, v1, d0, d1, p0, p1, rfl, rfl, rfl, h0, h1⟩ := trodAll_two hA
  obtain ⟨rfl, rfl⟩ := trodVars_none hV
  have k0 := h0
  have lt0 : ∀ x ∈ p0, x.block < W.heap.size := by obtain ⟨m, hm⟩ := k0; exact DataW.trod_lt m _ _ _ hm
  have k1 := h1
  have lt1 : ∀ x ∈ p1, x.block < W.heap.size := by obtain ⟨m, hm⟩ := k1; exact DataW.trod_lt m _ _ _ hm
  obtain ⟨u, L, rfl, i0, hf⟩ := open_ledger (hval 0 24 v0 rfl rfl) h0
  obtain ⟨r, rfl, hr⟩ := open_rec (hval 1 26 v1 rfl rfl) h1
  clear hA0 hval0
  refine (appendedLaw_any L r u W i0 hf hr).mono fun e W' ⟨he, bel⟩ => ?_
  subst he
  exact ⟨_, rfl, _, _, _, [], _, [], hW', trodAll_mk1 (shut_bool Try.underlying4 _), (trodAll_cons_mk (Below.trod laidOut (by kernel_rfl) (of_decide_eq_true (by kernel_rfl)) k0 bel lt0) (trodAll_cons_mk (Below.trod laidOut (by kernel_rfl) (of_decide_eq_true (by kernel_rfl)) k1 bel lt1) trodAll_mk0)), rfl, bel.frame _, fun h => by cases h⟩

set_option maxRecDepth 100000 in
theorem appendedL_holds : Rows.LedgerAppendedSaid :=
  OpenClaim.holds_of_wide 9 Try.f9 rfl rfl rfl rfl rfl rfl rfl ⟨rfl, rfl, rfl, rfl, rfl⟩ rfl rfl rfl rfl rfl (by kernel_rfl) Try.func9 (by kernel_rfl)
    (of_decide_eq_true (by kernel_rfl)) (by unfold Func.isWrapper; rw [if_neg (of_decide_eq_false (by kernel_rfl))]; exact ⟨rfl, rfl⟩)
    (fun os started H enc _ => appendedL_lifted os started H enc)
#print axioms appendedL_holds
end Go.Proofs.Ytfheflihofafdaa
