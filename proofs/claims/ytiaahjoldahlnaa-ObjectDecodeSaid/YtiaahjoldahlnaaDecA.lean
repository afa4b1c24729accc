/- object.Decode of trees, and whole, at this translation. -/
import Derived.Test.YtiaahjoldahlnaaDec3
import Derived.Test.YtiaahjoldahlnaaEntsR
namespace Go.Proofs.Ytiaahjoldahlnaa
open Go.RowKit Go.Great
attribute [local go_sem] eq_arr

set_option maxRecDepth 100000 in
set_option maxHeartbeats 16000000 in
theorem dec2_ok (s : BA) (hs : s.size ≤ 65536) (w : World) (r1 : Rd) (hI : rdI (s, false) = (2, r1)) (h1 : r1.1.size ≤ 65536) (n : Nat) (r2 : Rd) (hC : rdC r1 = (n, r2)) (hn : n ≤ 65536) (h2 : r2.1.size ≤ 65536) (L : List Ent) (r3 : Rd) (hP : rdXs n [] r2 = (L, r3)) (HL : Hid (L.length = n)) (HQ : Hid (r3 = ((⟨#[]⟩, false) : Rd))) (HF : Hid (∀ (W : World) (ve : Value) (B : Nat), W.ownsRow B 45 4 ve n (rowX L) → Calls Try.prog 25 #[.agg #[.int .i64 2, .string ⟨#[]⟩, ve, .int .u64 0, .int .u64 0, .slice none 0 0, .string ⟨#[]⟩, .int .i64 0, .string ⟨#[]⟩]] W fun e w' => e = .returned (.int .i64 0) ∧ Below W.heap.size W w')) :
    Calls Try.prog 21 #[.string s] w fun e w' => ∃ v, e = .returned (.tuple #[v, .int .i64 0]) ∧ IsOb w' v (⟨2, ⟨#[]⟩, L, (0, 0), [], ⟨#[]⟩, 0, ⟨#[]⟩⟩) ∧ Below w.heap.size w w' := by
  obtain ⟨R0, D0⟩ := dec_fresh w s
  have n1 : ¬ 65536 < s.size := by omega
  have IC : Hid (∀ W, RdAt W (w.heap.size + 1) (s, false) → Calls Try.prog 32 #[.pointer (some ⟨w.heap.size + 1, 0, none⟩)] W fun e w' => e = .returned (.int .i64 2) ∧ RdAt w' (w.heap.size + 1) r1 ∧ Only1 (w.heap.size + 1) W w') := Lib.hid fun W hW => intR_any _ (s, false) W hW (Nat.le_trans hs (by decide)) _ r1 hI
  clear hI
  go_enter Try.func21, Try.ntmps21
  go_wp2_with fail
  ((with_reducible refine (readR_any s _).mono ?_); rintro e w1 ⟨rfl, rfl⟩)
  go_wp2_with fail
  ((with_reducible refine (IC.out _ R0.rd).mono ?_); rintro e w2 ⟨rfl, hr1, ho1⟩)
  have R1 := R0.read hr1 ho1
  have D1 := D0.on2 (Only2.one ho1)
  clear R0 D0 hr1 ho1 IC
  obtain ⟨p0, p1, -, -, -, -, -, -, -, -⟩ := R1.at
  have f1 := R1.f 1
  have R2 := R1.setK 2
  have D2 := D1.on2 (Only2.two (Only1.set (N := w.heap.size + 1 + 1) w2 1 (.int .i64 2)))
  clear R1 D1
  go_wp2_with fail
  ((with_reducible refine (readers2 (w.heap.size + 1) _).mono ?_); rintro e w3 ⟨rfl, rfl⟩)
  obtain ⟨G, hG⟩ : ∃ G, (w2.setCell ⟨w.heap.size + 1 + 1, 1, none⟩ (.int .i64 2)).heap.size = G := ⟨_, rfl⟩
  have lG : w.heap.size + 1 + 1 < G := by rw [← hG]; exact R2.lt
  have XF : ((w2.setCell ⟨w.heap.size + 1 + 1, 1, none⟩ (.int .i64 2)).alloc (.cells #[.func (.func 61) #[.pointer (some ⟨w.heap.size + 1 + 1, 0, none⟩)] #[]] 1)).heap[G]? = some (.cells #[.func (.func 61) #[.pointer (some ⟨w.heap.size + 1 + 1, 0, none⟩)] #[]] 1 (0, 0)) := by rw [← hG]; exact World.alloc_heap_new _ _
  have R3 := Lib.hid (R2.on ((Below.refl _ _).alloc (Nat.le_refl _) (.cells #[.func (.func 61) #[.pointer (some ⟨w.heap.size + 1 + 1, 0, none⟩)] #[]] 1)))
  have D3 := Lib.hid (D2.on ((Below.refl _ _).alloc (Nat.le_refl _) (.cells #[.func (.func 61) #[.pointer (some ⟨w.heap.size + 1 + 1, 0, none⟩)] #[]] 1)))
  have HX := Lib.hid XF
  rw [hG]
  have HG := Lib.hid hG
  clear R2 D2 p0 p1 f1 XF hG
  go_wp2
  go_loopw [32] (fun s32 wr => (s32 = .int .i64 0 ∧ Hid (Ro (w.heap.size + 1) r1 2 ⟨#[]⟩ (.slice none 0 0) 0 0 (.slice none 0 0) ⟨#[]⟩ 0 ⟨#[]⟩ wr) ∧ Hid (Dc w wr) ∧ Hid (wr.heap[G]? = some (.cells #[.func (.func 61) #[.pointer (some ⟨w.heap.size + 1 + 1, 0, none⟩)] #[]] 1 (0, 0)))) ∨ (∃ (ve : Value) (B : Nat), s32 = .int .i64 1 ∧ Hid (Ro (w.heap.size + 1) r3 2 ⟨#[]⟩ ve 0 0 (.slice none 0 0) ⟨#[]⟩ 0 ⟨#[]⟩ wr) ∧ Hid (Dc w wr) ∧ Hid (wr.ownsRow B 45 4 ve n (rowX L)) ∧ w.heap.size + 1 + 1 < B)) (fun i _ => 1 - (intOf i).toNat)
  case atStart => exact .inl ⟨rfl, R3, D3, HX⟩
  case round =>
    rcases hrel with ⟨rfl, HR, HD, HX⟩ | ⟨ve, B, rfl, HR, HD, HO, lB⟩
    · clear R3 D3
      have cf : wr.cell? ⟨G, 0, none⟩ = some (.func (.func 61) #[.pointer (some ⟨w.heap.size + 1 + 1, 0, none⟩)] #[]) := by rw [Lib.cell_of_heap HX.out]; rfl
      go_wp2_with fail
      ((with_reducible refine (entriesM_any (w.heap.size + 1) r1 _ _ _ _ _ _ _ _ _ HR.out h1 n r2 hC hn h2 L r3 hP).mono ?_); rintro e w5 ⟨rfl, ve, hR5, hO5, -, ho5⟩)
      have HR5 := Lib.hid hR5
      have HD5 := Lib.hid (HD.out.on2 ho5)
      have HO5 := Lib.hid hO5
      have lB := HR.out.lt
      clear hR5 ho5 cf hO5
      go_wp2
      go_roundw
      case rel => exact .inr (⟨_, _, rfl, HR5, HD5, HO5, lB⟩)
      case measure => simp [intOf]
    · clear R3 D3 HX
      obtain ⟨a5, n5, c5, rfl⟩ := own_form HO.out
      obtain ⟨q0, -, -, -, -, -, -, -, -, -⟩ := HR.out.at
      go_wp2_with fail
      ((with_reducible refine (doneR_true _ _ _ HR.out.rd HQ.out).mono ?_); rintro e w9 ⟨rfl, rfl⟩)
      clear q0
      obtain ⟨q1, q2, q3, q4, q5, q6, q7, q8, q9⟩ : w9.cell? ⟨w.heap.size + 1 + 1, 1, none⟩ = some (.int .i64 2) ∧ w9.cell? ⟨w.heap.size + 1 + 1, 2, none⟩ = some (.string ⟨#[]⟩) ∧ w9.cell? ⟨w.heap.size + 1 + 1, 3, none⟩ = some (.slice a5 n5 c5) ∧ w9.cell? ⟨w.heap.size + 1 + 1, 4, none⟩ = some (.int .u64 0) ∧ w9.cell? ⟨w.heap.size + 1 + 1, 5, none⟩ = some (.int .u64 0) ∧ w9.cell? ⟨w.heap.size + 1 + 1, 6, none⟩ = some (.slice none 0 0) ∧ w9.cell? ⟨w.heap.size + 1 + 1, 7, none⟩ = some (.string ⟨#[]⟩) ∧ w9.cell? ⟨w.heap.size + 1 + 1, 8, none⟩ = some (.int .i64 0) ∧ w9.cell? ⟨w.heap.size + 1 + 1, 9, none⟩ = some (.string ⟨#[]⟩) := HR.out.at.2
      go_wp2_with fail
      ((with_reducible refine (HF.out _ _ _ HO.out).mono ?_); rintro e w9 ⟨rfl, hb9⟩)
      have HR9 := Lib.hid (HR.out.on hb9)
      have HD9 := Lib.hid (HD.out.on hb9)
      have HO9 := Lib.hid (own_mv (w' := w9) HO.out (fun k _ h => hb9.block k h))
      clear q1 q2 q3 q4 q5 q6 q7 q8 q9 hb9
      obtain ⟨d0, d1, d2, d3, d4, d5, d6, d7, d8⟩ := HD9.out.nine
      obtain ⟨f0, f1, f2, f3, f4, f5, f6, f7, f8⟩ := HD9.out.f
      obtain ⟨q1, q2, q3, q4, q5, q6, q7, q8, q9⟩ : w9.cell? ⟨w.heap.size + 1 + 1, 1, none⟩ = some (.int .i64 2) ∧ w9.cell? ⟨w.heap.size + 1 + 1, 2, none⟩ = some (.string ⟨#[]⟩) ∧ w9.cell? ⟨w.heap.size + 1 + 1, 3, none⟩ = some (.slice a5 n5 c5) ∧ w9.cell? ⟨w.heap.size + 1 + 1, 4, none⟩ = some (.int .u64 0) ∧ w9.cell? ⟨w.heap.size + 1 + 1, 5, none⟩ = some (.int .u64 0) ∧ w9.cell? ⟨w.heap.size + 1 + 1, 6, none⟩ = some (.slice none 0 0) ∧ w9.cell? ⟨w.heap.size + 1 + 1, 7, none⟩ = some (.string ⟨#[]⟩) ∧ w9.cell? ⟨w.heap.size + 1 + 1, 8, none⟩ = some (.int .i64 0) ∧ w9.cell? ⟨w.heap.size + 1 + 1, 9, none⟩ = some (.string ⟨#[]⟩) := HR9.out.at.2
      have hb := set9_below HD9.out.b (.int .i64 2) (.string ⟨#[]⟩) (.slice a5 n5 c5) (.int .u64 0) (.int .u64 0) (.slice none 0 0) (.string ⟨#[]⟩) (.int .i64 0) (.string ⟨#[]⟩)
      have HO10 := Lib.hid (own_ents (own_mv (w' := set9 w9 w.heap.size (.int .i64 2) (.string ⟨#[]⟩) (.slice a5 n5 c5) (.int .u64 0) (.int .u64 0) (.slice none 0 0) (.string ⟨#[]⟩) (.int .i64 0) (.string ⟨#[]⟩)) HO9.out (fun k hk _ => set9_heap _ _ _ _ _ _ _ _ _ _ _ k (by omega))) HL.out (by unfold maxLen; omega))
      go_wp2
      exact bodyPost_ret (v := .tuple #[.agg #[.int .i64 2, .string ⟨#[]⟩, .slice a5 n5 c5, .int .u64 0, .int .u64 0, .slice none 0 0, .string ⟨#[]⟩, .int .i64 0, .string ⟨#[]⟩], .int .i64 0]) (by simp [results, Try.results21, go_sem, d0, d1, d2, d3, d4, d5, d6, d7, d8, World.cell?_setCell_other, World.cell?_setCell_same']) rfl ⟨_, rfl, ⟨_, _, rfl, HO10.out, isDigs_nil _⟩, hb⟩

set_option maxRecDepth 100000 in
set_option maxHeartbeats 16000000 in
theorem dec2_bad (s : BA) (hs : s.size ≤ 65536) (w : World) (r1 : Rd) (hI : rdI (s, false) = (2, r1)) (h1 : r1.1.size ≤ 65536) (n : Nat) (r2 : Rd) (hC : rdC r1 = (n, r2)) (hn : n ≤ 65536) (h2 : r2.1.size ≤ 65536) (L : List Ent) (r3 : Rd) (hP : rdXs n [] r2 = (L, r3)) (_HL : Hid (L.length = n)) (HQ : Hid (r3 = ((⟨#[]⟩, false) : Rd))) (c : Int) (hc : c ≠ 0) (HF : Hid (∀ (W : World) (ve : Value) (B : Nat), W.ownsRow B 45 4 ve n (rowX L) → Calls Try.prog 25 #[.agg #[.int .i64 2, .string ⟨#[]⟩, ve, .int .u64 0, .int .u64 0, .slice none 0 0, .string ⟨#[]⟩, .int .i64 0, .string ⟨#[]⟩]] W fun e w' => e = .returned (.int .i64 c) ∧ Below W.heap.size W w')) :
    Calls Try.prog 21 #[.string s] w fun e w' => ∃ v, e = .returned (.tuple #[v, .int .i64 13]) ∧ IsOb w' v (zOb 0) ∧ Below w.heap.size w w' := by
  have hne : (c != 0) = true := by simpa using hc
  clear hc
  obtain ⟨R0, D0⟩ := dec_fresh w s
  have n1 : ¬ 65536 < s.size := by omega
  have IC : Hid (∀ W, RdAt W (w.heap.size + 1) (s, false) → Calls Try.prog 32 #[.pointer (some ⟨w.heap.size + 1, 0, none⟩)] W fun e w' => e = .returned (.int .i64 2) ∧ RdAt w' (w.heap.size + 1) r1 ∧ Only1 (w.heap.size + 1) W w') := Lib.hid fun W hW => intR_any _ (s, false) W hW (Nat.le_trans hs (by decide)) _ r1 hI
  clear hI
  go_enter Try.func21, Try.ntmps21
  go_wp2_with fail
  ((with_reducible refine (readR_any s _).mono ?_); rintro e w1 ⟨rfl, rfl⟩)
  go_wp2_with fail
  ((with_reducible refine (IC.out _ R0.rd).mono ?_); rintro e w2 ⟨rfl, hr1, ho1⟩)
  have R1 := R0.read hr1 ho1
  have D1 := D0.on2 (Only2.one ho1)
  clear R0 D0 hr1 ho1 IC
  obtain ⟨p0, p1, -, -, -, -, -, -, -, -⟩ := R1.at
  have f1 := R1.f 1
  have R2 := R1.setK 2
  have D2 := D1.on2 (Only2.two (Only1.set (N := w.heap.size + 1 + 1) w2 1 (.int .i64 2)))
  clear R1 D1
  go_wp2_with fail
  ((with_reducible refine (readers2 (w.heap.size + 1) _).mono ?_); rintro e w3 ⟨rfl, rfl⟩)
  obtain ⟨G, hG⟩ : ∃ G, (w2.setCell ⟨w.heap.size + 1 + 1, 1, none⟩ (.int .i64 2)).heap.size = G := ⟨_, rfl⟩
  have lG : w.heap.size + 1 + 1 < G := by rw [← hG]; exact R2.lt
  have XF : ((w2.setCell ⟨w.heap.size + 1 + 1, 1, none⟩ (.int .i64 2)).alloc (.cells #[.func (.func 61) #[.pointer (some ⟨w.heap.size + 1 + 1, 0, none⟩)] #[]] 1)).heap[G]? = some (.cells #[.func (.func 61) #[.pointer (some ⟨w.heap.size + 1 + 1, 0, none⟩)] #[]] 1 (0, 0)) := by rw [← hG]; exact World.alloc_heap_new _ _
  have R3 := Lib.hid (R2.on ((Below.refl _ _).alloc (Nat.le_refl _) (.cells #[.func (.func 61) #[.pointer (some ⟨w.heap.size + 1 + 1, 0, none⟩)] #[]] 1)))
  have D3 := Lib.hid (D2.on ((Below.refl _ _).alloc (Nat.le_refl _) (.cells #[.func (.func 61) #[.pointer (some ⟨w.heap.size + 1 + 1, 0, none⟩)] #[]] 1)))
  have HX := Lib.hid XF
  rw [hG]
  have HG := Lib.hid hG
  clear R2 D2 p0 p1 f1 XF hG
  go_wp2
  go_loopw [32] (fun s32 wr => (s32 = .int .i64 0 ∧ Hid (Ro (w.heap.size + 1) r1 2 ⟨#[]⟩ (.slice none 0 0) 0 0 (.slice none 0 0) ⟨#[]⟩ 0 ⟨#[]⟩ wr) ∧ Hid (Dc w wr) ∧ Hid (wr.heap[G]? = some (.cells #[.func (.func 61) #[.pointer (some ⟨w.heap.size + 1 + 1, 0, none⟩)] #[]] 1 (0, 0)))) ∨ (∃ (ve : Value) (B : Nat), s32 = .int .i64 1 ∧ Hid (Ro (w.heap.size + 1) r3 2 ⟨#[]⟩ ve 0 0 (.slice none 0 0) ⟨#[]⟩ 0 ⟨#[]⟩ wr) ∧ Hid (Dc w wr) ∧ Hid (wr.ownsRow B 45 4 ve n (rowX L)) ∧ w.heap.size + 1 + 1 < B)) (fun i _ => 1 - (intOf i).toNat)
  case atStart => exact .inl ⟨rfl, R3, D3, HX⟩
  case round =>
    rcases hrel with ⟨rfl, HR, HD, HX⟩ | ⟨ve, B, rfl, HR, HD, HO, lB⟩
    · clear R3 D3
      have cf : wr.cell? ⟨G, 0, none⟩ = some (.func (.func 61) #[.pointer (some ⟨w.heap.size + 1 + 1, 0, none⟩)] #[]) := by rw [Lib.cell_of_heap HX.out]; rfl
      go_wp2_with fail
      ((with_reducible refine (entriesM_any (w.heap.size + 1) r1 _ _ _ _ _ _ _ _ _ HR.out h1 n r2 hC hn h2 L r3 hP).mono ?_); rintro e w5 ⟨rfl, ve, hR5, hO5, -, ho5⟩)
      have HR5 := Lib.hid hR5
      have HD5 := Lib.hid (HD.out.on2 ho5)
      have HO5 := Lib.hid hO5
      have lB := HR.out.lt
      clear hR5 ho5 cf hO5
      go_wp2
      go_roundw
      case rel => exact .inr (⟨_, _, rfl, HR5, HD5, HO5, lB⟩)
      case measure => simp [intOf]
    · clear R3 D3 HX
      obtain ⟨a5, n5, c5, rfl⟩ := own_form HO.out
      obtain ⟨q0, -, -, -, -, -, -, -, -, -⟩ := HR.out.at
      go_wp2_with fail
      ((with_reducible refine (doneR_true _ _ _ HR.out.rd HQ.out).mono ?_); rintro e w9 ⟨rfl, rfl⟩)
      clear q0
      obtain ⟨q1, q2, q3, q4, q5, q6, q7, q8, q9⟩ : w9.cell? ⟨w.heap.size + 1 + 1, 1, none⟩ = some (.int .i64 2) ∧ w9.cell? ⟨w.heap.size + 1 + 1, 2, none⟩ = some (.string ⟨#[]⟩) ∧ w9.cell? ⟨w.heap.size + 1 + 1, 3, none⟩ = some (.slice a5 n5 c5) ∧ w9.cell? ⟨w.heap.size + 1 + 1, 4, none⟩ = some (.int .u64 0) ∧ w9.cell? ⟨w.heap.size + 1 + 1, 5, none⟩ = some (.int .u64 0) ∧ w9.cell? ⟨w.heap.size + 1 + 1, 6, none⟩ = some (.slice none 0 0) ∧ w9.cell? ⟨w.heap.size + 1 + 1, 7, none⟩ = some (.string ⟨#[]⟩) ∧ w9.cell? ⟨w.heap.size + 1 + 1, 8, none⟩ = some (.int .i64 0) ∧ w9.cell? ⟨w.heap.size + 1 + 1, 9, none⟩ = some (.string ⟨#[]⟩) := HR.out.at.2
      go_wp2_with fail
      ((with_reducible refine (HF.out _ _ _ HO.out).mono ?_); rintro e w9 ⟨rfl, hb9⟩)
      have HR9 := Lib.hid (HR.out.on hb9)
      have HD9 := Lib.hid (HD.out.on hb9)
      have HO9 := Lib.hid (own_mv (w' := w9) HO.out (fun k _ h => hb9.block k h))
      clear q1 q2 q3 q4 q5 q6 q7 q8 q9 hb9
      obtain ⟨d0, d1, d2, d3, d4, d5, d6, d7, d8⟩ := HD9.out.nine
      obtain ⟨f0, f1, f2, f3, f4, f5, f6, f7, f8⟩ := HD9.out.f
      have hb := set9_below HD9.out.b (.int .i64 0) (.string ⟨#[]⟩) (.slice none 0 0) (.int .u64 0) (.int .u64 0) (.slice none 0 0) (.string ⟨#[]⟩) (.int .i64 0) (.string ⟨#[]⟩)
      go_wp2
      exact bodyPost_ret (v := .tuple #[.agg #[.int .i64 0, .string ⟨#[]⟩, .slice none 0 0, .int .u64 0, .int .u64 0, .slice none 0 0, .string ⟨#[]⟩, .int .i64 0, .string ⟨#[]⟩], .int .i64 13]) (by simp [results, Try.results21, go_sem, d0, d1, d2, d3, d4, d5, d6, d7, d8, World.cell?_setCell_other, World.cell?_setCell_same']) rfl ⟨_, rfl, isOb_zero _, hb⟩

set_option maxRecDepth 100000 in
set_option maxHeartbeats 16000000 in
theorem dec2_not (s : BA) (hs : s.size ≤ 65536) (w : World) (r1 : Rd) (hI : rdI (s, false) = (2, r1)) (h1 : r1.1.size ≤ 65536) (n : Nat) (r2 : Rd) (hC : rdC r1 = (n, r2)) (hn : n ≤ 65536) (h2 : r2.1.size ≤ 65536) (L : List Ent) (r3 : Rd) (hP : rdXs n [] r2 = (L, r3)) (_HL : Hid (L.length = n)) (HQ : Hid (¬ r3 = ((⟨#[]⟩, false) : Rd))) :
    Calls Try.prog 21 #[.string s] w fun e w' => ∃ v, e = .returned (.tuple #[v, .int .i64 13]) ∧ IsOb w' v (zOb 0) ∧ Below w.heap.size w w' := by
  obtain ⟨R0, D0⟩ := dec_fresh w s
  have n1 : ¬ 65536 < s.size := by omega
  have IC : Hid (∀ W, RdAt W (w.heap.size + 1) (s, false) → Calls Try.prog 32 #[.pointer (some ⟨w.heap.size + 1, 0, none⟩)] W fun e w' => e = .returned (.int .i64 2) ∧ RdAt w' (w.heap.size + 1) r1 ∧ Only1 (w.heap.size + 1) W w') := Lib.hid fun W hW => intR_any _ (s, false) W hW (Nat.le_trans hs (by decide)) _ r1 hI
  clear hI
  go_enter Try.func21, Try.ntmps21
  go_wp2_with fail
  ((with_reducible refine (readR_any s _).mono ?_); rintro e w1 ⟨rfl, rfl⟩)
  go_wp2_with fail
  ((with_reducible refine (IC.out _ R0.rd).mono ?_); rintro e w2 ⟨rfl, hr1, ho1⟩)
  have R1 := R0.read hr1 ho1
  have D1 := D0.on2 (Only2.one ho1)
  clear R0 D0 hr1 ho1 IC
  obtain ⟨p0, p1, -, -, -, -, -, -, -, -⟩ := R1.at
  have f1 := R1.f 1
  have R2 := R1.setK 2
  have D2 := D1.on2 (Only2.two (Only1.set (N := w.heap.size + 1 + 1) w2 1 (.int .i64 2)))
  clear R1 D1
  go_wp2_with fail
  ((with_reducible refine (readers2 (w.heap.size + 1) _).mono ?_); rintro e w3 ⟨rfl, rfl⟩)
  obtain ⟨G, hG⟩ : ∃ G, (w2.setCell ⟨w.heap.size + 1 + 1, 1, none⟩ (.int .i64 2)).heap.size = G := ⟨_, rfl⟩
  have lG : w.heap.size + 1 + 1 < G := by rw [← hG]; exact R2.lt
  have XF : ((w2.setCell ⟨w.heap.size + 1 + 1, 1, none⟩ (.int .i64 2)).alloc (.cells #[.func (.func 61) #[.pointer (some ⟨w.heap.size + 1 + 1, 0, none⟩)] #[]] 1)).heap[G]? = some (.cells #[.func (.func 61) #[.pointer (some ⟨w.heap.size + 1 + 1, 0, none⟩)] #[]] 1 (0, 0)) := by rw [← hG]; exact World.alloc_heap_new _ _
  have R3 := Lib.hid (R2.on ((Below.refl _ _).alloc (Nat.le_refl _) (.cells #[.func (.func 61) #[.pointer (some ⟨w.heap.size + 1 + 1, 0, none⟩)] #[]] 1)))
  have D3 := Lib.hid (D2.on ((Below.refl _ _).alloc (Nat.le_refl _) (.cells #[.func (.func 61) #[.pointer (some ⟨w.heap.size + 1 + 1, 0, none⟩)] #[]] 1)))
  have HX := Lib.hid XF
  rw [hG]
  have HG := Lib.hid hG
  clear R2 D2 p0 p1 f1 XF hG
  go_wp2
  go_loopw [32] (fun s32 wr => (s32 = .int .i64 0 ∧ Hid (Ro (w.heap.size + 1) r1 2 ⟨#[]⟩ (.slice none 0 0) 0 0 (.slice none 0 0) ⟨#[]⟩ 0 ⟨#[]⟩ wr) ∧ Hid (Dc w wr) ∧ Hid (wr.heap[G]? = some (.cells #[.func (.func 61) #[.pointer (some ⟨w.heap.size + 1 + 1, 0, none⟩)] #[]] 1 (0, 0)))) ∨ (∃ (ve : Value) (B : Nat), s32 = .int .i64 1 ∧ Hid (Ro (w.heap.size + 1) r3 2 ⟨#[]⟩ ve 0 0 (.slice none 0 0) ⟨#[]⟩ 0 ⟨#[]⟩ wr) ∧ Hid (Dc w wr) ∧ Hid (wr.ownsRow B 45 4 ve n (rowX L)) ∧ w.heap.size + 1 + 1 < B)) (fun i _ => 1 - (intOf i).toNat)
  case atStart => exact .inl ⟨rfl, R3, D3, HX⟩
  case round =>
    rcases hrel with ⟨rfl, HR, HD, HX⟩ | ⟨ve, B, rfl, HR, HD, HO, lB⟩
    · clear R3 D3
      have cf : wr.cell? ⟨G, 0, none⟩ = some (.func (.func 61) #[.pointer (some ⟨w.heap.size + 1 + 1, 0, none⟩)] #[]) := by rw [Lib.cell_of_heap HX.out]; rfl
      go_wp2_with fail
      ((with_reducible refine (entriesM_any (w.heap.size + 1) r1 _ _ _ _ _ _ _ _ _ HR.out h1 n r2 hC hn h2 L r3 hP).mono ?_); rintro e w5 ⟨rfl, ve, hR5, hO5, -, ho5⟩)
      have HR5 := Lib.hid hR5
      have HD5 := Lib.hid (HD.out.on2 ho5)
      have HO5 := Lib.hid hO5
      have lB := HR.out.lt
      clear hR5 ho5 cf hO5
      go_wp2
      go_roundw
      case rel => exact .inr (⟨_, _, rfl, HR5, HD5, HO5, lB⟩)
      case measure => simp [intOf]
    · clear R3 D3 HX
      obtain ⟨a5, n5, c5, rfl⟩ := own_form HO.out
      obtain ⟨q0, -, -, -, -, -, -, -, -, -⟩ := HR.out.at
      go_wp2_with fail
      ((with_reducible refine (doneR_false _ _ _ HR.out.rd HQ.out).mono ?_); rintro e w9 ⟨rfl, rfl⟩)
      clear q0
      obtain ⟨d0, d1, d2, d3, d4, d5, d6, d7, d8⟩ := HD.out.nine
      obtain ⟨f0, f1, f2, f3, f4, f5, f6, f7, f8⟩ := HD.out.f
      have hb := set9_below HD.out.b (.int .i64 0) (.string ⟨#[]⟩) (.slice none 0 0) (.int .u64 0) (.int .u64 0) (.slice none 0 0) (.string ⟨#[]⟩) (.int .i64 0) (.string ⟨#[]⟩)
      go_wp2
      exact bodyPost_ret (v := .tuple #[.agg #[.int .i64 0, .string ⟨#[]⟩, .slice none 0 0, .int .u64 0, .int .u64 0, .slice none 0 0, .string ⟨#[]⟩, .int .i64 0, .string ⟨#[]⟩], .int .i64 13]) (by simp [results, Try.results21, go_sem, d0, d1, d2, d3, d4, d5, d6, d7, d8, World.cell?_setCell_other, World.cell?_setCell_same']) rfl ⟨_, rfl, isOb_zero _, hb⟩
theorem rdC_le (r : Rd) (m : Nat) (h : r.1.size ≤ m) : (rdC r).2.1.size ≤ m ∧ (rdC r).1 ≤ m := by
  have h1 := rdI_le r m h
  unfold rdC
  split
  · exact ⟨Nat.zero_le _, Nat.zero_le _⟩
  · exact ⟨h1, by omega⟩
theorem rdT_val (r : Rd) : (rdT r).1.size ≤ 65536 := by
  unfold rdT
  split
  · rename_i h
    exact (Cd.getT_fits r.1 h).2.2.1
  · exact Nat.zero_le _
theorem num8_lt (s : BA) (h : s.size ≤ 8) : num8 s < 2 ^ 64 := by
  have h1 := numL_lt (Cd.nats s) (Cd.nats_lt s)
  have h2 : 256 ^ (Cd.nats s).length ≤ 256 ^ 8 := Nat.pow_le_pow_right (by omega) (by rw [Cd.nats_length]; exact h)
  have h3 : num8 s = numL (Cd.nats s) := rfl
  have h4 : (256 : Nat) ^ 8 = 2 ^ 64 := by decide
  omega
theorem rdD_dig (r : Rd) : Dig64 (rdD r).1 := ⟨num8_lt _ (rdY_val 8 _), num8_lt _ (rdY_val 8 _)⟩
theorem rdXs_all (n : Nat) (A : List Ent) (r : Rd) (hA : ∀ x ∈ A, x.name.size ≤ 65536 ∧ Dig64 x.dig) : ((rdXs n A r).1.length = A.length + n) ∧ ∀ x ∈ (rdXs n A r).1, x.name.size ≤ 65536 ∧ Dig64 x.dig := by
  induction n generalizing A r with
  | zero => exact ⟨rfl, hA⟩
  | succ n ih =>
    have h := ih (A ++ [(rdX r).1]) (rdX r).2 (fun x hx => by
      rcases List.mem_append.1 hx with hx | hx
      · exact hA x hx
      · obtain rfl := List.mem_singleton.1 hx
        exact ⟨rdT_val _, rdD_dig _⟩)
    rw [rdXs_step]
    refine ⟨?_, h.2⟩
    rw [h.1, List.length_append, List.length_singleton]
    omega
theorem rdDs_all (n : Nat) (A : List Dig) (r : Rd) (hA : ∀ x ∈ A, Dig64 x) : ((rdDs n A r).1.length = A.length + n) ∧ (∀ x ∈ (rdDs n A r).1, Dig64 x) ∧ ∀ m, r.1.size ≤ m → (rdDs n A r).2.1.size ≤ m := by
  induction n generalizing A r with
  | zero => exact ⟨rfl, hA, fun m h => h⟩
  | succ n ih =>
    have h := ih (A ++ [(rdD r).1]) (rdD r).2 (fun x hx => by
      rcases List.mem_append.1 hx with hx | hx
      · exact hA x hx
      · obtain rfl := List.mem_singleton.1 hx
        exact rdD_dig _)
    rw [rdDs_step]
    refine ⟨?_, h.2.1, fun m hm => h.2.2 m (rdD_le r m hm)⟩
    rw [h.1, List.length_append, List.length_singleton]
    omega

/-- What Decode returns. -/
def decO (s : BA) : Ob × Int := if s.size ≤ 65536 ∧ (prs s).2 = ((⟨#[]⟩, false) : Rd) ∧ chkFields (prs s).1 = 0 then ((prs s).1, 0) else (zOb 0, 13)
theorem decO_ok {s : BA} {o : Ob} {r : Rd} (h : prs s = (o, r)) (hs : s.size ≤ 65536) (hq : r = (⟨#[]⟩, false)) (hc : chkFields o = 0) : decO s = (o, 0) := by
  unfold decO
  rw [h]
  simp only
  rw [if_pos ⟨hs, hq, hc⟩]
theorem decO_bad {s : BA} {o : Ob} {r : Rd} (h : prs s = (o, r)) (hc : ¬ (r = (⟨#[]⟩, false) ∧ chkFields o = 0)) : decO s = (zOb 0, 13) := by
  unfold decO
  rw [h]
  simp only
  rw [if_neg (fun h => hc h.2)]

theorem decode_any (s : BA) (_hm : s.size ≤ maxLen) (w : World) : Calls Try.prog 21 #[.string s] w fun e w' => ∃ v, e = .returned (.tuple #[v, .int .i64 (decO s).2]) ∧ IsOb w' v (decO s).1 ∧ Below w.heap.size w w' := by
  by_cases hs : s.size ≤ 65536
  · rcases hI : rdI (s, false) with ⟨k, r1⟩
    have h1 := rdI_le (s, false) 65536 hs
    rw [hI] at h1
    simp only at h1
    by_cases k14 : k = 1 ∨ k = 4
    · rcases hT : rdT r1 with ⟨x, r2⟩
      have hx := rdT_val r1
      rw [hT] at hx
      simp only at hx
      have e : prs s = (⟨k, x, [], (0, 0), [], ⟨#[]⟩, 0, ⟨#[]⟩⟩, r2) := by
        unfold prs
        rw [hI]
        unfold prK
        simp only
        rw [if_pos k14]
        unfold prB
        rw [hT]
        rfl
      have F : ∀ (r : Int), chkFields ⟨k, x, [], (0, 0), [], ⟨#[]⟩, 0, ⟨#[]⟩⟩ = r → ∀ W, Calls Try.prog 25 #[.agg #[.int .i64 k, .string x, .slice none 0 0, .int .u64 0, .int .u64 0, .slice none 0 0, .string ⟨#[]⟩, .int .i64 0, .string ⟨#[]⟩]] W fun e w' => e = .returned (.int .i64 r) ∧ Below W.heap.size W w' :=
        fun r hr W => fields_any ⟨k, x, [], (0, 0), [], ⟨#[]⟩, 0, ⟨#[]⟩⟩ _ W ⟨_, _, rfl, isEnts_nil W, isDigs_nil W⟩ ⟨Nat.le_trans hx (by decide), Nat.zero_le _, Nat.zero_le _, by simp⟩ r hr
      by_cases hq : r2 = ((⟨#[]⟩, false) : Rd)
      · by_cases hc : chkFields ⟨k, x, [], (0, 0), [], ⟨#[]⟩, 0, ⟨#[]⟩⟩ = 0
        · rw [decO_ok e hs hq hc]
          rcases k14 with rfl | rfl
          · exact dec1_ok s hs w r1 hI h1 x r2 hT (Lib.hid hq) (Lib.hid (F 0 hc))
          · exact dec4_ok s hs w r1 hI h1 x r2 hT (Lib.hid hq) (Lib.hid (F 0 hc))
        · rw [decO_bad e (fun h => hc h.2)]
          rcases k14 with rfl | rfl
          · exact dec1_bad s hs w r1 hI h1 x r2 hT (Lib.hid hq) _ hc (Lib.hid (F _ rfl))
          · exact dec4_bad s hs w r1 hI h1 x r2 hT (Lib.hid hq) _ hc (Lib.hid (F _ rfl))
      · rw [decO_bad e (fun h => hq h.1)]
        rcases k14 with rfl | rfl
        · exact dec1_not s hs w r1 hI h1 x r2 hT (Lib.hid hq)
        · exact dec4_not s hs w r1 hI h1 x r2 hT (Lib.hid hq)
    by_cases k2 : k = 2
    · subst k2
      rcases hC : rdC r1 with ⟨n, r2⟩
      have h2 := rdC_le r1 65536 h1
      rw [hC] at h2
      simp only at h2
      rcases hP : rdXs n [] r2 with ⟨L, r3⟩
      have h3 := rdXs_all n [] r2 (by simp)
      rw [hP] at h3
      simp only [List.length_nil, Nat.zero_add] at h3
      have e : prs s = (⟨2, ⟨#[]⟩, L, (0, 0), [], ⟨#[]⟩, 0, ⟨#[]⟩⟩, r3) := by
        unfold prs
        rw [hI]
        unfold prK
        simp only
        rw [if_neg k14, if_pos trivial]
        unfold prE
        rw [hC]
        simp only [hP]
        rfl
      have F : ∀ (r : Int), chkFields ⟨2, ⟨#[]⟩, L, (0, 0), [], ⟨#[]⟩, 0, ⟨#[]⟩⟩ = r → ∀ (W : World) (ve : Value) (B : Nat), W.ownsRow B 45 4 ve n (rowX L) → Calls Try.prog 25 #[.agg #[.int .i64 2, .string ⟨#[]⟩, ve, .int .u64 0, .int .u64 0, .slice none 0 0, .string ⟨#[]⟩, .int .i64 0, .string ⟨#[]⟩]] W fun e w' => e = .returned (.int .i64 r) ∧ Below W.heap.size W w' :=
        fun r hr W ve B ho => fields_any ⟨2, ⟨#[]⟩, L, (0, 0), [], ⟨#[]⟩, 0, ⟨#[]⟩⟩ _ W ⟨_, _, rfl, own_ents ho h3.1 (Nat.le_trans h2.2 (by decide)), isDigs_nil W⟩ ⟨Nat.zero_le _, Nat.zero_le _, Nat.zero_le _, fun x hx => Nat.le_trans (h3.2 x hx).1 (by decide)⟩ r hr
      by_cases hq : r3 = ((⟨#[]⟩, false) : Rd)
      · by_cases hc : chkFields ⟨2, ⟨#[]⟩, L, (0, 0), [], ⟨#[]⟩, 0, ⟨#[]⟩⟩ = 0
        · rw [decO_ok e hs hq hc]
          exact dec2_ok s hs w r1 hI h1 n r2 hC h2.2 h2.1 L r3 hP (Lib.hid h3.1) (Lib.hid hq) (Lib.hid (F 0 hc))
        · rw [decO_bad e (fun h => hc h.2)]
          exact dec2_bad s hs w r1 hI h1 n r2 hC h2.2 h2.1 L r3 hP (Lib.hid h3.1) (Lib.hid hq) _ hc (Lib.hid (F _ rfl))
      · rw [decO_bad e (fun h => hq h.1)]
        exact dec2_not s hs w r1 hI h1 n r2 hC h2.2 h2.1 L r3 hP (Lib.hid h3.1) (Lib.hid hq)
    by_cases k3 : k = 3
    · subst k3
      obtain ⟨x, y, r2, hT⟩ : ∃ x y r2, rdD r1 = ((x, y), r2) := ⟨_, _, _, rfl⟩
      have h2 := rdD_le r1 65536 h1
      rw [hT] at h2
      simp only at h2
      rcases hC : rdC r2 with ⟨n, r3⟩
      have h3 := rdC_le r2 65536 h2
      rw [hC] at h3
      simp only at h3
      rcases hP : rdDs n [] r3 with ⟨P, r4⟩
      have h4 := rdDs_all n [] r3 (by simp)
      rw [hP] at h4
      simp only [List.length_nil, Nat.zero_add] at h4
      have z4 := h4.2.2 65536 h3.1
      rcases hA : rdT r4 with ⟨au, r5⟩
      have h5 := rdT_le r4 65536 z4
      have v5 := rdT_val r4
      rw [hA] at h5 v5
      simp only at h5 v5
      rcases hM : rdI r5 with ⟨m, r6⟩
      have h6 := rdI_le r5 65536 h5
      rw [hM] at h6
      simp only at h6
      rcases hS : rdT r6 with ⟨ms, r7⟩
      have v7 := rdT_val r6
      rw [hS] at v7
      simp only at v7
      have e : prs s = (⟨3, ⟨#[]⟩, [], (x, y), P, au, m, ms⟩, r7) := by
        unfold prs
        rw [hI]
        unfold prK
        simp only
        rw [if_neg k14, if_neg (by omega), if_pos trivial]
        unfold prC
        simp only [hT, hC, hP, hA, hM, hS]
      have F : ∀ (r : Int), chkFields ⟨3, ⟨#[]⟩, [], (x, y), P, au, m, ms⟩ = r → ∀ (W : World) (vp : Value) (B : Nat), W.ownsRow B 25 2 vp n (rowD P) → Calls Try.prog 25 #[.agg #[.int .i64 3, .string ⟨#[]⟩, .slice none 0 0, .int .u64 x, .int .u64 y, vp, .string au, .int .i64 m, .string ms]] W fun e w' => e = .returned (.int .i64 r) ∧ Below W.heap.size W w' :=
        fun r hr W vp B ho => fields_any ⟨3, ⟨#[]⟩, [], (x, y), P, au, m, ms⟩ _ W ⟨_, _, rfl, isEnts_nil W, own_digs ho h4.1 (Nat.le_trans h3.2 (by decide))⟩ ⟨Nat.zero_le _, Nat.le_trans v5 (by decide), Nat.le_trans v7 (by decide), by simp⟩ r hr
      by_cases hq : r7 = ((⟨#[]⟩, false) : Rd)
      · by_cases hc : chkFields ⟨3, ⟨#[]⟩, [], (x, y), P, au, m, ms⟩ = 0
        · rw [decO_ok e hs hq hc]
          exact dec3_ok s hs w r1 hI h1 x y r2 hT h2 n r3 hC h3.2 h3.1 P r4 hP (Lib.hid h4.1) z4 au r5 hA h5 m r6 hM h6 ms r7 hS (Lib.hid hq) (Lib.hid (F 0 hc))
        · rw [decO_bad e (fun h => hc h.2)]
          exact dec3_bad s hs w r1 hI h1 x y r2 hT h2 n r3 hC h3.2 h3.1 P r4 hP (Lib.hid h4.1) z4 au r5 hA h5 m r6 hM h6 ms r7 hS (Lib.hid hq) _ hc (Lib.hid (F _ rfl))
      · rw [decO_bad e (fun h => hq h.1)]
        exact dec3_not s hs w r1 hI h1 x y r2 hT h2 n r3 hC h3.2 h3.1 P r4 hP (Lib.hid h4.1) z4 au r5 hA h5 m r6 hM h6 ms r7 hS (Lib.hid hq)
    · have e : prs s = (zOb k, rdBad) := by
        unfold prs
        rw [hI]
        unfold prK
        simp only
        rw [if_neg k14, if_neg k2, if_neg k3]
      have hq : ¬ rdBad = ((⟨#[]⟩, false) : Rd) := fun h => by
        have := congrArg Prod.snd h
        cases this
      rw [decO_bad e (fun h => hq h.1)]
      exact dec0_not s hs w k (by omega) r1 hI (Lib.hid hq)
  · have e : decO s = (zOb 0, 13) := by unfold decO; rw [if_neg (fun h => hs h.1)]
    rw [e]
    exact dec_long s (by omega) w
end Go.Proofs.Ytiaahjoldahlnaa
