/- The reference's Decode of trees, and of what is no tree and no commit, at this translation. -/
import Derived.Test.YtiaahjoldahlnaaRDec3
namespace Go.Proofs.Ytiaahjoldahlnaa
open Go.RowKit Go.Great
attribute [local go_sem] eq_arr

set_option maxRecDepth 100000 in
set_option maxHeartbeats 8000000 in
theorem rdec0_bad (s : BA) (hm : s.size ≤ maxLen) (w : World) (k : Nat) (h2 : k ≠ 2) (h3 : k ≠ 3) (r1 : Rd) (hI : rfI (s, false) = (k, r1)) (h1 : r1.1.size ≤ maxLen) (x : BA) (rl : Rd) (hT : rfT r1 = (x, rl)) (HB : Hid (rl.2 = true)) (tt : BA) (c : Int)
    (HF : Hid (∀ W, Calls Try.prog 18 #[.agg #[.int .i64 k, .string x, .slice none 0 0, .int .u64 0, .int .u64 0, .slice none 0 0, .string ⟨#[]⟩, .int .i64 0, .string ⟨#[]⟩]] W fun e w' => e = .returned (.tuple #[.string tt, .int .i64 c]) ∧ Below W.heap.size W w')) :
    Calls Try.prog 22 #[.string s] w fun e w' => ∃ v, e = .returned (.tuple #[v, .int .i64 13]) ∧ IsOb w' v (zOb 0) ∧ Below w.heap.size w w' := by
  have e2 : ((k : Int) == 2) = false := by simp; omega
  have e3 : ((k : Int) == 3) = false := by simp; omega
  have TC := Lib.hid (fun W (hW : RfAt W (w.heap.size + 1) r1) => rfT_any _ r1 W hW h1 x rl hT)
  clear h2 h3 hT h1
  have R0 := rx_fresh w s
  have IC : Hid (∀ W, RfAt W (w.heap.size + 1) (s, false) → Calls Try.prog 35 #[.pointer (some ⟨w.heap.size + 1, 0, none⟩)] W fun e w' => e = .returned (.int .i64 k) ∧ RfAt w' (w.heap.size + 1) r1 ∧ Only1 (w.heap.size + 1) W w') := Lib.hid fun W hW => rfI_any _ (s, false) W hW hm _ r1 hI
  clear hI
  go_enter Try.func22, Try.ntmps22
  go_wp2_with fail
  ((with_reducible refine (IC.out _ R0.rd).mono ?_); rintro e w2 ⟨rfl, hr1, ho1⟩)
  have R1 := R0.read hr1 ho1
  clear R0 hr1 ho1 IC
  have p0 := R1.at.1
  have f0 := R1.f 0
  have HR2 := Lib.hid (R1.setK k)
  clear R1
  have q0 := HR2.out.at.1
  go_wp2_with fail
  ((with_reducible refine (TC.out _ HR2.out.rd).mono ?_); rintro e w5 ⟨rfl, hr5, ho5⟩)
  have R5 := HR2.out.read hr5 ho5
  clear HR2 hr5 ho5 TC p0 f0 q0
  have p1 := R5.at.2.1
  have f1 := R5.f 1
  obtain ⟨w6, hw6⟩ : ∃ w6, w5.setCell ⟨w.heap.size + 1 + 1, 1, none⟩ (.string x) = w6 := ⟨_, rfl⟩
  have HR := Lib.hid (R5.setD x)
  rw [hw6] at HR
  have HW := Lib.hid hw6
  clear R5 hw6
  go_upto_region 26 with fail
  rw [HW.out]
  clear p1 f1 HW
  obtain ⟨q0, q1, q2, q3, q4, q5, q6, q7, q8⟩ : w6.cell? ⟨w.heap.size + 1 + 1, 0, none⟩ = some (.int .i64 k) ∧ w6.cell? ⟨w.heap.size + 1 + 1, 1, none⟩ = some (.string x) ∧ w6.cell? ⟨w.heap.size + 1 + 1, 2, none⟩ = some (.slice none 0 0) ∧ w6.cell? ⟨w.heap.size + 1 + 1, 3, none⟩ = some (.int .u64 0) ∧ w6.cell? ⟨w.heap.size + 1 + 1, 4, none⟩ = some (.int .u64 0) ∧ w6.cell? ⟨w.heap.size + 1 + 1, 5, none⟩ = some (.slice none 0 0) ∧ w6.cell? ⟨w.heap.size + 1 + 1, 6, none⟩ = some (.string ⟨#[]⟩) ∧ w6.cell? ⟨w.heap.size + 1 + 1, 7, none⟩ = some (.int .i64 0) ∧ w6.cell? ⟨w.heap.size + 1 + 1, 8, none⟩ = some (.string ⟨#[]⟩) := HR.out.at
  go_wp2_with fail
  ((with_reducible refine (HF.out _ ).mono ?_); rintro e w9 ⟨rfl, hb9⟩)
  have HR9 := Lib.hid (HR.out.on hb9)
  clear q0 q1 q2 q3 q4 q5 q6 q7 q8 hb9
  obtain ⟨q0, q1, q2, q3, q4, q5, q6, q7, q8⟩ : w9.cell? ⟨w.heap.size + 1 + 1, 0, none⟩ = some (.int .i64 k) ∧ w9.cell? ⟨w.heap.size + 1 + 1, 1, none⟩ = some (.string x) ∧ w9.cell? ⟨w.heap.size + 1 + 1, 2, none⟩ = some (.slice none 0 0) ∧ w9.cell? ⟨w.heap.size + 1 + 1, 3, none⟩ = some (.int .u64 0) ∧ w9.cell? ⟨w.heap.size + 1 + 1, 4, none⟩ = some (.int .u64 0) ∧ w9.cell? ⟨w.heap.size + 1 + 1, 5, none⟩ = some (.slice none 0 0) ∧ w9.cell? ⟨w.heap.size + 1 + 1, 6, none⟩ = some (.string ⟨#[]⟩) ∧ w9.cell? ⟨w.heap.size + 1 + 1, 7, none⟩ = some (.int .i64 0) ∧ w9.cell? ⟨w.heap.size + 1 + 1, 8, none⟩ = some (.string ⟨#[]⟩) := HR9.out.at
  have cb : w9.cell? ⟨w.heap.size + 1, 1, none⟩ = some (.bool true) := by have e := HR9.out.rd.c1; rw [HB.out] at e; exact e
  obtain ⟨d0, d1, d2, d3, d4, d5, d6, d7, d8⟩ := HR9.out.dc.nine
  obtain ⟨f0, f1, f2, f3, f4, f5, f6, f7, f8⟩ := HR9.out.dc.f
  have hb := set9_below HR9.out.b (.int .i64 0) (.string ⟨#[]⟩) (.slice none 0 0) (.int .u64 0) (.int .u64 0) (.slice none 0 0) (.string ⟨#[]⟩) (.int .i64 0) (.string ⟨#[]⟩)
  go_wp2
  exact bodyPost_ret (v := .tuple #[.agg #[.int .i64 0, .string ⟨#[]⟩, .slice none 0 0, .int .u64 0, .int .u64 0, .slice none 0 0, .string ⟨#[]⟩, .int .i64 0, .string ⟨#[]⟩], .int .i64 13]) (by simp [results, Try.results22, go_sem, d0, d1, d2, d3, d4, d5, d6, d7, d8, World.cell?_setCell_other, World.cell?_setCell_same']) rfl ⟨_, rfl, isOb_zero _, hb⟩

set_option maxRecDepth 100000 in
set_option maxHeartbeats 8000000 in
theorem rdec0_chk (s : BA) (hm : s.size ≤ maxLen) (w : World) (k : Nat) (h2 : k ≠ 2) (h3 : k ≠ 3) (r1 : Rd) (hI : rfI (s, false) = (k, r1)) (h1 : r1.1.size ≤ maxLen) (x : BA) (rl : Rd) (hT : rfT r1 = (x, rl)) (HB : Hid (rl.2 = false)) (tt : BA) (c : Int) (hc : c ≠ 0)
    (HF : Hid (∀ W, Calls Try.prog 18 #[.agg #[.int .i64 k, .string x, .slice none 0 0, .int .u64 0, .int .u64 0, .slice none 0 0, .string ⟨#[]⟩, .int .i64 0, .string ⟨#[]⟩]] W fun e w' => e = .returned (.tuple #[.string tt, .int .i64 c]) ∧ Below W.heap.size W w')) :
    Calls Try.prog 22 #[.string s] w fun e w' => ∃ v, e = .returned (.tuple #[v, .int .i64 13]) ∧ IsOb w' v (zOb 0) ∧ Below w.heap.size w w' := by
  have hne : (c != 0) = true := by simpa using hc
  clear hc
  have e2 : ((k : Int) == 2) = false := by simp; omega
  have e3 : ((k : Int) == 3) = false := by simp; omega
  have TC := Lib.hid (fun W (hW : RfAt W (w.heap.size + 1) r1) => rfT_any _ r1 W hW h1 x rl hT)
  clear h2 h3 hT h1
  have R0 := rx_fresh w s
  have IC : Hid (∀ W, RfAt W (w.heap.size + 1) (s, false) → Calls Try.prog 35 #[.pointer (some ⟨w.heap.size + 1, 0, none⟩)] W fun e w' => e = .returned (.int .i64 k) ∧ RfAt w' (w.heap.size + 1) r1 ∧ Only1 (w.heap.size + 1) W w') := Lib.hid fun W hW => rfI_any _ (s, false) W hW hm _ r1 hI
  clear hI
  go_enter Try.func22, Try.ntmps22
  go_wp2_with fail
  ((with_reducible refine (IC.out _ R0.rd).mono ?_); rintro e w2 ⟨rfl, hr1, ho1⟩)
  have R1 := R0.read hr1 ho1
  clear R0 hr1 ho1 IC
  have p0 := R1.at.1
  have f0 := R1.f 0
  have HR2 := Lib.hid (R1.setK k)
  clear R1
  have q0 := HR2.out.at.1
  go_wp2_with fail
  ((with_reducible refine (TC.out _ HR2.out.rd).mono ?_); rintro e w5 ⟨rfl, hr5, ho5⟩)
  have R5 := HR2.out.read hr5 ho5
  clear HR2 hr5 ho5 TC p0 f0 q0
  have p1 := R5.at.2.1
  have f1 := R5.f 1
  obtain ⟨w6, hw6⟩ : ∃ w6, w5.setCell ⟨w.heap.size + 1 + 1, 1, none⟩ (.string x) = w6 := ⟨_, rfl⟩
  have HR := Lib.hid (R5.setD x)
  rw [hw6] at HR
  have HW := Lib.hid hw6
  clear R5 hw6
  go_upto_region 26 with fail
  rw [HW.out]
  clear p1 f1 HW
  obtain ⟨q0, q1, q2, q3, q4, q5, q6, q7, q8⟩ : w6.cell? ⟨w.heap.size + 1 + 1, 0, none⟩ = some (.int .i64 k) ∧ w6.cell? ⟨w.heap.size + 1 + 1, 1, none⟩ = some (.string x) ∧ w6.cell? ⟨w.heap.size + 1 + 1, 2, none⟩ = some (.slice none 0 0) ∧ w6.cell? ⟨w.heap.size + 1 + 1, 3, none⟩ = some (.int .u64 0) ∧ w6.cell? ⟨w.heap.size + 1 + 1, 4, none⟩ = some (.int .u64 0) ∧ w6.cell? ⟨w.heap.size + 1 + 1, 5, none⟩ = some (.slice none 0 0) ∧ w6.cell? ⟨w.heap.size + 1 + 1, 6, none⟩ = some (.string ⟨#[]⟩) ∧ w6.cell? ⟨w.heap.size + 1 + 1, 7, none⟩ = some (.int .i64 0) ∧ w6.cell? ⟨w.heap.size + 1 + 1, 8, none⟩ = some (.string ⟨#[]⟩) := HR.out.at
  go_wp2_with fail
  ((with_reducible refine (HF.out _ ).mono ?_); rintro e w9 ⟨rfl, hb9⟩)
  have HR9 := Lib.hid (HR.out.on hb9)
  clear q0 q1 q2 q3 q4 q5 q6 q7 q8 hb9
  obtain ⟨q0, q1, q2, q3, q4, q5, q6, q7, q8⟩ : w9.cell? ⟨w.heap.size + 1 + 1, 0, none⟩ = some (.int .i64 k) ∧ w9.cell? ⟨w.heap.size + 1 + 1, 1, none⟩ = some (.string x) ∧ w9.cell? ⟨w.heap.size + 1 + 1, 2, none⟩ = some (.slice none 0 0) ∧ w9.cell? ⟨w.heap.size + 1 + 1, 3, none⟩ = some (.int .u64 0) ∧ w9.cell? ⟨w.heap.size + 1 + 1, 4, none⟩ = some (.int .u64 0) ∧ w9.cell? ⟨w.heap.size + 1 + 1, 5, none⟩ = some (.slice none 0 0) ∧ w9.cell? ⟨w.heap.size + 1 + 1, 6, none⟩ = some (.string ⟨#[]⟩) ∧ w9.cell? ⟨w.heap.size + 1 + 1, 7, none⟩ = some (.int .i64 0) ∧ w9.cell? ⟨w.heap.size + 1 + 1, 8, none⟩ = some (.string ⟨#[]⟩) := HR9.out.at
  have cb : w9.cell? ⟨w.heap.size + 1, 1, none⟩ = some (.bool false) := by have e := HR9.out.rd.c1; rw [HB.out] at e; exact e
  obtain ⟨d0, d1, d2, d3, d4, d5, d6, d7, d8⟩ := HR9.out.dc.nine
  obtain ⟨f0, f1, f2, f3, f4, f5, f6, f7, f8⟩ := HR9.out.dc.f
  have hb := set9_below HR9.out.b (.int .i64 0) (.string ⟨#[]⟩) (.slice none 0 0) (.int .u64 0) (.int .u64 0) (.slice none 0 0) (.string ⟨#[]⟩) (.int .i64 0) (.string ⟨#[]⟩)
  go_wp2
  exact bodyPost_ret (v := .tuple #[.agg #[.int .i64 0, .string ⟨#[]⟩, .slice none 0 0, .int .u64 0, .int .u64 0, .slice none 0 0, .string ⟨#[]⟩, .int .i64 0, .string ⟨#[]⟩], .int .i64 13]) (by simp [results, Try.results22, go_sem, d0, d1, d2, d3, d4, d5, d6, d7, d8, World.cell?_setCell_other, World.cell?_setCell_same']) rfl ⟨_, rfl, isOb_zero _, hb⟩

set_option maxRecDepth 100000 in
set_option maxHeartbeats 8000000 in
theorem rdec0_dif (s : BA) (hm : s.size ≤ maxLen) (w : World) (k : Nat) (h2 : k ≠ 2) (h3 : k ≠ 3) (r1 : Rd) (hI : rfI (s, false) = (k, r1)) (h1 : r1.1.size ≤ maxLen) (x : BA) (rl : Rd) (hT : rfT r1 = (x, rl)) (HB : Hid (rl.2 = false)) (tt : BA) (hdif : tt ≠ s)
    (HF : Hid (∀ W, Calls Try.prog 18 #[.agg #[.int .i64 k, .string x, .slice none 0 0, .int .u64 0, .int .u64 0, .slice none 0 0, .string ⟨#[]⟩, .int .i64 0, .string ⟨#[]⟩]] W fun e w' => e = .returned (.tuple #[.string tt, .int .i64 0]) ∧ Below W.heap.size W w')) :
    Calls Try.prog 22 #[.string s] w fun e w' => ∃ v, e = .returned (.tuple #[v, .int .i64 13]) ∧ IsOb w' v (zOb 0) ∧ Below w.heap.size w w' := by
  have hne : (tt.toList == s.toList) = false := by rw [str_eq]; simpa using hdif
  clear hdif
  have e2 : ((k : Int) == 2) = false := by simp; omega
  have e3 : ((k : Int) == 3) = false := by simp; omega
  have TC := Lib.hid (fun W (hW : RfAt W (w.heap.size + 1) r1) => rfT_any _ r1 W hW h1 x rl hT)
  clear h2 h3 hT h1
  have R0 := rx_fresh w s
  have IC : Hid (∀ W, RfAt W (w.heap.size + 1) (s, false) → Calls Try.prog 35 #[.pointer (some ⟨w.heap.size + 1, 0, none⟩)] W fun e w' => e = .returned (.int .i64 k) ∧ RfAt w' (w.heap.size + 1) r1 ∧ Only1 (w.heap.size + 1) W w') := Lib.hid fun W hW => rfI_any _ (s, false) W hW hm _ r1 hI
  clear hI
  go_enter Try.func22, Try.ntmps22
  go_wp2_with fail
  ((with_reducible refine (IC.out _ R0.rd).mono ?_); rintro e w2 ⟨rfl, hr1, ho1⟩)
  have R1 := R0.read hr1 ho1
  clear R0 hr1 ho1 IC
  have p0 := R1.at.1
  have f0 := R1.f 0
  have HR2 := Lib.hid (R1.setK k)
  clear R1
  have q0 := HR2.out.at.1
  go_wp2_with fail
  ((with_reducible refine (TC.out _ HR2.out.rd).mono ?_); rintro e w5 ⟨rfl, hr5, ho5⟩)
  have R5 := HR2.out.read hr5 ho5
  clear HR2 hr5 ho5 TC p0 f0 q0
  have p1 := R5.at.2.1
  have f1 := R5.f 1
  obtain ⟨w6, hw6⟩ : ∃ w6, w5.setCell ⟨w.heap.size + 1 + 1, 1, none⟩ (.string x) = w6 := ⟨_, rfl⟩
  have HR := Lib.hid (R5.setD x)
  rw [hw6] at HR
  have HW := Lib.hid hw6
  clear R5 hw6
  go_upto_region 26 with fail
  rw [HW.out]
  clear p1 f1 HW
  obtain ⟨q0, q1, q2, q3, q4, q5, q6, q7, q8⟩ : w6.cell? ⟨w.heap.size + 1 + 1, 0, none⟩ = some (.int .i64 k) ∧ w6.cell? ⟨w.heap.size + 1 + 1, 1, none⟩ = some (.string x) ∧ w6.cell? ⟨w.heap.size + 1 + 1, 2, none⟩ = some (.slice none 0 0) ∧ w6.cell? ⟨w.heap.size + 1 + 1, 3, none⟩ = some (.int .u64 0) ∧ w6.cell? ⟨w.heap.size + 1 + 1, 4, none⟩ = some (.int .u64 0) ∧ w6.cell? ⟨w.heap.size + 1 + 1, 5, none⟩ = some (.slice none 0 0) ∧ w6.cell? ⟨w.heap.size + 1 + 1, 6, none⟩ = some (.string ⟨#[]⟩) ∧ w6.cell? ⟨w.heap.size + 1 + 1, 7, none⟩ = some (.int .i64 0) ∧ w6.cell? ⟨w.heap.size + 1 + 1, 8, none⟩ = some (.string ⟨#[]⟩) := HR.out.at
  go_wp2_with fail
  ((with_reducible refine (HF.out _ ).mono ?_); rintro e w9 ⟨rfl, hb9⟩)
  have HR9 := Lib.hid (HR.out.on hb9)
  clear q0 q1 q2 q3 q4 q5 q6 q7 q8 hb9
  obtain ⟨q0, q1, q2, q3, q4, q5, q6, q7, q8⟩ : w9.cell? ⟨w.heap.size + 1 + 1, 0, none⟩ = some (.int .i64 k) ∧ w9.cell? ⟨w.heap.size + 1 + 1, 1, none⟩ = some (.string x) ∧ w9.cell? ⟨w.heap.size + 1 + 1, 2, none⟩ = some (.slice none 0 0) ∧ w9.cell? ⟨w.heap.size + 1 + 1, 3, none⟩ = some (.int .u64 0) ∧ w9.cell? ⟨w.heap.size + 1 + 1, 4, none⟩ = some (.int .u64 0) ∧ w9.cell? ⟨w.heap.size + 1 + 1, 5, none⟩ = some (.slice none 0 0) ∧ w9.cell? ⟨w.heap.size + 1 + 1, 6, none⟩ = some (.string ⟨#[]⟩) ∧ w9.cell? ⟨w.heap.size + 1 + 1, 7, none⟩ = some (.int .i64 0) ∧ w9.cell? ⟨w.heap.size + 1 + 1, 8, none⟩ = some (.string ⟨#[]⟩) := HR9.out.at
  have cb : w9.cell? ⟨w.heap.size + 1, 1, none⟩ = some (.bool false) := by have e := HR9.out.rd.c1; rw [HB.out] at e; exact e
  obtain ⟨d0, d1, d2, d3, d4, d5, d6, d7, d8⟩ := HR9.out.dc.nine
  obtain ⟨f0, f1, f2, f3, f4, f5, f6, f7, f8⟩ := HR9.out.dc.f
  have hb := set9_below HR9.out.b (.int .i64 0) (.string ⟨#[]⟩) (.slice none 0 0) (.int .u64 0) (.int .u64 0) (.slice none 0 0) (.string ⟨#[]⟩) (.int .i64 0) (.string ⟨#[]⟩)
  go_wp2
  exact bodyPost_ret (v := .tuple #[.agg #[.int .i64 0, .string ⟨#[]⟩, .slice none 0 0, .int .u64 0, .int .u64 0, .slice none 0 0, .string ⟨#[]⟩, .int .i64 0, .string ⟨#[]⟩], .int .i64 13]) (by simp [results, Try.results22, go_sem, d0, d1, d2, d3, d4, d5, d6, d7, d8, World.cell?_setCell_other, World.cell?_setCell_same']) rfl ⟨_, rfl, isOb_zero _, hb⟩

set_option maxRecDepth 100000 in
set_option maxHeartbeats 8000000 in
theorem rdec0_ok (s : BA) (hm : s.size ≤ maxLen) (w : World) (k : Nat) (h2 : k ≠ 2) (h3 : k ≠ 3) (r1 : Rd) (hI : rfI (s, false) = (k, r1)) (h1 : r1.1.size ≤ maxLen) (x : BA) (rl : Rd) (hT : rfT r1 = (x, rl)) (HB : Hid (rl.2 = false))
    (HF : Hid (∀ W, Calls Try.prog 18 #[.agg #[.int .i64 k, .string x, .slice none 0 0, .int .u64 0, .int .u64 0, .slice none 0 0, .string ⟨#[]⟩, .int .i64 0, .string ⟨#[]⟩]] W fun e w' => e = .returned (.tuple #[.string s, .int .i64 0]) ∧ Below W.heap.size W w')) :
    Calls Try.prog 22 #[.string s] w fun e w' => ∃ v, e = .returned (.tuple #[v, .int .i64 0]) ∧ IsOb w' v (⟨k, x, [], (0, 0), [], ⟨#[]⟩, 0, ⟨#[]⟩⟩) ∧ Below w.heap.size w w' := by
  have hss : (s.toList == s.toList) = true := by simp
  have e2 : ((k : Int) == 2) = false := by simp; omega
  have e3 : ((k : Int) == 3) = false := by simp; omega
  have TC := Lib.hid (fun W (hW : RfAt W (w.heap.size + 1) r1) => rfT_any _ r1 W hW h1 x rl hT)
  clear h2 h3 hT h1
  have R0 := rx_fresh w s
  have IC : Hid (∀ W, RfAt W (w.heap.size + 1) (s, false) → Calls Try.prog 35 #[.pointer (some ⟨w.heap.size + 1, 0, none⟩)] W fun e w' => e = .returned (.int .i64 k) ∧ RfAt w' (w.heap.size + 1) r1 ∧ Only1 (w.heap.size + 1) W w') := Lib.hid fun W hW => rfI_any _ (s, false) W hW hm _ r1 hI
  clear hI
  go_enter Try.func22, Try.ntmps22
  go_wp2_with fail
  ((with_reducible refine (IC.out _ R0.rd).mono ?_); rintro e w2 ⟨rfl, hr1, ho1⟩)
  have R1 := R0.read hr1 ho1
  clear R0 hr1 ho1 IC
  have p0 := R1.at.1
  have f0 := R1.f 0
  have HR2 := Lib.hid (R1.setK k)
  clear R1
  have q0 := HR2.out.at.1
  go_wp2_with fail
  ((with_reducible refine (TC.out _ HR2.out.rd).mono ?_); rintro e w5 ⟨rfl, hr5, ho5⟩)
  have R5 := HR2.out.read hr5 ho5
  clear HR2 hr5 ho5 TC p0 f0 q0
  have p1 := R5.at.2.1
  have f1 := R5.f 1
  obtain ⟨w6, hw6⟩ : ∃ w6, w5.setCell ⟨w.heap.size + 1 + 1, 1, none⟩ (.string x) = w6 := ⟨_, rfl⟩
  have HR := Lib.hid (R5.setD x)
  rw [hw6] at HR
  have HW := Lib.hid hw6
  clear R5 hw6
  go_upto_region 26 with fail
  rw [HW.out]
  clear p1 f1 HW
  obtain ⟨q0, q1, q2, q3, q4, q5, q6, q7, q8⟩ : w6.cell? ⟨w.heap.size + 1 + 1, 0, none⟩ = some (.int .i64 k) ∧ w6.cell? ⟨w.heap.size + 1 + 1, 1, none⟩ = some (.string x) ∧ w6.cell? ⟨w.heap.size + 1 + 1, 2, none⟩ = some (.slice none 0 0) ∧ w6.cell? ⟨w.heap.size + 1 + 1, 3, none⟩ = some (.int .u64 0) ∧ w6.cell? ⟨w.heap.size + 1 + 1, 4, none⟩ = some (.int .u64 0) ∧ w6.cell? ⟨w.heap.size + 1 + 1, 5, none⟩ = some (.slice none 0 0) ∧ w6.cell? ⟨w.heap.size + 1 + 1, 6, none⟩ = some (.string ⟨#[]⟩) ∧ w6.cell? ⟨w.heap.size + 1 + 1, 7, none⟩ = some (.int .i64 0) ∧ w6.cell? ⟨w.heap.size + 1 + 1, 8, none⟩ = some (.string ⟨#[]⟩) := HR.out.at
  go_wp2_with fail
  ((with_reducible refine (HF.out _ ).mono ?_); rintro e w9 ⟨rfl, hb9⟩)
  have HR9 := Lib.hid (HR.out.on hb9)
  clear q0 q1 q2 q3 q4 q5 q6 q7 q8 hb9
  obtain ⟨q0, q1, q2, q3, q4, q5, q6, q7, q8⟩ : w9.cell? ⟨w.heap.size + 1 + 1, 0, none⟩ = some (.int .i64 k) ∧ w9.cell? ⟨w.heap.size + 1 + 1, 1, none⟩ = some (.string x) ∧ w9.cell? ⟨w.heap.size + 1 + 1, 2, none⟩ = some (.slice none 0 0) ∧ w9.cell? ⟨w.heap.size + 1 + 1, 3, none⟩ = some (.int .u64 0) ∧ w9.cell? ⟨w.heap.size + 1 + 1, 4, none⟩ = some (.int .u64 0) ∧ w9.cell? ⟨w.heap.size + 1 + 1, 5, none⟩ = some (.slice none 0 0) ∧ w9.cell? ⟨w.heap.size + 1 + 1, 6, none⟩ = some (.string ⟨#[]⟩) ∧ w9.cell? ⟨w.heap.size + 1 + 1, 7, none⟩ = some (.int .i64 0) ∧ w9.cell? ⟨w.heap.size + 1 + 1, 8, none⟩ = some (.string ⟨#[]⟩) := HR9.out.at
  have cb : w9.cell? ⟨w.heap.size + 1, 1, none⟩ = some (.bool false) := by have e := HR9.out.rd.c1; rw [HB.out] at e; exact e
  obtain ⟨d0, d1, d2, d3, d4, d5, d6, d7, d8⟩ := HR9.out.dc.nine
  obtain ⟨f0, f1, f2, f3, f4, f5, f6, f7, f8⟩ := HR9.out.dc.f
  have hb := set9_below HR9.out.b (.int .i64 k) (.string x) (.slice none 0 0) (.int .u64 0) (.int .u64 0) (.slice none 0 0) (.string ⟨#[]⟩) (.int .i64 0) (.string ⟨#[]⟩)
  go_wp2
  exact bodyPost_ret (v := .tuple #[.agg #[.int .i64 k, .string x, .slice none 0 0, .int .u64 0, .int .u64 0, .slice none 0 0, .string ⟨#[]⟩, .int .i64 0, .string ⟨#[]⟩], .int .i64 0]) (by simp [results, Try.results22, go_sem, d0, d1, d2, d3, d4, d5, d6, d7, d8, World.cell?_setCell_other, World.cell?_setCell_same']) rfl ⟨_, rfl, ⟨_, _, rfl, isEnts_nil _, isDigs_nil _⟩, hb⟩
def rfX (r : Rd) : Ent × Rd := (⟨(rfT r).1, decide ((rfI (rfT r).2).1 = 1), (rfD (rfI (rfT r).2).2).1⟩, (rfD (rfI (rfT r).2).2).2)
def rfXs : Nat → List Ent → Rd → List Ent × Rd
  | 0, A, r => (A, r)
  | n + 1, A, r => if r.2 = true then (A, r) else rfXs n (A ++ [(rfX r).1]) (rfX r).2
theorem rfXs_step (n : Nat) (A : List Ent) (r : Rd) (h : r.2 = false) : rfXs (n + 1) A r = rfXs n (A ++ [(rfX r).1]) (rfX r).2 := by
  rw [rfXs, if_neg (by rw [h]; simp)]
theorem rfXs_stop (n : Nat) (A : List Ent) (r : Rd) (h : n = 0 ∨ r.2 = true) : rfXs n A r = (A, r) := by
  cases n with
  | zero => rfl
  | succ n => rw [rfXs, if_pos (h.resolve_left (by omega))]
theorem rfI_le (r : Rd) (m : Nat) (h : r.1.size ≤ m) : (rfI r).2.1.size ≤ m := by
  unfold rfI
  split
  · simp only [ByteArray.size_extract]; omega
  · exact h
theorem rfT_le (r : Rd) (m : Nat) (h : r.1.size ≤ m) : (rfT r).2.1.size ≤ m := by
  unfold rfT
  split
  · simp only [ByteArray.size_extract]; omega
  · exact h
theorem rfD_le (r : Rd) (m : Nat) (h : r.1.size ≤ m) : (rfD r).2.1.size ≤ m ∧ ((rfD r).2.2 = false → (rfD r).2.1.size + 16 ≤ m) := by
  unfold rfD
  by_cases hg : r.2 = false ∧ 16 ≤ r.1.size
  · rw [if_pos hg]
    simp only [ByteArray.size_extract]
    exact ⟨by omega, fun _ => by omega⟩
  · rw [if_neg hg]
    exact ⟨h, fun e => (by cases e)⟩
/-- An entry's box. -/
def EXat (W : World) (X : Nat) (nm : BA) (dr : Bool) (x y : Nat) : Prop := W.heap[X]? = some (.cells #[.string nm, .bool dr, .int .u64 x, .int .u64 y] 45 (0, 0))
theorem EXat.c {W : World} {X : Nat} {nm : BA} {dr : Bool} {x y : Nat} (h : EXat W X nm dr x y) : W.cell? ⟨X, 0, none⟩ = some (.string nm) ∧ W.cell? ⟨X, 1, none⟩ = some (.bool dr) ∧ W.cell? ⟨X, 2, none⟩ = some (.int .u64 x) ∧ W.cell? ⟨X, 3, none⟩ = some (.int .u64 y) := by
  refine ⟨?_, ?_, ?_, ?_⟩ <;> rw [Lib.cell_of_heap h] <;> rfl
theorem EXat.f {W : World} {X : Nat} {nm : BA} {dr : Bool} {x y : Nat} (h : EXat W X nm dr x y) (o : Nat) : W.frozen? ⟨X, o, none⟩ = false := Lib.frozen_of_heap h o
theorem EXat.set0 {W : World} {X : Nat} {nm : BA} {dr : Bool} {x y : Nat} (h : EXat W X nm dr x y) (s : BA) : EXat (W.setCell ⟨X, 0, none⟩ (.string s)) X s dr x y := by
  unfold EXat at h ⊢
  simp [World.setCell, Array.getElem?_modify, h]
theorem EXat.set1 {W : World} {X : Nat} {nm : BA} {dr : Bool} {x y : Nat} (h : EXat W X nm dr x y) (b : Bool) : EXat (W.setCell ⟨X, 1, none⟩ (.bool b)) X nm b x y := by
  unfold EXat at h ⊢
  simp [World.setCell, Array.getElem?_modify, h]
theorem EXat.set2 {W : World} {X : Nat} {nm : BA} {dr : Bool} {x y : Nat} (h : EXat W X nm dr x y) (z : Nat) : EXat (W.setCell ⟨X, 2, none⟩ (.int .u64 z)) X nm dr z y := by
  unfold EXat at h ⊢
  simp [World.setCell, Array.getElem?_modify, h]
theorem EXat.set3 {W : World} {X : Nat} {nm : BA} {dr : Bool} {x y : Nat} (h : EXat W X nm dr x y) (z : Nat) : EXat (W.setCell ⟨X, 3, none⟩ (.int .u64 z)) X nm dr x z := by
  unfold EXat at h ⊢
  simp [World.setCell, Array.getElem?_modify, h]
theorem EXat.at1 {N : Nat} {W W' : World} {X : Nat} {nm : BA} {dr : Bool} {x y : Nat} (h : EXat W X nm dr x y) (ho : Only1 N W W') (hne : X ≠ N) : EXat W' X nm dr x y := ho.at h hne
/-- Own cells but for a block that is not theirs. -/
theorem own_mv2 {w w' : World} {B m s : Nat} {e : TypeId} {v : Value} {xs : List Value} {X : Nat} (h : w.ownsRow B e s v m xs) (hX : ∀ k, v.ownBlock = some k → k ≠ X) (hk : ∀ k, B ≤ k → k < w.heap.size → k ≠ X → w'.heap[k]? = w.heap[k]?) : w'.ownsRow B e s v m xs := by
  refine ⟨h.1, h.2.imp id ?_⟩
  rintro ⟨g, cap, cur, e, hg, hh, h3⟩
  exact ⟨g, cap, cur, e, hg, (hk g hg (Array.getElem?_eq_some_iff.1 hh).1 (hX g (by rw [e]; rfl))).trans hh, h3⟩

set_option maxRecDepth 100000 in
set_option maxHeartbeats 16000000 in
theorem rdec2_bad (s : BA) (hm : s.size ≤ maxLen) (w : World) (r1 : Rd) (hI : rfI (s, false) = (2, r1)) (h1 : r1.1.size ≤ 65536) (n : Nat) (r2 : Rd) (hC : rfI r1 = (n, r2)) (hn : n ≤ 1099511627776) (h2 : r2.1.size ≤ 65536) (L : List Ent) (rl : Rd) (hP : rfXs n [] r2 = (L, rl)) (HB : Hid (rl.2 = true)) (tt : BA) (c : Int)
    (HF : Hid (∀ W (ve : Value), W.ownsRow (w.heap.size + 1 + 1 + 1) 45 4 ve L.length (rowX L) → Calls Try.prog 18 #[.agg #[.int .i64 2, .string ⟨#[]⟩, ve, .int .u64 0, .int .u64 0, .slice none 0 0, .string ⟨#[]⟩, .int .i64 0, .string ⟨#[]⟩]] W fun e w' => e = .returned (.tuple #[.string tt, .int .i64 c]) ∧ Below W.heap.size W w')) :
    Calls Try.prog 22 #[.string s] w fun e w' => ∃ v, e = .returned (.tuple #[v, .int .i64 13]) ∧ IsOb w' v (zOb 0) ∧ Below w.heap.size w w' := by
  obtain ⟨i0, hi, hz0, hz1, hz2⟩ := info_parts info45
  have g : ∀ z : Nat, z ≤ 65536 → z ≤ maxLen := fun z hz => Nat.le_trans hz (by decide)
  have NC := Lib.hid (fun W (hW : RfAt W (w.heap.size + 1) r1) => rfI_any _ r1 W hW (g _ h1) n r2 hC)
  have XT := Lib.hid (fun (q : Rd) (hq : q.1.size ≤ 65536) W (hW : RfAt W (w.heap.size + 1) q) a q' (hx : rfT q = (a, q')) => rfT_any _ q W hW (g _ hq) a q' hx)
  have XI := Lib.hid (fun (q : Rd) (hq : q.1.size ≤ 65536) W (hW : RfAt W (w.heap.size + 1) q) a q' (hx : rfI q = (a, q')) => rfI_any _ q W hW (g _ hq) a q' hx)
  have XD := Lib.hid (fun (q : Rd) (hq : q.1.size ≤ 65536) W (hW : RfAt W (w.heap.size + 1) q) a b q' (hx : rfD q = ((a, b), q')) => rfD_any _ q W hW (g _ hq) a b q' hx)
  have HP := Lib.hid hP
  clear hC hP h1 g
  have R0 := rx_fresh w s
  have IC : Hid (∀ W, RfAt W (w.heap.size + 1) (s, false) → Calls Try.prog 35 #[.pointer (some ⟨w.heap.size + 1, 0, none⟩)] W fun e w' => e = .returned (.int .i64 2) ∧ RfAt w' (w.heap.size + 1) r1 ∧ Only1 (w.heap.size + 1) W w') := Lib.hid fun W hW => rfI_any _ (s, false) W hW hm _ r1 hI
  clear hI
  go_enter Try.func22, Try.ntmps22
  go_wp2_with fail
  ((with_reducible refine (IC.out _ R0.rd).mono ?_); rintro e w2 ⟨rfl, hr1, ho1⟩)
  have R1 := R0.read hr1 ho1
  clear R0 hr1 ho1 IC
  have p0 := R1.at.1
  have f0 := R1.f 0
  have HR2 := Lib.hid (R1.setK 2)
  clear R1
  go_wp2_with fail
  ((with_reducible refine (NC.out _ HR2.out.rd).mono ?_); rintro e w4 ⟨rfl, hr5, ho5⟩)
  have HR4 := Lib.hid (HR2.out.read hr5 ho5)
  clear HR2 hr5 ho5 NC p0 f0
  go_wp2
  go_loopw [7] (fun s7 wr => ∃ (i : Nat) (A : List Ent) (q : Rd) (ve : Value), i ≤ n ∧ s7 = .int .i64 i ∧ Hid (rfXs (n - i) A q = (L, rl)) ∧ q.1.size ≤ 65536 ∧ A.length ≤ 65537 ∧ Hid (q.2 = false → A.length + q.1.size ≤ 65536) ∧ Hid (Rx w q 2 ⟨#[]⟩ ve 0 0 (.slice none 0 0) ⟨#[]⟩ 0 ⟨#[]⟩ wr) ∧ Hid (wr.ownsRow (w.heap.size + 1 + 1 + 1) 45 4 ve A.length (rowX A))) (fun i _ => n - (intOf i).toNat)
  case atStart => exact ⟨0, [], r2, _, Nat.zero_le _, rfl, HP, h2, Nat.zero_le _, Lib.hid (fun _ => by rw [List.length_nil, Nat.zero_add]; exact h2), HR4, Lib.hid (World.ownsRow_nil _ _ _ _)⟩
  case round =>
    obtain ⟨i, A, q, ve, hi2, rfl, HJ, hq, hA, HL, HR, HO⟩ := hrel
    clear HR4 HP h2
    have cq := HR.out.rd.c1
    by_cases hlt : i < n
    · cases hb2 : q.2 with
      | true =>
        have e := HJ.out
        rw [rfXs_stop _ _ _ (.inr hb2)] at e
        obtain ⟨rfl, rfl⟩ := Prod.mk.inj e
        rw [hb2] at cq
        clear HJ e HL
        obtain ⟨a5, n5, c5, rfl⟩ := own_form HO.out
        have y2 := HR.out.at.2.2.1
        go_upto_region 26 with fail
        clear y2 cq
        obtain ⟨q0, q1, q2, q3, q4, q5, q6, q7, q8⟩ : wr.cell? ⟨w.heap.size + 1 + 1, 0, none⟩ = some (.int .i64 2) ∧ wr.cell? ⟨w.heap.size + 1 + 1, 1, none⟩ = some (.string ⟨#[]⟩) ∧ wr.cell? ⟨w.heap.size + 1 + 1, 2, none⟩ = some (.slice a5 n5 c5) ∧ wr.cell? ⟨w.heap.size + 1 + 1, 3, none⟩ = some (.int .u64 0) ∧ wr.cell? ⟨w.heap.size + 1 + 1, 4, none⟩ = some (.int .u64 0) ∧ wr.cell? ⟨w.heap.size + 1 + 1, 5, none⟩ = some (.slice none 0 0) ∧ wr.cell? ⟨w.heap.size + 1 + 1, 6, none⟩ = some (.string ⟨#[]⟩) ∧ wr.cell? ⟨w.heap.size + 1 + 1, 7, none⟩ = some (.int .i64 0) ∧ wr.cell? ⟨w.heap.size + 1 + 1, 8, none⟩ = some (.string ⟨#[]⟩) := HR.out.at
        go_wp2_with fail
        ((with_reducible refine (HF.out _ _ HO.out).mono ?_); rintro e w9 ⟨rfl, hb9⟩)
        have HR9 := Lib.hid (HR.out.on hb9)
        have HO9 := Lib.hid (own_mv (w' := w9) HO.out (fun k _ h => hb9.block k h))
        clear q0 q1 q2 q3 q4 q5 q6 q7 q8 hb9
        obtain ⟨q0, q1, q2, q3, q4, q5, q6, q7, q8⟩ : w9.cell? ⟨w.heap.size + 1 + 1, 0, none⟩ = some (.int .i64 2) ∧ w9.cell? ⟨w.heap.size + 1 + 1, 1, none⟩ = some (.string ⟨#[]⟩) ∧ w9.cell? ⟨w.heap.size + 1 + 1, 2, none⟩ = some (.slice a5 n5 c5) ∧ w9.cell? ⟨w.heap.size + 1 + 1, 3, none⟩ = some (.int .u64 0) ∧ w9.cell? ⟨w.heap.size + 1 + 1, 4, none⟩ = some (.int .u64 0) ∧ w9.cell? ⟨w.heap.size + 1 + 1, 5, none⟩ = some (.slice none 0 0) ∧ w9.cell? ⟨w.heap.size + 1 + 1, 6, none⟩ = some (.string ⟨#[]⟩) ∧ w9.cell? ⟨w.heap.size + 1 + 1, 7, none⟩ = some (.int .i64 0) ∧ w9.cell? ⟨w.heap.size + 1 + 1, 8, none⟩ = some (.string ⟨#[]⟩) := HR9.out.at
        have cb : w9.cell? ⟨w.heap.size + 1, 1, none⟩ = some (.bool true) := by have e := HR9.out.rd.c1; rw [HB.out] at e; exact e
        obtain ⟨d0, d1, d2, d3, d4, d5, d6, d7, d8⟩ := HR9.out.dc.nine
        obtain ⟨f0, f1, f2, f3, f4, f5, f6, f7, f8⟩ := HR9.out.dc.f
        have hb := set9_below HR9.out.b (.int .i64 0) (.string ⟨#[]⟩) (.slice none 0 0) (.int .u64 0) (.int .u64 0) (.slice none 0 0) (.string ⟨#[]⟩) (.int .i64 0) (.string ⟨#[]⟩)
        go_wp2
        exact bodyPost_ret (v := .tuple #[.agg #[.int .i64 0, .string ⟨#[]⟩, .slice none 0 0, .int .u64 0, .int .u64 0, .slice none 0 0, .string ⟨#[]⟩, .int .i64 0, .string ⟨#[]⟩], .int .i64 13]) (by simp [results, Try.results22, go_sem, d0, d1, d2, d3, d4, d5, d6, d7, d8, World.cell?_setCell_other, World.cell?_setCell_same']) rfl ⟨_, rfl, isOb_zero _, hb⟩
      | false =>
        rw [hb2] at cq
        obtain ⟨m2, hm2⟩ : ∃ m2, n - i = m2 + 1 := ⟨n - i - 1, by omega⟩
        rw [hm2] at HJ
        have hroom := HL.out hb2
        obtain ⟨nm, qa, ha⟩ : ∃ x q', rfT q = (x, q') := ⟨_, _, rfl⟩
        have hqa := rfT_le q _ (Nat.le_refl _)
        rw [ha] at hqa
        simp only at hqa
        obtain ⟨mi, qb, hbb⟩ : ∃ x q', rfI qa = (x, q') := ⟨_, _, rfl⟩
        have hqb := rfI_le qa _ hqa
        rw [hbb] at hqb
        simp only at hqb
        obtain ⟨x, y, q', hx⟩ : ∃ x y q', rfD qb = ((x, y), q') := ⟨_, _, _, rfl⟩
        have hqc := rfD_le qb _ hqb
        rw [hx] at hqc
        simp only at hqc
        obtain ⟨z2, z1⟩ := hqc
        obtain ⟨dr, hdr⟩ : ∃ dr, decide (mi = 1) = dr := ⟨_, rfl⟩
        have e9 : ((mi : Int) == 1) = dr := by
          rw [← hdr]
          by_cases h1 : mi = 1
          · subst h1; rfl
          · rw [decide_eq_false h1]; simp; omega
        have HJ2 : Hid (rfXs m2 (A ++ [⟨nm, dr, (x, y)⟩]) q' = (L, rl)) := Lib.hid (by
          have := HJ.out
          rw [rfXs_step _ _ _ hb2] at this
          unfold rfX at this
          simp only [ha, hbb, hx, hdr] at this
          exact this)
        have T2 := Lib.hid (fun W (hW : RfAt W (w.heap.size + 1) q) => XT.out q hq W hW nm qa ha)
        have I2 := Lib.hid (fun W (hW : RfAt W (w.heap.size + 1) qa) => XI.out qa (by omega) W hW mi qb hbb)
        have D2 := Lib.hid (fun W (hW : RfAt W (w.heap.size + 1) qb) => XD.out qb (by omega) W hW x y q' hx)
        have EN : Hid (n - (i + 1) = m2) := Lib.hid (by omega)
        have Z1 : Hid (q'.2 = false → A.length + 1 + q'.1.size ≤ 65536) := Lib.hid (fun e => by have := z1 e; omega)
        have z3 : q'.1.size ≤ 65536 := by omega
        have z4 : A.length + 1 ≤ 65537 := by omega
        have HX : Hid (∀ k, ve.ownBlock = some k → k ≠ wr.heap.size) := Lib.hid (fun k hk => by have := (HO.out.lt k hk).2; omega)
        have lX := HR.out.lt
        clear HJ HL ha hbb hx hdr hm2 z1 z2 hb2 hqa hqb hroom hq XT XI XD
        have R5 := HR.out.on ((Below.refl _ _).alloc (Nat.le_refl _) (.cells #[.string ⟨#[]⟩, .bool false, .int .u64 0, .int .u64 0] 45))
        have E5 : EXat (wr.alloc (.cells #[.string ⟨#[]⟩, .bool false, .int .u64 0, .int .u64 0] 45)) wr.heap.size ⟨#[]⟩ false 0 0 := World.alloc_heap_new _ _
        have O5 := HO.out.alloc (.cells #[.string ⟨#[]⟩, .bool false, .int .u64 0, .int .u64 0] 45)
        go_wp2_with fail
        ((with_reducible refine (T2.out _ R5.rd).mono ?_); rintro e w5 ⟨rfl, hr5, ho5⟩)
        have R6 := R5.read hr5 ho5
        have E6 := E5.at1 ho5 (by omega)
        have O6 := own_mv (w' := w5) O5 (fun k hk hk2 => ho5.k k (by omega) hk2)
        clear R5 E5 O5 hr5 ho5 cq
        obtain ⟨x0, -, -, -⟩ := E6.c
        have xf0 := E6.f 0
        have R7 := R6.other lX 0 (.string nm)
        have E7 := E6.set0 nm
        have O7 := own_mv2 (w' := w5.setCell ⟨wr.heap.size, 0, none⟩ (.string nm)) O6 HX.out (fun k _ _ hne => Below.heap_setCell w5 ⟨wr.heap.size, 0, none⟩ _ k hne)
        clear R6 E6 O6
        go_wp2_with fail
        ((with_reducible refine (I2.out _ R7.rd).mono ?_); rintro e w6 ⟨rfl, hr5, ho5⟩)
        have R8 := R7.read hr5 ho5
        have E8 := E7.at1 ho5 (by omega)
        have O8 := own_mv (w' := w6) O7 (fun k hk hk2 => ho5.k k (by omega) hk2)
        clear R7 E7 O7 hr5 ho5 x0 xf0
        obtain ⟨-, x1, -, -⟩ := E8.c
        have xf1 := E8.f 1
        have R9 := R8.other lX 1 (.bool dr)
        have E9 := E8.set1 dr
        have O9 := own_mv2 (w' := w6.setCell ⟨wr.heap.size, 1, none⟩ (.bool dr)) O8 HX.out (fun k _ _ hne => Below.heap_setCell w6 ⟨wr.heap.size, 1, none⟩ _ k hne)
        clear R8 E8 O8
        go_wp2_with fail
        ((with_reducible refine (D2.out _ R9.rd).mono ?_); rintro e w7 ⟨rfl, hr5, ho5⟩)
        have R10 := R9.read hr5 ho5
        have E10 := E9.at1 ho5 (by omega)
        have O10 := own_mv (w' := w7) O9 (fun k hk hk2 => ho5.k k (by omega) hk2)
        clear R9 E9 O9 hr5 ho5 x1 xf1
        obtain ⟨-, -, x2, x3⟩ := E10.c
        have xf2 := E10.f 2
        have xf3 := E10.f 3
        obtain ⟨w8, hw8⟩ : ∃ w8, (w7.setCell ⟨wr.heap.size, 2, none⟩ (.int .u64 x)).setCell ⟨wr.heap.size, 3, none⟩ (.int .u64 y) = w8 := ⟨_, rfl⟩
        have R11 := Lib.hid ((R10.other lX 2 (.int .u64 x)).other lX 3 (.int .u64 y))
        have E11 := Lib.hid ((E10.set2 x).set3 y)
        have O11 := Lib.hid (own_mv2 (w' := (w7.setCell ⟨wr.heap.size, 2, none⟩ (.int .u64 x)).setCell ⟨wr.heap.size, 3, none⟩ (.int .u64 y)) O10 HX.out (fun k _ _ hne => (Below.heap_setCell _ ⟨wr.heap.size, 3, none⟩ _ k hne).trans (Below.heap_setCell w7 ⟨wr.heap.size, 2, none⟩ _ k hne)))
        rw [hw8] at R11 E11 O11
        have HW := Lib.hid hw8
        clear R10 E10 O10 hw8
        go_upto_region 15 with fail
        rw [HW.out]
        clear x2 x3 xf2 xf3 HW
        have y2 := R11.out.at.2.2.1
        obtain ⟨x0, x1, x2, x3⟩ := E11.out.c
        have l11 := R11.out.lt
        go_wp2_with (at_builtin; refine wpList_append_own _ rfl _ _ 22 rfl (w.heap.size + 1 + 1 + 1) 45 i0 (.agg #[.string ⟨#[]⟩, .bool false, .int .u64 0, .int .u64 0]) 4 40 Try.underlying22 hi hz0 hz1 hz2 rfl (by decide) _ A.length (rowX A) rfl (O11.out.alloc _) ⟨w8.heap.size, 0, none⟩ 1 1 [.string nm, .bool dr, .int .u64 x, .int .u64 y] rfl rfl (four_ent w8 _ rfl nm dr x y _) (ent_one nm dr x y) (by unfold maxLen; omega) (by omega) (by simp; omega) ?_)
        intro v' w9 hown hgrow _
        have R12 := Rx.grown (R11.out.on ((Below.refl _ _).alloc (Nat.le_refl _) (.cells #[.string nm, .bool dr, .int .u64 x, .int .u64 y] 45))) hgrow (fun k e => (O11.out.lt k e).1)
        obtain ⟨a7, n7, c7, rfl⟩ := own_form hown
        have y9 := R12.at.2.2.1
        have yf9 := R12.f 2
        have R13 := Lib.hid (R12.setE (.slice a7 n7 c7))
        have O13 := Lib.hid (own_mv (w' := w9.setCell ⟨w.heap.size + 1 + 1, 2, none⟩ (.slice a7 n7 c7)) hown (fun k hk _ => Below.heap_setCell w9 ⟨w.heap.size + 1 + 1, 2, none⟩ _ k (show k ≠ w.heap.size + 1 + 1 by omega)))
        clear hown hgrow R12 R11 E11 O11 x0 x1 x2 x3 y2
        go_wp2
        go_roundw
        case rel => exact ⟨i + 1, A ++ [⟨nm, dr, (x, y)⟩], q', _, by omega, by go_num, Lib.hid (by rw [EN.out]; exact HJ2.out), z3, by rw [List.length_append]; exact z4, Lib.hid (fun e => by have := Z1.out e; rw [List.length_append]; exact this), R13, Lib.hid (by rw [rowX_snoc, List.length_append]; exact O13.out)⟩
        case measure => simp [intOf]; omega
    · have e := HJ.out
      rw [rfXs_stop _ _ _ (.inl (by omega))] at e
      obtain ⟨rfl, rfl⟩ := Prod.mk.inj e
      clear HJ e HL
      obtain ⟨a5, n5, c5, rfl⟩ := own_form HO.out
      have y2 := HR.out.at.2.2.1
      go_upto_region 26 with fail
      clear y2 cq
      obtain ⟨q0, q1, q2, q3, q4, q5, q6, q7, q8⟩ : wr.cell? ⟨w.heap.size + 1 + 1, 0, none⟩ = some (.int .i64 2) ∧ wr.cell? ⟨w.heap.size + 1 + 1, 1, none⟩ = some (.string ⟨#[]⟩) ∧ wr.cell? ⟨w.heap.size + 1 + 1, 2, none⟩ = some (.slice a5 n5 c5) ∧ wr.cell? ⟨w.heap.size + 1 + 1, 3, none⟩ = some (.int .u64 0) ∧ wr.cell? ⟨w.heap.size + 1 + 1, 4, none⟩ = some (.int .u64 0) ∧ wr.cell? ⟨w.heap.size + 1 + 1, 5, none⟩ = some (.slice none 0 0) ∧ wr.cell? ⟨w.heap.size + 1 + 1, 6, none⟩ = some (.string ⟨#[]⟩) ∧ wr.cell? ⟨w.heap.size + 1 + 1, 7, none⟩ = some (.int .i64 0) ∧ wr.cell? ⟨w.heap.size + 1 + 1, 8, none⟩ = some (.string ⟨#[]⟩) := HR.out.at
      go_wp2_with fail
      ((with_reducible refine (HF.out _ _ HO.out).mono ?_); rintro e w9 ⟨rfl, hb9⟩)
      have HR9 := Lib.hid (HR.out.on hb9)
      have HO9 := Lib.hid (own_mv (w' := w9) HO.out (fun k _ h => hb9.block k h))
      clear q0 q1 q2 q3 q4 q5 q6 q7 q8 hb9
      obtain ⟨q0, q1, q2, q3, q4, q5, q6, q7, q8⟩ : w9.cell? ⟨w.heap.size + 1 + 1, 0, none⟩ = some (.int .i64 2) ∧ w9.cell? ⟨w.heap.size + 1 + 1, 1, none⟩ = some (.string ⟨#[]⟩) ∧ w9.cell? ⟨w.heap.size + 1 + 1, 2, none⟩ = some (.slice a5 n5 c5) ∧ w9.cell? ⟨w.heap.size + 1 + 1, 3, none⟩ = some (.int .u64 0) ∧ w9.cell? ⟨w.heap.size + 1 + 1, 4, none⟩ = some (.int .u64 0) ∧ w9.cell? ⟨w.heap.size + 1 + 1, 5, none⟩ = some (.slice none 0 0) ∧ w9.cell? ⟨w.heap.size + 1 + 1, 6, none⟩ = some (.string ⟨#[]⟩) ∧ w9.cell? ⟨w.heap.size + 1 + 1, 7, none⟩ = some (.int .i64 0) ∧ w9.cell? ⟨w.heap.size + 1 + 1, 8, none⟩ = some (.string ⟨#[]⟩) := HR9.out.at
      have cb : w9.cell? ⟨w.heap.size + 1, 1, none⟩ = some (.bool true) := by have e := HR9.out.rd.c1; rw [HB.out] at e; exact e
      obtain ⟨d0, d1, d2, d3, d4, d5, d6, d7, d8⟩ := HR9.out.dc.nine
      obtain ⟨f0, f1, f2, f3, f4, f5, f6, f7, f8⟩ := HR9.out.dc.f
      have hb := set9_below HR9.out.b (.int .i64 0) (.string ⟨#[]⟩) (.slice none 0 0) (.int .u64 0) (.int .u64 0) (.slice none 0 0) (.string ⟨#[]⟩) (.int .i64 0) (.string ⟨#[]⟩)
      go_wp2
      exact bodyPost_ret (v := .tuple #[.agg #[.int .i64 0, .string ⟨#[]⟩, .slice none 0 0, .int .u64 0, .int .u64 0, .slice none 0 0, .string ⟨#[]⟩, .int .i64 0, .string ⟨#[]⟩], .int .i64 13]) (by simp [results, Try.results22, go_sem, d0, d1, d2, d3, d4, d5, d6, d7, d8, World.cell?_setCell_other, World.cell?_setCell_same']) rfl ⟨_, rfl, isOb_zero _, hb⟩

set_option maxRecDepth 100000 in
set_option maxHeartbeats 16000000 in
theorem rdec2_chk (s : BA) (hm : s.size ≤ maxLen) (w : World) (r1 : Rd) (hI : rfI (s, false) = (2, r1)) (h1 : r1.1.size ≤ 65536) (n : Nat) (r2 : Rd) (hC : rfI r1 = (n, r2)) (hn : n ≤ 1099511627776) (h2 : r2.1.size ≤ 65536) (L : List Ent) (rl : Rd) (hP : rfXs n [] r2 = (L, rl)) (HB : Hid (rl.2 = false)) (tt : BA) (c : Int) (hc : c ≠ 0)
    (HF : Hid (∀ W (ve : Value), W.ownsRow (w.heap.size + 1 + 1 + 1) 45 4 ve L.length (rowX L) → Calls Try.prog 18 #[.agg #[.int .i64 2, .string ⟨#[]⟩, ve, .int .u64 0, .int .u64 0, .slice none 0 0, .string ⟨#[]⟩, .int .i64 0, .string ⟨#[]⟩]] W fun e w' => e = .returned (.tuple #[.string tt, .int .i64 c]) ∧ Below W.heap.size W w')) :
    Calls Try.prog 22 #[.string s] w fun e w' => ∃ v, e = .returned (.tuple #[v, .int .i64 13]) ∧ IsOb w' v (zOb 0) ∧ Below w.heap.size w w' := by
  have hne : (c != 0) = true := by simpa using hc
  clear hc
  obtain ⟨i0, hi, hz0, hz1, hz2⟩ := info_parts info45
  have g : ∀ z : Nat, z ≤ 65536 → z ≤ maxLen := fun z hz => Nat.le_trans hz (by decide)
  have NC := Lib.hid (fun W (hW : RfAt W (w.heap.size + 1) r1) => rfI_any _ r1 W hW (g _ h1) n r2 hC)
  have XT := Lib.hid (fun (q : Rd) (hq : q.1.size ≤ 65536) W (hW : RfAt W (w.heap.size + 1) q) a q' (hx : rfT q = (a, q')) => rfT_any _ q W hW (g _ hq) a q' hx)
  have XI := Lib.hid (fun (q : Rd) (hq : q.1.size ≤ 65536) W (hW : RfAt W (w.heap.size + 1) q) a q' (hx : rfI q = (a, q')) => rfI_any _ q W hW (g _ hq) a q' hx)
  have XD := Lib.hid (fun (q : Rd) (hq : q.1.size ≤ 65536) W (hW : RfAt W (w.heap.size + 1) q) a b q' (hx : rfD q = ((a, b), q')) => rfD_any _ q W hW (g _ hq) a b q' hx)
  have HP := Lib.hid hP
  clear hC hP h1 g
  have R0 := rx_fresh w s
  have IC : Hid (∀ W, RfAt W (w.heap.size + 1) (s, false) → Calls Try.prog 35 #[.pointer (some ⟨w.heap.size + 1, 0, none⟩)] W fun e w' => e = .returned (.int .i64 2) ∧ RfAt w' (w.heap.size + 1) r1 ∧ Only1 (w.heap.size + 1) W w') := Lib.hid fun W hW => rfI_any _ (s, false) W hW hm _ r1 hI
  clear hI
  go_enter Try.func22, Try.ntmps22
  go_wp2_with fail
  ((with_reducible refine (IC.out _ R0.rd).mono ?_); rintro e w2 ⟨rfl, hr1, ho1⟩)
  have R1 := R0.read hr1 ho1
  clear R0 hr1 ho1 IC
  have p0 := R1.at.1
  have f0 := R1.f 0
  have HR2 := Lib.hid (R1.setK 2)
  clear R1
  go_wp2_with fail
  ((with_reducible refine (NC.out _ HR2.out.rd).mono ?_); rintro e w4 ⟨rfl, hr5, ho5⟩)
  have HR4 := Lib.hid (HR2.out.read hr5 ho5)
  clear HR2 hr5 ho5 NC p0 f0
  go_wp2
  go_loopw [7] (fun s7 wr => ∃ (i : Nat) (A : List Ent) (q : Rd) (ve : Value), i ≤ n ∧ s7 = .int .i64 i ∧ Hid (rfXs (n - i) A q = (L, rl)) ∧ q.1.size ≤ 65536 ∧ A.length ≤ 65537 ∧ Hid (q.2 = false → A.length + q.1.size ≤ 65536) ∧ Hid (Rx w q 2 ⟨#[]⟩ ve 0 0 (.slice none 0 0) ⟨#[]⟩ 0 ⟨#[]⟩ wr) ∧ Hid (wr.ownsRow (w.heap.size + 1 + 1 + 1) 45 4 ve A.length (rowX A))) (fun i _ => n - (intOf i).toNat)
  case atStart => exact ⟨0, [], r2, _, Nat.zero_le _, rfl, HP, h2, Nat.zero_le _, Lib.hid (fun _ => by rw [List.length_nil, Nat.zero_add]; exact h2), HR4, Lib.hid (World.ownsRow_nil _ _ _ _)⟩
  case round =>
    obtain ⟨i, A, q, ve, hi2, rfl, HJ, hq, hA, HL, HR, HO⟩ := hrel
    clear HR4 HP h2
    have cq := HR.out.rd.c1
    by_cases hlt : i < n
    · cases hb2 : q.2 with
      | true =>
        have e := HJ.out
        rw [rfXs_stop _ _ _ (.inr hb2)] at e
        obtain ⟨rfl, rfl⟩ := Prod.mk.inj e
        rw [HB.out] at hb2
        cases hb2
      | false =>
        rw [hb2] at cq
        obtain ⟨m2, hm2⟩ : ∃ m2, n - i = m2 + 1 := ⟨n - i - 1, by omega⟩
        rw [hm2] at HJ
        have hroom := HL.out hb2
        obtain ⟨nm, qa, ha⟩ : ∃ x q', rfT q = (x, q') := ⟨_, _, rfl⟩
        have hqa := rfT_le q _ (Nat.le_refl _)
        rw [ha] at hqa
        simp only at hqa
        obtain ⟨mi, qb, hbb⟩ : ∃ x q', rfI qa = (x, q') := ⟨_, _, rfl⟩
        have hqb := rfI_le qa _ hqa
        rw [hbb] at hqb
        simp only at hqb
        obtain ⟨x, y, q', hx⟩ : ∃ x y q', rfD qb = ((x, y), q') := ⟨_, _, _, rfl⟩
        have hqc := rfD_le qb _ hqb
        rw [hx] at hqc
        simp only at hqc
        obtain ⟨z2, z1⟩ := hqc
        obtain ⟨dr, hdr⟩ : ∃ dr, decide (mi = 1) = dr := ⟨_, rfl⟩
        have e9 : ((mi : Int) == 1) = dr := by
          rw [← hdr]
          by_cases h1 : mi = 1
          · subst h1; rfl
          · rw [decide_eq_false h1]; simp; omega
        have HJ2 : Hid (rfXs m2 (A ++ [⟨nm, dr, (x, y)⟩]) q' = (L, rl)) := Lib.hid (by
          have := HJ.out
          rw [rfXs_step _ _ _ hb2] at this
          unfold rfX at this
          simp only [ha, hbb, hx, hdr] at this
          exact this)
        have T2 := Lib.hid (fun W (hW : RfAt W (w.heap.size + 1) q) => XT.out q hq W hW nm qa ha)
        have I2 := Lib.hid (fun W (hW : RfAt W (w.heap.size + 1) qa) => XI.out qa (by omega) W hW mi qb hbb)
        have D2 := Lib.hid (fun W (hW : RfAt W (w.heap.size + 1) qb) => XD.out qb (by omega) W hW x y q' hx)
        have EN : Hid (n - (i + 1) = m2) := Lib.hid (by omega)
        have Z1 : Hid (q'.2 = false → A.length + 1 + q'.1.size ≤ 65536) := Lib.hid (fun e => by have := z1 e; omega)
        have z3 : q'.1.size ≤ 65536 := by omega
        have z4 : A.length + 1 ≤ 65537 := by omega
        have HX : Hid (∀ k, ve.ownBlock = some k → k ≠ wr.heap.size) := Lib.hid (fun k hk => by have := (HO.out.lt k hk).2; omega)
        have lX := HR.out.lt
        clear HJ HL ha hbb hx hdr hm2 z1 z2 hb2 hqa hqb hroom hq XT XI XD
        have R5 := HR.out.on ((Below.refl _ _).alloc (Nat.le_refl _) (.cells #[.string ⟨#[]⟩, .bool false, .int .u64 0, .int .u64 0] 45))
        have E5 : EXat (wr.alloc (.cells #[.string ⟨#[]⟩, .bool false, .int .u64 0, .int .u64 0] 45)) wr.heap.size ⟨#[]⟩ false 0 0 := World.alloc_heap_new _ _
        have O5 := HO.out.alloc (.cells #[.string ⟨#[]⟩, .bool false, .int .u64 0, .int .u64 0] 45)
        go_wp2_with fail
        ((with_reducible refine (T2.out _ R5.rd).mono ?_); rintro e w5 ⟨rfl, hr5, ho5⟩)
        have R6 := R5.read hr5 ho5
        have E6 := E5.at1 ho5 (by omega)
        have O6 := own_mv (w' := w5) O5 (fun k hk hk2 => ho5.k k (by omega) hk2)
        clear R5 E5 O5 hr5 ho5 cq
        obtain ⟨x0, -, -, -⟩ := E6.c
        have xf0 := E6.f 0
        have R7 := R6.other lX 0 (.string nm)
        have E7 := E6.set0 nm
        have O7 := own_mv2 (w' := w5.setCell ⟨wr.heap.size, 0, none⟩ (.string nm)) O6 HX.out (fun k _ _ hne => Below.heap_setCell w5 ⟨wr.heap.size, 0, none⟩ _ k hne)
        clear R6 E6 O6
        go_wp2_with fail
        ((with_reducible refine (I2.out _ R7.rd).mono ?_); rintro e w6 ⟨rfl, hr5, ho5⟩)
        have R8 := R7.read hr5 ho5
        have E8 := E7.at1 ho5 (by omega)
        have O8 := own_mv (w' := w6) O7 (fun k hk hk2 => ho5.k k (by omega) hk2)
        clear R7 E7 O7 hr5 ho5 x0 xf0
        obtain ⟨-, x1, -, -⟩ := E8.c
        have xf1 := E8.f 1
        have R9 := R8.other lX 1 (.bool dr)
        have E9 := E8.set1 dr
        have O9 := own_mv2 (w' := w6.setCell ⟨wr.heap.size, 1, none⟩ (.bool dr)) O8 HX.out (fun k _ _ hne => Below.heap_setCell w6 ⟨wr.heap.size, 1, none⟩ _ k hne)
        clear R8 E8 O8
        go_wp2_with fail
        ((with_reducible refine (D2.out _ R9.rd).mono ?_); rintro e w7 ⟨rfl, hr5, ho5⟩)
        have R10 := R9.read hr5 ho5
        have E10 := E9.at1 ho5 (by omega)
        have O10 := own_mv (w' := w7) O9 (fun k hk hk2 => ho5.k k (by omega) hk2)
        clear R9 E9 O9 hr5 ho5 x1 xf1
        obtain ⟨-, -, x2, x3⟩ := E10.c
        have xf2 := E10.f 2
        have xf3 := E10.f 3
        obtain ⟨w8, hw8⟩ : ∃ w8, (w7.setCell ⟨wr.heap.size, 2, none⟩ (.int .u64 x)).setCell ⟨wr.heap.size, 3, none⟩ (.int .u64 y) = w8 := ⟨_, rfl⟩
        have R11 := Lib.hid ((R10.other lX 2 (.int .u64 x)).other lX 3 (.int .u64 y))
        have E11 := Lib.hid ((E10.set2 x).set3 y)
        have O11 := Lib.hid (own_mv2 (w' := (w7.setCell ⟨wr.heap.size, 2, none⟩ (.int .u64 x)).setCell ⟨wr.heap.size, 3, none⟩ (.int .u64 y)) O10 HX.out (fun k _ _ hne => (Below.heap_setCell _ ⟨wr.heap.size, 3, none⟩ _ k hne).trans (Below.heap_setCell w7 ⟨wr.heap.size, 2, none⟩ _ k hne)))
        rw [hw8] at R11 E11 O11
        have HW := Lib.hid hw8
        clear R10 E10 O10 hw8
        go_upto_region 15 with fail
        rw [HW.out]
        clear x2 x3 xf2 xf3 HW
        have y2 := R11.out.at.2.2.1
        obtain ⟨x0, x1, x2, x3⟩ := E11.out.c
        have l11 := R11.out.lt
        go_wp2_with (at_builtin; refine wpList_append_own _ rfl _ _ 22 rfl (w.heap.size + 1 + 1 + 1) 45 i0 (.agg #[.string ⟨#[]⟩, .bool false, .int .u64 0, .int .u64 0]) 4 40 Try.underlying22 hi hz0 hz1 hz2 rfl (by decide) _ A.length (rowX A) rfl (O11.out.alloc _) ⟨w8.heap.size, 0, none⟩ 1 1 [.string nm, .bool dr, .int .u64 x, .int .u64 y] rfl rfl (four_ent w8 _ rfl nm dr x y _) (ent_one nm dr x y) (by unfold maxLen; omega) (by omega) (by simp; omega) ?_)
        intro v' w9 hown hgrow _
        have R12 := Rx.grown (R11.out.on ((Below.refl _ _).alloc (Nat.le_refl _) (.cells #[.string nm, .bool dr, .int .u64 x, .int .u64 y] 45))) hgrow (fun k e => (O11.out.lt k e).1)
        obtain ⟨a7, n7, c7, rfl⟩ := own_form hown
        have y9 := R12.at.2.2.1
        have yf9 := R12.f 2
        have R13 := Lib.hid (R12.setE (.slice a7 n7 c7))
        have O13 := Lib.hid (own_mv (w' := w9.setCell ⟨w.heap.size + 1 + 1, 2, none⟩ (.slice a7 n7 c7)) hown (fun k hk _ => Below.heap_setCell w9 ⟨w.heap.size + 1 + 1, 2, none⟩ _ k (show k ≠ w.heap.size + 1 + 1 by omega)))
        clear hown hgrow R12 R11 E11 O11 x0 x1 x2 x3 y2
        go_wp2
        go_roundw
        case rel => exact ⟨i + 1, A ++ [⟨nm, dr, (x, y)⟩], q', _, by omega, by go_num, Lib.hid (by rw [EN.out]; exact HJ2.out), z3, by rw [List.length_append]; exact z4, Lib.hid (fun e => by have := Z1.out e; rw [List.length_append]; exact this), R13, Lib.hid (by rw [rowX_snoc, List.length_append]; exact O13.out)⟩
        case measure => simp [intOf]; omega
    · have e := HJ.out
      rw [rfXs_stop _ _ _ (.inl (by omega))] at e
      obtain ⟨rfl, rfl⟩ := Prod.mk.inj e
      clear HJ e HL
      obtain ⟨a5, n5, c5, rfl⟩ := own_form HO.out
      have y2 := HR.out.at.2.2.1
      go_upto_region 26 with fail
      clear y2 cq
      obtain ⟨q0, q1, q2, q3, q4, q5, q6, q7, q8⟩ : wr.cell? ⟨w.heap.size + 1 + 1, 0, none⟩ = some (.int .i64 2) ∧ wr.cell? ⟨w.heap.size + 1 + 1, 1, none⟩ = some (.string ⟨#[]⟩) ∧ wr.cell? ⟨w.heap.size + 1 + 1, 2, none⟩ = some (.slice a5 n5 c5) ∧ wr.cell? ⟨w.heap.size + 1 + 1, 3, none⟩ = some (.int .u64 0) ∧ wr.cell? ⟨w.heap.size + 1 + 1, 4, none⟩ = some (.int .u64 0) ∧ wr.cell? ⟨w.heap.size + 1 + 1, 5, none⟩ = some (.slice none 0 0) ∧ wr.cell? ⟨w.heap.size + 1 + 1, 6, none⟩ = some (.string ⟨#[]⟩) ∧ wr.cell? ⟨w.heap.size + 1 + 1, 7, none⟩ = some (.int .i64 0) ∧ wr.cell? ⟨w.heap.size + 1 + 1, 8, none⟩ = some (.string ⟨#[]⟩) := HR.out.at
      go_wp2_with fail
      ((with_reducible refine (HF.out _ _ HO.out).mono ?_); rintro e w9 ⟨rfl, hb9⟩)
      have HR9 := Lib.hid (HR.out.on hb9)
      have HO9 := Lib.hid (own_mv (w' := w9) HO.out (fun k _ h => hb9.block k h))
      clear q0 q1 q2 q3 q4 q5 q6 q7 q8 hb9
      obtain ⟨q0, q1, q2, q3, q4, q5, q6, q7, q8⟩ : w9.cell? ⟨w.heap.size + 1 + 1, 0, none⟩ = some (.int .i64 2) ∧ w9.cell? ⟨w.heap.size + 1 + 1, 1, none⟩ = some (.string ⟨#[]⟩) ∧ w9.cell? ⟨w.heap.size + 1 + 1, 2, none⟩ = some (.slice a5 n5 c5) ∧ w9.cell? ⟨w.heap.size + 1 + 1, 3, none⟩ = some (.int .u64 0) ∧ w9.cell? ⟨w.heap.size + 1 + 1, 4, none⟩ = some (.int .u64 0) ∧ w9.cell? ⟨w.heap.size + 1 + 1, 5, none⟩ = some (.slice none 0 0) ∧ w9.cell? ⟨w.heap.size + 1 + 1, 6, none⟩ = some (.string ⟨#[]⟩) ∧ w9.cell? ⟨w.heap.size + 1 + 1, 7, none⟩ = some (.int .i64 0) ∧ w9.cell? ⟨w.heap.size + 1 + 1, 8, none⟩ = some (.string ⟨#[]⟩) := HR9.out.at
      have cb : w9.cell? ⟨w.heap.size + 1, 1, none⟩ = some (.bool false) := by have e := HR9.out.rd.c1; rw [HB.out] at e; exact e
      obtain ⟨d0, d1, d2, d3, d4, d5, d6, d7, d8⟩ := HR9.out.dc.nine
      obtain ⟨f0, f1, f2, f3, f4, f5, f6, f7, f8⟩ := HR9.out.dc.f
      have hb := set9_below HR9.out.b (.int .i64 0) (.string ⟨#[]⟩) (.slice none 0 0) (.int .u64 0) (.int .u64 0) (.slice none 0 0) (.string ⟨#[]⟩) (.int .i64 0) (.string ⟨#[]⟩)
      go_wp2
      exact bodyPost_ret (v := .tuple #[.agg #[.int .i64 0, .string ⟨#[]⟩, .slice none 0 0, .int .u64 0, .int .u64 0, .slice none 0 0, .string ⟨#[]⟩, .int .i64 0, .string ⟨#[]⟩], .int .i64 13]) (by simp [results, Try.results22, go_sem, d0, d1, d2, d3, d4, d5, d6, d7, d8, World.cell?_setCell_other, World.cell?_setCell_same']) rfl ⟨_, rfl, isOb_zero _, hb⟩

set_option maxRecDepth 100000 in
set_option maxHeartbeats 16000000 in
theorem rdec2_dif (s : BA) (hm : s.size ≤ maxLen) (w : World) (r1 : Rd) (hI : rfI (s, false) = (2, r1)) (h1 : r1.1.size ≤ 65536) (n : Nat) (r2 : Rd) (hC : rfI r1 = (n, r2)) (hn : n ≤ 1099511627776) (h2 : r2.1.size ≤ 65536) (L : List Ent) (rl : Rd) (hP : rfXs n [] r2 = (L, rl)) (HB : Hid (rl.2 = false)) (tt : BA) (hdif : tt ≠ s)
    (HF : Hid (∀ W (ve : Value), W.ownsRow (w.heap.size + 1 + 1 + 1) 45 4 ve L.length (rowX L) → Calls Try.prog 18 #[.agg #[.int .i64 2, .string ⟨#[]⟩, ve, .int .u64 0, .int .u64 0, .slice none 0 0, .string ⟨#[]⟩, .int .i64 0, .string ⟨#[]⟩]] W fun e w' => e = .returned (.tuple #[.string tt, .int .i64 0]) ∧ Below W.heap.size W w')) :
    Calls Try.prog 22 #[.string s] w fun e w' => ∃ v, e = .returned (.tuple #[v, .int .i64 13]) ∧ IsOb w' v (zOb 0) ∧ Below w.heap.size w w' := by
  have hne : (tt.toList == s.toList) = false := by rw [str_eq]; simpa using hdif
  clear hdif
  obtain ⟨i0, hi, hz0, hz1, hz2⟩ := info_parts info45
  have g : ∀ z : Nat, z ≤ 65536 → z ≤ maxLen := fun z hz => Nat.le_trans hz (by decide)
  have NC := Lib.hid (fun W (hW : RfAt W (w.heap.size + 1) r1) => rfI_any _ r1 W hW (g _ h1) n r2 hC)
  have XT := Lib.hid (fun (q : Rd) (hq : q.1.size ≤ 65536) W (hW : RfAt W (w.heap.size + 1) q) a q' (hx : rfT q = (a, q')) => rfT_any _ q W hW (g _ hq) a q' hx)
  have XI := Lib.hid (fun (q : Rd) (hq : q.1.size ≤ 65536) W (hW : RfAt W (w.heap.size + 1) q) a q' (hx : rfI q = (a, q')) => rfI_any _ q W hW (g _ hq) a q' hx)
  have XD := Lib.hid (fun (q : Rd) (hq : q.1.size ≤ 65536) W (hW : RfAt W (w.heap.size + 1) q) a b q' (hx : rfD q = ((a, b), q')) => rfD_any _ q W hW (g _ hq) a b q' hx)
  have HP := Lib.hid hP
  clear hC hP h1 g
  have R0 := rx_fresh w s
  have IC : Hid (∀ W, RfAt W (w.heap.size + 1) (s, false) → Calls Try.prog 35 #[.pointer (some ⟨w.heap.size + 1, 0, none⟩)] W fun e w' => e = .returned (.int .i64 2) ∧ RfAt w' (w.heap.size + 1) r1 ∧ Only1 (w.heap.size + 1) W w') := Lib.hid fun W hW => rfI_any _ (s, false) W hW hm _ r1 hI
  clear hI
  go_enter Try.func22, Try.ntmps22
  go_wp2_with fail
  ((with_reducible refine (IC.out _ R0.rd).mono ?_); rintro e w2 ⟨rfl, hr1, ho1⟩)
  have R1 := R0.read hr1 ho1
  clear R0 hr1 ho1 IC
  have p0 := R1.at.1
  have f0 := R1.f 0
  have HR2 := Lib.hid (R1.setK 2)
  clear R1
  go_wp2_with fail
  ((with_reducible refine (NC.out _ HR2.out.rd).mono ?_); rintro e w4 ⟨rfl, hr5, ho5⟩)
  have HR4 := Lib.hid (HR2.out.read hr5 ho5)
  clear HR2 hr5 ho5 NC p0 f0
  go_wp2
  go_loopw [7] (fun s7 wr => ∃ (i : Nat) (A : List Ent) (q : Rd) (ve : Value), i ≤ n ∧ s7 = .int .i64 i ∧ Hid (rfXs (n - i) A q = (L, rl)) ∧ q.1.size ≤ 65536 ∧ A.length ≤ 65537 ∧ Hid (q.2 = false → A.length + q.1.size ≤ 65536) ∧ Hid (Rx w q 2 ⟨#[]⟩ ve 0 0 (.slice none 0 0) ⟨#[]⟩ 0 ⟨#[]⟩ wr) ∧ Hid (wr.ownsRow (w.heap.size + 1 + 1 + 1) 45 4 ve A.length (rowX A))) (fun i _ => n - (intOf i).toNat)
  case atStart => exact ⟨0, [], r2, _, Nat.zero_le _, rfl, HP, h2, Nat.zero_le _, Lib.hid (fun _ => by rw [List.length_nil, Nat.zero_add]; exact h2), HR4, Lib.hid (World.ownsRow_nil _ _ _ _)⟩
  case round =>
    obtain ⟨i, A, q, ve, hi2, rfl, HJ, hq, hA, HL, HR, HO⟩ := hrel
    clear HR4 HP h2
    have cq := HR.out.rd.c1
    by_cases hlt : i < n
    · cases hb2 : q.2 with
      | true =>
        have e := HJ.out
        rw [rfXs_stop _ _ _ (.inr hb2)] at e
        obtain ⟨rfl, rfl⟩ := Prod.mk.inj e
        rw [HB.out] at hb2
        cases hb2
      | false =>
        rw [hb2] at cq
        obtain ⟨m2, hm2⟩ : ∃ m2, n - i = m2 + 1 := ⟨n - i - 1, by omega⟩
        rw [hm2] at HJ
        have hroom := HL.out hb2
        obtain ⟨nm, qa, ha⟩ : ∃ x q', rfT q = (x, q') := ⟨_, _, rfl⟩
        have hqa := rfT_le q _ (Nat.le_refl _)
        rw [ha] at hqa
        simp only at hqa
        obtain ⟨mi, qb, hbb⟩ : ∃ x q', rfI qa = (x, q') := ⟨_, _, rfl⟩
        have hqb := rfI_le qa _ hqa
        rw [hbb] at hqb
        simp only at hqb
        obtain ⟨x, y, q', hx⟩ : ∃ x y q', rfD qb = ((x, y), q') := ⟨_, _, _, rfl⟩
        have hqc := rfD_le qb _ hqb
        rw [hx] at hqc
        simp only at hqc
        obtain ⟨z2, z1⟩ := hqc
        obtain ⟨dr, hdr⟩ : ∃ dr, decide (mi = 1) = dr := ⟨_, rfl⟩
        have e9 : ((mi : Int) == 1) = dr := by
          rw [← hdr]
          by_cases h1 : mi = 1
          · subst h1; rfl
          · rw [decide_eq_false h1]; simp; omega
        have HJ2 : Hid (rfXs m2 (A ++ [⟨nm, dr, (x, y)⟩]) q' = (L, rl)) := Lib.hid (by
          have := HJ.out
          rw [rfXs_step _ _ _ hb2] at this
          unfold rfX at this
          simp only [ha, hbb, hx, hdr] at this
          exact this)
        have T2 := Lib.hid (fun W (hW : RfAt W (w.heap.size + 1) q) => XT.out q hq W hW nm qa ha)
        have I2 := Lib.hid (fun W (hW : RfAt W (w.heap.size + 1) qa) => XI.out qa (by omega) W hW mi qb hbb)
        have D2 := Lib.hid (fun W (hW : RfAt W (w.heap.size + 1) qb) => XD.out qb (by omega) W hW x y q' hx)
        have EN : Hid (n - (i + 1) = m2) := Lib.hid (by omega)
        have Z1 : Hid (q'.2 = false → A.length + 1 + q'.1.size ≤ 65536) := Lib.hid (fun e => by have := z1 e; omega)
        have z3 : q'.1.size ≤ 65536 := by omega
        have z4 : A.length + 1 ≤ 65537 := by omega
        have HX : Hid (∀ k, ve.ownBlock = some k → k ≠ wr.heap.size) := Lib.hid (fun k hk => by have := (HO.out.lt k hk).2; omega)
        have lX := HR.out.lt
        clear HJ HL ha hbb hx hdr hm2 z1 z2 hb2 hqa hqb hroom hq XT XI XD
        have R5 := HR.out.on ((Below.refl _ _).alloc (Nat.le_refl _) (.cells #[.string ⟨#[]⟩, .bool false, .int .u64 0, .int .u64 0] 45))
        have E5 : EXat (wr.alloc (.cells #[.string ⟨#[]⟩, .bool false, .int .u64 0, .int .u64 0] 45)) wr.heap.size ⟨#[]⟩ false 0 0 := World.alloc_heap_new _ _
        have O5 := HO.out.alloc (.cells #[.string ⟨#[]⟩, .bool false, .int .u64 0, .int .u64 0] 45)
        go_wp2_with fail
        ((with_reducible refine (T2.out _ R5.rd).mono ?_); rintro e w5 ⟨rfl, hr5, ho5⟩)
        have R6 := R5.read hr5 ho5
        have E6 := E5.at1 ho5 (by omega)
        have O6 := own_mv (w' := w5) O5 (fun k hk hk2 => ho5.k k (by omega) hk2)
        clear R5 E5 O5 hr5 ho5 cq
        obtain ⟨x0, -, -, -⟩ := E6.c
        have xf0 := E6.f 0
        have R7 := R6.other lX 0 (.string nm)
        have E7 := E6.set0 nm
        have O7 := own_mv2 (w' := w5.setCell ⟨wr.heap.size, 0, none⟩ (.string nm)) O6 HX.out (fun k _ _ hne => Below.heap_setCell w5 ⟨wr.heap.size, 0, none⟩ _ k hne)
        clear R6 E6 O6
        go_wp2_with fail
        ((with_reducible refine (I2.out _ R7.rd).mono ?_); rintro e w6 ⟨rfl, hr5, ho5⟩)
        have R8 := R7.read hr5 ho5
        have E8 := E7.at1 ho5 (by omega)
        have O8 := own_mv (w' := w6) O7 (fun k hk hk2 => ho5.k k (by omega) hk2)
        clear R7 E7 O7 hr5 ho5 x0 xf0
        obtain ⟨-, x1, -, -⟩ := E8.c
        have xf1 := E8.f 1
        have R9 := R8.other lX 1 (.bool dr)
        have E9 := E8.set1 dr
        have O9 := own_mv2 (w' := w6.setCell ⟨wr.heap.size, 1, none⟩ (.bool dr)) O8 HX.out (fun k _ _ hne => Below.heap_setCell w6 ⟨wr.heap.size, 1, none⟩ _ k hne)
        clear R8 E8 O8
        go_wp2_with fail
        ((with_reducible refine (D2.out _ R9.rd).mono ?_); rintro e w7 ⟨rfl, hr5, ho5⟩)
        have R10 := R9.read hr5 ho5
        have E10 := E9.at1 ho5 (by omega)
        have O10 := own_mv (w' := w7) O9 (fun k hk hk2 => ho5.k k (by omega) hk2)
        clear R9 E9 O9 hr5 ho5 x1 xf1
        obtain ⟨-, -, x2, x3⟩ := E10.c
        have xf2 := E10.f 2
        have xf3 := E10.f 3
        obtain ⟨w8, hw8⟩ : ∃ w8, (w7.setCell ⟨wr.heap.size, 2, none⟩ (.int .u64 x)).setCell ⟨wr.heap.size, 3, none⟩ (.int .u64 y) = w8 := ⟨_, rfl⟩
        have R11 := Lib.hid ((R10.other lX 2 (.int .u64 x)).other lX 3 (.int .u64 y))
        have E11 := Lib.hid ((E10.set2 x).set3 y)
        have O11 := Lib.hid (own_mv2 (w' := (w7.setCell ⟨wr.heap.size, 2, none⟩ (.int .u64 x)).setCell ⟨wr.heap.size, 3, none⟩ (.int .u64 y)) O10 HX.out (fun k _ _ hne => (Below.heap_setCell _ ⟨wr.heap.size, 3, none⟩ _ k hne).trans (Below.heap_setCell w7 ⟨wr.heap.size, 2, none⟩ _ k hne)))
        rw [hw8] at R11 E11 O11
        have HW := Lib.hid hw8
        clear R10 E10 O10 hw8
        go_upto_region 15 with fail
        rw [HW.out]
        clear x2 x3 xf2 xf3 HW
        have y2 := R11.out.at.2.2.1
        obtain ⟨x0, x1, x2, x3⟩ := E11.out.c
        have l11 := R11.out.lt
        go_wp2_with (at_builtin; refine wpList_append_own _ rfl _ _ 22 rfl (w.heap.size + 1 + 1 + 1) 45 i0 (.agg #[.string ⟨#[]⟩, .bool false, .int .u64 0, .int .u64 0]) 4 40 Try.underlying22 hi hz0 hz1 hz2 rfl (by decide) _ A.length (rowX A) rfl (O11.out.alloc _) ⟨w8.heap.size, 0, none⟩ 1 1 [.string nm, .bool dr, .int .u64 x, .int .u64 y] rfl rfl (four_ent w8 _ rfl nm dr x y _) (ent_one nm dr x y) (by unfold maxLen; omega) (by omega) (by simp; omega) ?_)
        intro v' w9 hown hgrow _
        have R12 := Rx.grown (R11.out.on ((Below.refl _ _).alloc (Nat.le_refl _) (.cells #[.string nm, .bool dr, .int .u64 x, .int .u64 y] 45))) hgrow (fun k e => (O11.out.lt k e).1)
        obtain ⟨a7, n7, c7, rfl⟩ := own_form hown
        have y9 := R12.at.2.2.1
        have yf9 := R12.f 2
        have R13 := Lib.hid (R12.setE (.slice a7 n7 c7))
        have O13 := Lib.hid (own_mv (w' := w9.setCell ⟨w.heap.size + 1 + 1, 2, none⟩ (.slice a7 n7 c7)) hown (fun k hk _ => Below.heap_setCell w9 ⟨w.heap.size + 1 + 1, 2, none⟩ _ k (show k ≠ w.heap.size + 1 + 1 by omega)))
        clear hown hgrow R12 R11 E11 O11 x0 x1 x2 x3 y2
        go_wp2
        go_roundw
        case rel => exact ⟨i + 1, A ++ [⟨nm, dr, (x, y)⟩], q', _, by omega, by go_num, Lib.hid (by rw [EN.out]; exact HJ2.out), z3, by rw [List.length_append]; exact z4, Lib.hid (fun e => by have := Z1.out e; rw [List.length_append]; exact this), R13, Lib.hid (by rw [rowX_snoc, List.length_append]; exact O13.out)⟩
        case measure => simp [intOf]; omega
    · have e := HJ.out
      rw [rfXs_stop _ _ _ (.inl (by omega))] at e
      obtain ⟨rfl, rfl⟩ := Prod.mk.inj e
      clear HJ e HL
      obtain ⟨a5, n5, c5, rfl⟩ := own_form HO.out
      have y2 := HR.out.at.2.2.1
      go_upto_region 26 with fail
      clear y2 cq
      obtain ⟨q0, q1, q2, q3, q4, q5, q6, q7, q8⟩ : wr.cell? ⟨w.heap.size + 1 + 1, 0, none⟩ = some (.int .i64 2) ∧ wr.cell? ⟨w.heap.size + 1 + 1, 1, none⟩ = some (.string ⟨#[]⟩) ∧ wr.cell? ⟨w.heap.size + 1 + 1, 2, none⟩ = some (.slice a5 n5 c5) ∧ wr.cell? ⟨w.heap.size + 1 + 1, 3, none⟩ = some (.int .u64 0) ∧ wr.cell? ⟨w.heap.size + 1 + 1, 4, none⟩ = some (.int .u64 0) ∧ wr.cell? ⟨w.heap.size + 1 + 1, 5, none⟩ = some (.slice none 0 0) ∧ wr.cell? ⟨w.heap.size + 1 + 1, 6, none⟩ = some (.string ⟨#[]⟩) ∧ wr.cell? ⟨w.heap.size + 1 + 1, 7, none⟩ = some (.int .i64 0) ∧ wr.cell? ⟨w.heap.size + 1 + 1, 8, none⟩ = some (.string ⟨#[]⟩) := HR.out.at
      go_wp2_with fail
      ((with_reducible refine (HF.out _ _ HO.out).mono ?_); rintro e w9 ⟨rfl, hb9⟩)
      have HR9 := Lib.hid (HR.out.on hb9)
      have HO9 := Lib.hid (own_mv (w' := w9) HO.out (fun k _ h => hb9.block k h))
      clear q0 q1 q2 q3 q4 q5 q6 q7 q8 hb9
      obtain ⟨q0, q1, q2, q3, q4, q5, q6, q7, q8⟩ : w9.cell? ⟨w.heap.size + 1 + 1, 0, none⟩ = some (.int .i64 2) ∧ w9.cell? ⟨w.heap.size + 1 + 1, 1, none⟩ = some (.string ⟨#[]⟩) ∧ w9.cell? ⟨w.heap.size + 1 + 1, 2, none⟩ = some (.slice a5 n5 c5) ∧ w9.cell? ⟨w.heap.size + 1 + 1, 3, none⟩ = some (.int .u64 0) ∧ w9.cell? ⟨w.heap.size + 1 + 1, 4, none⟩ = some (.int .u64 0) ∧ w9.cell? ⟨w.heap.size + 1 + 1, 5, none⟩ = some (.slice none 0 0) ∧ w9.cell? ⟨w.heap.size + 1 + 1, 6, none⟩ = some (.string ⟨#[]⟩) ∧ w9.cell? ⟨w.heap.size + 1 + 1, 7, none⟩ = some (.int .i64 0) ∧ w9.cell? ⟨w.heap.size + 1 + 1, 8, none⟩ = some (.string ⟨#[]⟩) := HR9.out.at
      have cb : w9.cell? ⟨w.heap.size + 1, 1, none⟩ = some (.bool false) := by have e := HR9.out.rd.c1; rw [HB.out] at e; exact e
      obtain ⟨d0, d1, d2, d3, d4, d5, d6, d7, d8⟩ := HR9.out.dc.nine
      obtain ⟨f0, f1, f2, f3, f4, f5, f6, f7, f8⟩ := HR9.out.dc.f
      have hb := set9_below HR9.out.b (.int .i64 0) (.string ⟨#[]⟩) (.slice none 0 0) (.int .u64 0) (.int .u64 0) (.slice none 0 0) (.string ⟨#[]⟩) (.int .i64 0) (.string ⟨#[]⟩)
      go_wp2
      exact bodyPost_ret (v := .tuple #[.agg #[.int .i64 0, .string ⟨#[]⟩, .slice none 0 0, .int .u64 0, .int .u64 0, .slice none 0 0, .string ⟨#[]⟩, .int .i64 0, .string ⟨#[]⟩], .int .i64 13]) (by simp [results, Try.results22, go_sem, d0, d1, d2, d3, d4, d5, d6, d7, d8, World.cell?_setCell_other, World.cell?_setCell_same']) rfl ⟨_, rfl, isOb_zero _, hb⟩

set_option maxRecDepth 100000 in
set_option maxHeartbeats 16000000 in
theorem rdec2_ok (s : BA) (hm : s.size ≤ maxLen) (w : World) (r1 : Rd) (hI : rfI (s, false) = (2, r1)) (h1 : r1.1.size ≤ 65536) (n : Nat) (r2 : Rd) (hC : rfI r1 = (n, r2)) (hn : n ≤ 1099511627776) (h2 : r2.1.size ≤ 65536) (L : List Ent) (rl : Rd) (hP : rfXs n [] r2 = (L, rl)) (HB : Hid (rl.2 = false))
    (HF : Hid (∀ W (ve : Value), W.ownsRow (w.heap.size + 1 + 1 + 1) 45 4 ve L.length (rowX L) → Calls Try.prog 18 #[.agg #[.int .i64 2, .string ⟨#[]⟩, ve, .int .u64 0, .int .u64 0, .slice none 0 0, .string ⟨#[]⟩, .int .i64 0, .string ⟨#[]⟩]] W fun e w' => e = .returned (.tuple #[.string s, .int .i64 0]) ∧ Below W.heap.size W w')) :
    Calls Try.prog 22 #[.string s] w fun e w' => ∃ v, e = .returned (.tuple #[v, .int .i64 0]) ∧ IsOb w' v (⟨2, ⟨#[]⟩, L, (0, 0), [], ⟨#[]⟩, 0, ⟨#[]⟩⟩) ∧ Below w.heap.size w w' := by
  have hss : (s.toList == s.toList) = true := by simp
  obtain ⟨i0, hi, hz0, hz1, hz2⟩ := info_parts info45
  have g : ∀ z : Nat, z ≤ 65536 → z ≤ maxLen := fun z hz => Nat.le_trans hz (by decide)
  have NC := Lib.hid (fun W (hW : RfAt W (w.heap.size + 1) r1) => rfI_any _ r1 W hW (g _ h1) n r2 hC)
  have XT := Lib.hid (fun (q : Rd) (hq : q.1.size ≤ 65536) W (hW : RfAt W (w.heap.size + 1) q) a q' (hx : rfT q = (a, q')) => rfT_any _ q W hW (g _ hq) a q' hx)
  have XI := Lib.hid (fun (q : Rd) (hq : q.1.size ≤ 65536) W (hW : RfAt W (w.heap.size + 1) q) a q' (hx : rfI q = (a, q')) => rfI_any _ q W hW (g _ hq) a q' hx)
  have XD := Lib.hid (fun (q : Rd) (hq : q.1.size ≤ 65536) W (hW : RfAt W (w.heap.size + 1) q) a b q' (hx : rfD q = ((a, b), q')) => rfD_any _ q W hW (g _ hq) a b q' hx)
  have HP := Lib.hid hP
  clear hC hP h1 g
  have R0 := rx_fresh w s
  have IC : Hid (∀ W, RfAt W (w.heap.size + 1) (s, false) → Calls Try.prog 35 #[.pointer (some ⟨w.heap.size + 1, 0, none⟩)] W fun e w' => e = .returned (.int .i64 2) ∧ RfAt w' (w.heap.size + 1) r1 ∧ Only1 (w.heap.size + 1) W w') := Lib.hid fun W hW => rfI_any _ (s, false) W hW hm _ r1 hI
  clear hI
  go_enter Try.func22, Try.ntmps22
  go_wp2_with fail
  ((with_reducible refine (IC.out _ R0.rd).mono ?_); rintro e w2 ⟨rfl, hr1, ho1⟩)
  have R1 := R0.read hr1 ho1
  clear R0 hr1 ho1 IC
  have p0 := R1.at.1
  have f0 := R1.f 0
  have HR2 := Lib.hid (R1.setK 2)
  clear R1
  go_wp2_with fail
  ((with_reducible refine (NC.out _ HR2.out.rd).mono ?_); rintro e w4 ⟨rfl, hr5, ho5⟩)
  have HR4 := Lib.hid (HR2.out.read hr5 ho5)
  clear HR2 hr5 ho5 NC p0 f0
  go_wp2
  go_loopw [7] (fun s7 wr => ∃ (i : Nat) (A : List Ent) (q : Rd) (ve : Value), i ≤ n ∧ s7 = .int .i64 i ∧ Hid (rfXs (n - i) A q = (L, rl)) ∧ q.1.size ≤ 65536 ∧ A.length ≤ 65537 ∧ Hid (q.2 = false → A.length + q.1.size ≤ 65536) ∧ Hid (Rx w q 2 ⟨#[]⟩ ve 0 0 (.slice none 0 0) ⟨#[]⟩ 0 ⟨#[]⟩ wr) ∧ Hid (wr.ownsRow (w.heap.size + 1 + 1 + 1) 45 4 ve A.length (rowX A))) (fun i _ => n - (intOf i).toNat)
  case atStart => exact ⟨0, [], r2, _, Nat.zero_le _, rfl, HP, h2, Nat.zero_le _, Lib.hid (fun _ => by rw [List.length_nil, Nat.zero_add]; exact h2), HR4, Lib.hid (World.ownsRow_nil _ _ _ _)⟩
  case round =>
    obtain ⟨i, A, q, ve, hi2, rfl, HJ, hq, hA, HL, HR, HO⟩ := hrel
    clear HR4 HP h2
    have cq := HR.out.rd.c1
    by_cases hlt : i < n
    · cases hb2 : q.2 with
      | true =>
        have e := HJ.out
        rw [rfXs_stop _ _ _ (.inr hb2)] at e
        obtain ⟨rfl, rfl⟩ := Prod.mk.inj e
        rw [HB.out] at hb2
        cases hb2
      | false =>
        rw [hb2] at cq
        obtain ⟨m2, hm2⟩ : ∃ m2, n - i = m2 + 1 := ⟨n - i - 1, by omega⟩
        rw [hm2] at HJ
        have hroom := HL.out hb2
        obtain ⟨nm, qa, ha⟩ : ∃ x q', rfT q = (x, q') := ⟨_, _, rfl⟩
        have hqa := rfT_le q _ (Nat.le_refl _)
        rw [ha] at hqa
        simp only at hqa
        obtain ⟨mi, qb, hbb⟩ : ∃ x q', rfI qa = (x, q') := ⟨_, _, rfl⟩
        have hqb := rfI_le qa _ hqa
        rw [hbb] at hqb
        simp only at hqb
        obtain ⟨x, y, q', hx⟩ : ∃ x y q', rfD qb = ((x, y), q') := ⟨_, _, _, rfl⟩
        have hqc := rfD_le qb _ hqb
        rw [hx] at hqc
        simp only at hqc
        obtain ⟨z2, z1⟩ := hqc
        obtain ⟨dr, hdr⟩ : ∃ dr, decide (mi = 1) = dr := ⟨_, rfl⟩
        have e9 : ((mi : Int) == 1) = dr := by
          rw [← hdr]
          by_cases h1 : mi = 1
          · subst h1; rfl
          · rw [decide_eq_false h1]; simp; omega
        have HJ2 : Hid (rfXs m2 (A ++ [⟨nm, dr, (x, y)⟩]) q' = (L, rl)) := Lib.hid (by
          have := HJ.out
          rw [rfXs_step _ _ _ hb2] at this
          unfold rfX at this
          simp only [ha, hbb, hx, hdr] at this
          exact this)
        have T2 := Lib.hid (fun W (hW : RfAt W (w.heap.size + 1) q) => XT.out q hq W hW nm qa ha)
        have I2 := Lib.hid (fun W (hW : RfAt W (w.heap.size + 1) qa) => XI.out qa (by omega) W hW mi qb hbb)
        have D2 := Lib.hid (fun W (hW : RfAt W (w.heap.size + 1) qb) => XD.out qb (by omega) W hW x y q' hx)
        have EN : Hid (n - (i + 1) = m2) := Lib.hid (by omega)
        have Z1 : Hid (q'.2 = false → A.length + 1 + q'.1.size ≤ 65536) := Lib.hid (fun e => by have := z1 e; omega)
        have z3 : q'.1.size ≤ 65536 := by omega
        have z4 : A.length + 1 ≤ 65537 := by omega
        have HX : Hid (∀ k, ve.ownBlock = some k → k ≠ wr.heap.size) := Lib.hid (fun k hk => by have := (HO.out.lt k hk).2; omega)
        have lX := HR.out.lt
        clear HJ HL ha hbb hx hdr hm2 z1 z2 hb2 hqa hqb hroom hq XT XI XD
        have R5 := HR.out.on ((Below.refl _ _).alloc (Nat.le_refl _) (.cells #[.string ⟨#[]⟩, .bool false, .int .u64 0, .int .u64 0] 45))
        have E5 : EXat (wr.alloc (.cells #[.string ⟨#[]⟩, .bool false, .int .u64 0, .int .u64 0] 45)) wr.heap.size ⟨#[]⟩ false 0 0 := World.alloc_heap_new _ _
        have O5 := HO.out.alloc (.cells #[.string ⟨#[]⟩, .bool false, .int .u64 0, .int .u64 0] 45)
        go_wp2_with fail
        ((with_reducible refine (T2.out _ R5.rd).mono ?_); rintro e w5 ⟨rfl, hr5, ho5⟩)
        have R6 := R5.read hr5 ho5
        have E6 := E5.at1 ho5 (by omega)
        have O6 := own_mv (w' := w5) O5 (fun k hk hk2 => ho5.k k (by omega) hk2)
        clear R5 E5 O5 hr5 ho5 cq
        obtain ⟨x0, -, -, -⟩ := E6.c
        have xf0 := E6.f 0
        have R7 := R6.other lX 0 (.string nm)
        have E7 := E6.set0 nm
        have O7 := own_mv2 (w' := w5.setCell ⟨wr.heap.size, 0, none⟩ (.string nm)) O6 HX.out (fun k _ _ hne => Below.heap_setCell w5 ⟨wr.heap.size, 0, none⟩ _ k hne)
        clear R6 E6 O6
        go_wp2_with fail
        ((with_reducible refine (I2.out _ R7.rd).mono ?_); rintro e w6 ⟨rfl, hr5, ho5⟩)
        have R8 := R7.read hr5 ho5
        have E8 := E7.at1 ho5 (by omega)
        have O8 := own_mv (w' := w6) O7 (fun k hk hk2 => ho5.k k (by omega) hk2)
        clear R7 E7 O7 hr5 ho5 x0 xf0
        obtain ⟨-, x1, -, -⟩ := E8.c
        have xf1 := E8.f 1
        have R9 := R8.other lX 1 (.bool dr)
        have E9 := E8.set1 dr
        have O9 := own_mv2 (w' := w6.setCell ⟨wr.heap.size, 1, none⟩ (.bool dr)) O8 HX.out (fun k _ _ hne => Below.heap_setCell w6 ⟨wr.heap.size, 1, none⟩ _ k hne)
        clear R8 E8 O8
        go_wp2_with fail
        ((with_reducible refine (D2.out _ R9.rd).mono ?_); rintro e w7 ⟨rfl, hr5, ho5⟩)
        have R10 := R9.read hr5 ho5
        have E10 := E9.at1 ho5 (by omega)
        have O10 := own_mv (w' := w7) O9 (fun k hk hk2 => ho5.k k (by omega) hk2)
        clear R9 E9 O9 hr5 ho5 x1 xf1
        obtain ⟨-, -, x2, x3⟩ := E10.c
        have xf2 := E10.f 2
        have xf3 := E10.f 3
        obtain ⟨w8, hw8⟩ : ∃ w8, (w7.setCell ⟨wr.heap.size, 2, none⟩ (.int .u64 x)).setCell ⟨wr.heap.size, 3, none⟩ (.int .u64 y) = w8 := ⟨_, rfl⟩
        have R11 := Lib.hid ((R10.other lX 2 (.int .u64 x)).other lX 3 (.int .u64 y))
        have E11 := Lib.hid ((E10.set2 x).set3 y)
        have O11 := Lib.hid (own_mv2 (w' := (w7.setCell ⟨wr.heap.size, 2, none⟩ (.int .u64 x)).setCell ⟨wr.heap.size, 3, none⟩ (.int .u64 y)) O10 HX.out (fun k _ _ hne => (Below.heap_setCell _ ⟨wr.heap.size, 3, none⟩ _ k hne).trans (Below.heap_setCell w7 ⟨wr.heap.size, 2, none⟩ _ k hne)))
        rw [hw8] at R11 E11 O11
        have HW := Lib.hid hw8
        clear R10 E10 O10 hw8
        go_upto_region 15 with fail
        rw [HW.out]
        clear x2 x3 xf2 xf3 HW
        have y2 := R11.out.at.2.2.1
        obtain ⟨x0, x1, x2, x3⟩ := E11.out.c
        have l11 := R11.out.lt
        go_wp2_with (at_builtin; refine wpList_append_own _ rfl _ _ 22 rfl (w.heap.size + 1 + 1 + 1) 45 i0 (.agg #[.string ⟨#[]⟩, .bool false, .int .u64 0, .int .u64 0]) 4 40 Try.underlying22 hi hz0 hz1 hz2 rfl (by decide) _ A.length (rowX A) rfl (O11.out.alloc _) ⟨w8.heap.size, 0, none⟩ 1 1 [.string nm, .bool dr, .int .u64 x, .int .u64 y] rfl rfl (four_ent w8 _ rfl nm dr x y _) (ent_one nm dr x y) (by unfold maxLen; omega) (by omega) (by simp; omega) ?_)
        intro v' w9 hown hgrow _
        have R12 := Rx.grown (R11.out.on ((Below.refl _ _).alloc (Nat.le_refl _) (.cells #[.string nm, .bool dr, .int .u64 x, .int .u64 y] 45))) hgrow (fun k e => (O11.out.lt k e).1)
        obtain ⟨a7, n7, c7, rfl⟩ := own_form hown
        have y9 := R12.at.2.2.1
        have yf9 := R12.f 2
        have R13 := Lib.hid (R12.setE (.slice a7 n7 c7))
        have O13 := Lib.hid (own_mv (w' := w9.setCell ⟨w.heap.size + 1 + 1, 2, none⟩ (.slice a7 n7 c7)) hown (fun k hk _ => Below.heap_setCell w9 ⟨w.heap.size + 1 + 1, 2, none⟩ _ k (show k ≠ w.heap.size + 1 + 1 by omega)))
        clear hown hgrow R12 R11 E11 O11 x0 x1 x2 x3 y2
        go_wp2
        go_roundw
        case rel => exact ⟨i + 1, A ++ [⟨nm, dr, (x, y)⟩], q', _, by omega, by go_num, Lib.hid (by rw [EN.out]; exact HJ2.out), z3, by rw [List.length_append]; exact z4, Lib.hid (fun e => by have := Z1.out e; rw [List.length_append]; exact this), R13, Lib.hid (by rw [rowX_snoc, List.length_append]; exact O13.out)⟩
        case measure => simp [intOf]; omega
    · have e := HJ.out
      rw [rfXs_stop _ _ _ (.inl (by omega))] at e
      obtain ⟨rfl, rfl⟩ := Prod.mk.inj e
      clear HJ e HL
      obtain ⟨a5, n5, c5, rfl⟩ := own_form HO.out
      have y2 := HR.out.at.2.2.1
      go_upto_region 26 with fail
      clear y2 cq
      obtain ⟨q0, q1, q2, q3, q4, q5, q6, q7, q8⟩ : wr.cell? ⟨w.heap.size + 1 + 1, 0, none⟩ = some (.int .i64 2) ∧ wr.cell? ⟨w.heap.size + 1 + 1, 1, none⟩ = some (.string ⟨#[]⟩) ∧ wr.cell? ⟨w.heap.size + 1 + 1, 2, none⟩ = some (.slice a5 n5 c5) ∧ wr.cell? ⟨w.heap.size + 1 + 1, 3, none⟩ = some (.int .u64 0) ∧ wr.cell? ⟨w.heap.size + 1 + 1, 4, none⟩ = some (.int .u64 0) ∧ wr.cell? ⟨w.heap.size + 1 + 1, 5, none⟩ = some (.slice none 0 0) ∧ wr.cell? ⟨w.heap.size + 1 + 1, 6, none⟩ = some (.string ⟨#[]⟩) ∧ wr.cell? ⟨w.heap.size + 1 + 1, 7, none⟩ = some (.int .i64 0) ∧ wr.cell? ⟨w.heap.size + 1 + 1, 8, none⟩ = some (.string ⟨#[]⟩) := HR.out.at
      go_wp2_with fail
      ((with_reducible refine (HF.out _ _ HO.out).mono ?_); rintro e w9 ⟨rfl, hb9⟩)
      have HR9 := Lib.hid (HR.out.on hb9)
      have HO9 := Lib.hid (own_mv (w' := w9) HO.out (fun k _ h => hb9.block k h))
      clear q0 q1 q2 q3 q4 q5 q6 q7 q8 hb9
      obtain ⟨q0, q1, q2, q3, q4, q5, q6, q7, q8⟩ : w9.cell? ⟨w.heap.size + 1 + 1, 0, none⟩ = some (.int .i64 2) ∧ w9.cell? ⟨w.heap.size + 1 + 1, 1, none⟩ = some (.string ⟨#[]⟩) ∧ w9.cell? ⟨w.heap.size + 1 + 1, 2, none⟩ = some (.slice a5 n5 c5) ∧ w9.cell? ⟨w.heap.size + 1 + 1, 3, none⟩ = some (.int .u64 0) ∧ w9.cell? ⟨w.heap.size + 1 + 1, 4, none⟩ = some (.int .u64 0) ∧ w9.cell? ⟨w.heap.size + 1 + 1, 5, none⟩ = some (.slice none 0 0) ∧ w9.cell? ⟨w.heap.size + 1 + 1, 6, none⟩ = some (.string ⟨#[]⟩) ∧ w9.cell? ⟨w.heap.size + 1 + 1, 7, none⟩ = some (.int .i64 0) ∧ w9.cell? ⟨w.heap.size + 1 + 1, 8, none⟩ = some (.string ⟨#[]⟩) := HR9.out.at
      have cb : w9.cell? ⟨w.heap.size + 1, 1, none⟩ = some (.bool false) := by have e := HR9.out.rd.c1; rw [HB.out] at e; exact e
      obtain ⟨d0, d1, d2, d3, d4, d5, d6, d7, d8⟩ := HR9.out.dc.nine
      obtain ⟨f0, f1, f2, f3, f4, f5, f6, f7, f8⟩ := HR9.out.dc.f
      have hb := set9_below HR9.out.b (.int .i64 2) (.string ⟨#[]⟩) (.slice a5 n5 c5) (.int .u64 0) (.int .u64 0) (.slice none 0 0) (.string ⟨#[]⟩) (.int .i64 0) (.string ⟨#[]⟩)
      have HO10 := Lib.hid (own_ents (own_mv (w' := set9 w9 w.heap.size (.int .i64 2) (.string ⟨#[]⟩) (.slice a5 n5 c5) (.int .u64 0) (.int .u64 0) (.slice none 0 0) (.string ⟨#[]⟩) (.int .i64 0) (.string ⟨#[]⟩)) HO9.out (fun k hk _ => set9_heap _ _ _ _ _ _ _ _ _ _ _ k (by omega))) rfl (by unfold maxLen; omega))
      go_wp2
      exact bodyPost_ret (v := .tuple #[.agg #[.int .i64 2, .string ⟨#[]⟩, .slice a5 n5 c5, .int .u64 0, .int .u64 0, .slice none 0 0, .string ⟨#[]⟩, .int .i64 0, .string ⟨#[]⟩], .int .i64 0]) (by simp [results, Try.results22, go_sem, d0, d1, d2, d3, d4, d5, d6, d7, d8, World.cell?_setCell_other, World.cell?_setCell_same']) rfl ⟨_, rfl, ⟨_, _, rfl, HO10.out, isDigs_nil _⟩, hb⟩
end Go.Proofs.Ytiaahjoldahlnaa
