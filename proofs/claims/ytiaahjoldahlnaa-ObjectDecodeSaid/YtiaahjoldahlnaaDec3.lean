/- object.Decode of commits, at this translation. -/
import Derived.Test.YtiaahjoldahlnaaDec1
import Derived.Test.YtiaahjoldahlnaaPars
namespace Go.Proofs.Ytiaahjoldahlnaa
open Go.RowKit Go.Great
attribute [local go_sem] eq_arr

set_option maxRecDepth 100000 in
set_option maxHeartbeats 16000000 in
theorem dec3_ok (s : BA) (hs : s.size ≤ 65536) (w : World) (r1 : Rd) (hI : rdI (s, false) = (3, r1)) (h1 : r1.1.size ≤ 65536) (x y : Nat) (r2 : Rd) (hT : rdD r1 = ((x, y), r2)) (h2 : r2.1.size ≤ 65536) (n : Nat) (r3 : Rd) (hC : rdC r2 = (n, r3)) (hn : n ≤ 65536) (h3 : r3.1.size ≤ 65536) (P : List Dig) (r4 : Rd) (hP : rdDs n [] r3 = (P, r4)) (HL : Hid (P.length = n)) (h4 : r4.1.size ≤ 65536) (au : BA) (r5 : Rd) (hA : rdT r4 = (au, r5)) (h5 : r5.1.size ≤ 65536) (m : Nat) (r6 : Rd) (hM : rdI r5 = (m, r6)) (h6 : r6.1.size ≤ 65536) (ms : BA) (r7 : Rd) (hS : rdT r6 = (ms, r7)) (HQ : Hid (r7 = ((⟨#[]⟩, false) : Rd))) (HF : Hid (∀ (W : World) (vp : Value) (B : Nat), W.ownsRow B 25 2 vp n (rowD P) → Calls Try.prog 25 #[.agg #[.int .i64 3, .string ⟨#[]⟩, .slice none 0 0, .int .u64 x, .int .u64 y, vp, .string au, .int .i64 m, .string ms]] W fun e w' => e = .returned (.int .i64 0) ∧ Below W.heap.size W w')) :
    Calls Try.prog 21 #[.string s] w fun e w' => ∃ v, e = .returned (.tuple #[v, .int .i64 0]) ∧ IsOb w' v (⟨3, ⟨#[]⟩, [], (x, y), P, au, m, ms⟩) ∧ Below w.heap.size w w' := by
  obtain ⟨R0, D0⟩ := dec_fresh w s
  have n1 : ¬ 65536 < s.size := by omega
  have IC : Hid (∀ W, RdAt W (w.heap.size + 1) (s, false) → Calls Try.prog 32 #[.pointer (some ⟨w.heap.size + 1, 0, none⟩)] W fun e w' => e = .returned (.int .i64 3) ∧ RdAt w' (w.heap.size + 1) r1 ∧ Only1 (w.heap.size + 1) W w') := Lib.hid fun W hW => intR_any _ (s, false) W hW (Nat.le_trans hs (by decide)) _ r1 hI
  clear hI
  go_enter Try.func21, Try.ntmps21
  go_wp2_with fail
  ((with_reducible refine (readR_any s _).mono ?_); rintro e w1 ⟨rfl, rfl⟩)
  go_wp2_with fail
  ((with_reducible refine (IC.out _ R0.rd).mono ?_); rintro e w2 ⟨rfl, hr1, ho1⟩)
  have R1 := R0.read hr1 ho1
  have D1 := D0.on2 (Only2.one ho1)
  clear R0 D0 hr1 ho1 IC
  obtain ⟨p0, p1, -, -, -, -, -, -, -, -⟩ := R1.at
  have f1 := R1.f 1
  have R2 := R1.setK 3
  have D2 := D1.on2 (Only2.two (Only1.set (N := w.heap.size + 1 + 1) w2 1 (.int .i64 3)))
  clear R1 D1
  go_wp2_with fail
  ((with_reducible refine (readers3 (w.heap.size + 1) _).mono ?_); rintro e w3 ⟨rfl, rfl⟩)
  obtain ⟨G, hG⟩ : ∃ G, (w2.setCell ⟨w.heap.size + 1 + 1, 1, none⟩ (.int .i64 3)).heap.size = G := ⟨_, rfl⟩
  have lG : w.heap.size + 1 + 1 < G := by rw [← hG]; exact R2.lt
  have XF : ((w2.setCell ⟨w.heap.size + 1 + 1, 1, none⟩ (.int .i64 3)).alloc (.cells #[.func (.func 62) #[.pointer (some ⟨w.heap.size + 1 + 1, 0, none⟩)] #[], .func (.func 63) #[.pointer (some ⟨w.heap.size + 1 + 1, 0, none⟩)] #[], .func (.func 64) #[.pointer (some ⟨w.heap.size + 1 + 1, 0, none⟩)] #[], .func (.func 65) #[.pointer (some ⟨w.heap.size + 1 + 1, 0, none⟩)] #[], .func (.func 66) #[.pointer (some ⟨w.heap.size + 1 + 1, 0, none⟩)] #[]] 1)).heap[G]? = some (.cells #[.func (.func 62) #[.pointer (some ⟨w.heap.size + 1 + 1, 0, none⟩)] #[], .func (.func 63) #[.pointer (some ⟨w.heap.size + 1 + 1, 0, none⟩)] #[], .func (.func 64) #[.pointer (some ⟨w.heap.size + 1 + 1, 0, none⟩)] #[], .func (.func 65) #[.pointer (some ⟨w.heap.size + 1 + 1, 0, none⟩)] #[], .func (.func 66) #[.pointer (some ⟨w.heap.size + 1 + 1, 0, none⟩)] #[]] 1 (0, 0)) := by rw [← hG]; exact World.alloc_heap_new _ _
  have R3 := Lib.hid (R2.on ((Below.refl _ _).alloc (Nat.le_refl _) (.cells #[.func (.func 62) #[.pointer (some ⟨w.heap.size + 1 + 1, 0, none⟩)] #[], .func (.func 63) #[.pointer (some ⟨w.heap.size + 1 + 1, 0, none⟩)] #[], .func (.func 64) #[.pointer (some ⟨w.heap.size + 1 + 1, 0, none⟩)] #[], .func (.func 65) #[.pointer (some ⟨w.heap.size + 1 + 1, 0, none⟩)] #[], .func (.func 66) #[.pointer (some ⟨w.heap.size + 1 + 1, 0, none⟩)] #[]] 1)))
  have D3 := Lib.hid (D2.on ((Below.refl _ _).alloc (Nat.le_refl _) (.cells #[.func (.func 62) #[.pointer (some ⟨w.heap.size + 1 + 1, 0, none⟩)] #[], .func (.func 63) #[.pointer (some ⟨w.heap.size + 1 + 1, 0, none⟩)] #[], .func (.func 64) #[.pointer (some ⟨w.heap.size + 1 + 1, 0, none⟩)] #[], .func (.func 65) #[.pointer (some ⟨w.heap.size + 1 + 1, 0, none⟩)] #[], .func (.func 66) #[.pointer (some ⟨w.heap.size + 1 + 1, 0, none⟩)] #[]] 1)))
  have HX := Lib.hid XF
  rw [hG]
  have HG := Lib.hid hG
  clear R2 D2 p0 p1 f1 XF hG
  go_wp2
  go_loopw [32] (fun s32 wr => (s32 = .int .i64 0 ∧ Hid (Ro (w.heap.size + 1) r1 3 ⟨#[]⟩ (.slice none 0 0) 0 0 (.slice none 0 0) ⟨#[]⟩ 0 ⟨#[]⟩ wr) ∧ Hid (Dc w wr) ∧ Hid (wr.heap[G]? = some (.cells #[.func (.func 62) #[.pointer (some ⟨w.heap.size + 1 + 1, 0, none⟩)] #[], .func (.func 63) #[.pointer (some ⟨w.heap.size + 1 + 1, 0, none⟩)] #[], .func (.func 64) #[.pointer (some ⟨w.heap.size + 1 + 1, 0, none⟩)] #[], .func (.func 65) #[.pointer (some ⟨w.heap.size + 1 + 1, 0, none⟩)] #[], .func (.func 66) #[.pointer (some ⟨w.heap.size + 1 + 1, 0, none⟩)] #[]] 1 (0, 0)))) ∨ (s32 = .int .i64 1 ∧ Hid (Ro (w.heap.size + 1) r2 3 ⟨#[]⟩ (.slice none 0 0) x y (.slice none 0 0) ⟨#[]⟩ 0 ⟨#[]⟩ wr) ∧ Hid (Dc w wr) ∧ Hid (wr.heap[G]? = some (.cells #[.func (.func 62) #[.pointer (some ⟨w.heap.size + 1 + 1, 0, none⟩)] #[], .func (.func 63) #[.pointer (some ⟨w.heap.size + 1 + 1, 0, none⟩)] #[], .func (.func 64) #[.pointer (some ⟨w.heap.size + 1 + 1, 0, none⟩)] #[], .func (.func 65) #[.pointer (some ⟨w.heap.size + 1 + 1, 0, none⟩)] #[], .func (.func 66) #[.pointer (some ⟨w.heap.size + 1 + 1, 0, none⟩)] #[]] 1 (0, 0)))) ∨ (∃ (vp : Value) (B : Nat), s32 = .int .i64 2 ∧ Hid (Ro (w.heap.size + 1) r4 3 ⟨#[]⟩ (.slice none 0 0) x y vp ⟨#[]⟩ 0 ⟨#[]⟩ wr) ∧ Hid (Dc w wr) ∧ Hid (wr.ownsRow B 25 2 vp n (rowD P)) ∧ w.heap.size + 1 + 1 < B ∧ Hid (wr.heap[G]? = some (.cells #[.func (.func 62) #[.pointer (some ⟨w.heap.size + 1 + 1, 0, none⟩)] #[], .func (.func 63) #[.pointer (some ⟨w.heap.size + 1 + 1, 0, none⟩)] #[], .func (.func 64) #[.pointer (some ⟨w.heap.size + 1 + 1, 0, none⟩)] #[], .func (.func 65) #[.pointer (some ⟨w.heap.size + 1 + 1, 0, none⟩)] #[], .func (.func 66) #[.pointer (some ⟨w.heap.size + 1 + 1, 0, none⟩)] #[]] 1 (0, 0)))) ∨ (∃ (vp : Value) (B : Nat), s32 = .int .i64 3 ∧ Hid (Ro (w.heap.size + 1) r5 3 ⟨#[]⟩ (.slice none 0 0) x y vp au 0 ⟨#[]⟩ wr) ∧ Hid (Dc w wr) ∧ Hid (wr.ownsRow B 25 2 vp n (rowD P)) ∧ w.heap.size + 1 + 1 < B ∧ Hid (wr.heap[G]? = some (.cells #[.func (.func 62) #[.pointer (some ⟨w.heap.size + 1 + 1, 0, none⟩)] #[], .func (.func 63) #[.pointer (some ⟨w.heap.size + 1 + 1, 0, none⟩)] #[], .func (.func 64) #[.pointer (some ⟨w.heap.size + 1 + 1, 0, none⟩)] #[], .func (.func 65) #[.pointer (some ⟨w.heap.size + 1 + 1, 0, none⟩)] #[], .func (.func 66) #[.pointer (some ⟨w.heap.size + 1 + 1, 0, none⟩)] #[]] 1 (0, 0)))) ∨ (∃ (vp : Value) (B : Nat), s32 = .int .i64 4 ∧ Hid (Ro (w.heap.size + 1) r6 3 ⟨#[]⟩ (.slice none 0 0) x y vp au m ⟨#[]⟩ wr) ∧ Hid (Dc w wr) ∧ Hid (wr.ownsRow B 25 2 vp n (rowD P)) ∧ w.heap.size + 1 + 1 < B ∧ Hid (wr.heap[G]? = some (.cells #[.func (.func 62) #[.pointer (some ⟨w.heap.size + 1 + 1, 0, none⟩)] #[], .func (.func 63) #[.pointer (some ⟨w.heap.size + 1 + 1, 0, none⟩)] #[], .func (.func 64) #[.pointer (some ⟨w.heap.size + 1 + 1, 0, none⟩)] #[], .func (.func 65) #[.pointer (some ⟨w.heap.size + 1 + 1, 0, none⟩)] #[], .func (.func 66) #[.pointer (some ⟨w.heap.size + 1 + 1, 0, none⟩)] #[]] 1 (0, 0)))) ∨ (∃ (vp : Value) (B : Nat), s32 = .int .i64 5 ∧ Hid (Ro (w.heap.size + 1) r7 3 ⟨#[]⟩ (.slice none 0 0) x y vp au m ms wr) ∧ Hid (Dc w wr) ∧ Hid (wr.ownsRow B 25 2 vp n (rowD P)) ∧ w.heap.size + 1 + 1 < B)) (fun i _ => 5 - (intOf i).toNat)
  case atStart => exact .inl ⟨rfl, R3, D3, HX⟩
  case round =>
    rcases hrel with ⟨rfl, HR, HD, HX⟩ | ⟨rfl, HR, HD, HX⟩ | ⟨vp, B, rfl, HR, HD, HO, lB, HX⟩ | ⟨vp, B, rfl, HR, HD, HO, lB, HX⟩ | ⟨vp, B, rfl, HR, HD, HO, lB, HX⟩ | ⟨vp, B, rfl, HR, HD, HO, lB⟩
    · clear R3 D3
      have cf : wr.cell? ⟨G, 0, none⟩ = some (.func (.func 62) #[.pointer (some ⟨w.heap.size + 1 + 1, 0, none⟩)] #[]) := by rw [Lib.cell_of_heap HX.out]; rfl
      go_wp2_with fail
      ((with_reducible refine (treeM_any (w.heap.size + 1) r1 _ _ _ _ _ _ _ _ _ _ HR.out (Nat.le_trans h1 (by decide)) x y r2 hT).mono ?_); rintro e w5 ⟨rfl, hR5, ho5⟩)
      have HR5 := Lib.hid hR5
      have HD5 := Lib.hid (HD.out.on2 ho5)
      have HX5 := Lib.hid (show w5.heap[G]? = some _ from (ho5.k G lG (by have := (Array.getElem?_eq_some_iff.1 HX.out).1; exact this)).trans HX.out)
      clear hR5 ho5 cf
      go_wp2
      go_roundw
      case rel => exact .inr (.inl ⟨rfl, HR5, HD5, HX5⟩)
      case measure => simp [intOf]
    · clear R3 D3
      have cf : wr.cell? ⟨G, 1, none⟩ = some (.func (.func 63) #[.pointer (some ⟨w.heap.size + 1 + 1, 0, none⟩)] #[]) := by rw [Lib.cell_of_heap HX.out]; rfl
      go_wp2_with fail
      ((with_reducible refine (parentsM_any (w.heap.size + 1) r2 _ _ _ _ _ _ _ _ _ HR.out h2 n r3 hC hn h3 P r4 hP).mono ?_); rintro e w5 ⟨rfl, vp, hR5, hO5, -, ho5⟩)
      have HR5 := Lib.hid hR5
      have HD5 := Lib.hid (HD.out.on2 ho5)
      have HO5 := Lib.hid hO5
      have lB := HR.out.lt
      have HX5 := Lib.hid (show w5.heap[G]? = some _ from (ho5.k G lG (by have := (Array.getElem?_eq_some_iff.1 HX.out).1; exact this)).trans HX.out)
      clear hR5 ho5 cf hO5
      go_wp2
      go_roundw
      case rel => exact .inr (.inr (.inl ⟨_, _, rfl, HR5, HD5, HO5, lB, HX5⟩))
      case measure => simp [intOf]
    · clear R3 D3
      have cf : wr.cell? ⟨G, 2, none⟩ = some (.func (.func 64) #[.pointer (some ⟨w.heap.size + 1 + 1, 0, none⟩)] #[]) := by rw [Lib.cell_of_heap HX.out]; rfl
      go_wp2_with fail
      ((with_reducible refine (authorM_any (w.heap.size + 1) r4 _ _ _ _ _ _ _ _ _ _ HR.out (Nat.le_trans h4 (by decide)) au r5 hA).mono ?_); rintro e w5 ⟨rfl, hR5, ho5⟩)
      have HR5 := Lib.hid hR5
      have HD5 := Lib.hid (HD.out.on2 ho5)
      have HX5 := Lib.hid (show w5.heap[G]? = some _ from (ho5.k G lG (by have := (Array.getElem?_eq_some_iff.1 HX.out).1; exact this)).trans HX.out)
      have HO5 := Lib.hid (own_mv (w' := w5) HO.out (fun k hk hk2 => ho5.k k (by omega) hk2))
      clear hR5 ho5 cf
      go_wp2
      go_roundw
      case rel => exact .inr (.inr (.inr (.inl ⟨_, _, rfl, HR5, HD5, HO5, lB, HX5⟩)))
      case measure => simp [intOf]
    · clear R3 D3
      have cf : wr.cell? ⟨G, 3, none⟩ = some (.func (.func 65) #[.pointer (some ⟨w.heap.size + 1 + 1, 0, none⟩)] #[]) := by rw [Lib.cell_of_heap HX.out]; rfl
      go_wp2_with fail
      ((with_reducible refine (timeM_any (w.heap.size + 1) r5 _ _ _ _ _ _ _ _ _ _ HR.out (Nat.le_trans h5 (by decide)) m r6 hM).mono ?_); rintro e w5 ⟨rfl, hR5, ho5⟩)
      have HR5 := Lib.hid hR5
      have HD5 := Lib.hid (HD.out.on2 ho5)
      have HX5 := Lib.hid (show w5.heap[G]? = some _ from (ho5.k G lG (by have := (Array.getElem?_eq_some_iff.1 HX.out).1; exact this)).trans HX.out)
      have HO5 := Lib.hid (own_mv (w' := w5) HO.out (fun k hk hk2 => ho5.k k (by omega) hk2))
      clear hR5 ho5 cf
      go_wp2
      go_roundw
      case rel => exact .inr (.inr (.inr (.inr (.inl ⟨_, _, rfl, HR5, HD5, HO5, lB, HX5⟩))))
      case measure => simp [intOf]
    · clear R3 D3
      have cf : wr.cell? ⟨G, 4, none⟩ = some (.func (.func 66) #[.pointer (some ⟨w.heap.size + 1 + 1, 0, none⟩)] #[]) := by rw [Lib.cell_of_heap HX.out]; rfl
      go_wp2_with fail
      ((with_reducible refine (messageM_any (w.heap.size + 1) r6 _ _ _ _ _ _ _ _ _ _ HR.out (Nat.le_trans h6 (by decide)) ms r7 hS).mono ?_); rintro e w5 ⟨rfl, hR5, ho5⟩)
      have HR5 := Lib.hid hR5
      have HD5 := Lib.hid (HD.out.on2 ho5)
      have HO5 := Lib.hid (own_mv (w' := w5) HO.out (fun k hk hk2 => ho5.k k (by omega) hk2))
      clear hR5 ho5 cf
      go_wp2
      go_roundw
      case rel => exact .inr (.inr (.inr (.inr (.inr (⟨_, _, rfl, HR5, HD5, HO5, lB⟩)))))
      case measure => simp [intOf]
    · clear R3 D3 HX
      obtain ⟨a5, n5, c5, rfl⟩ := own_form HO.out
      obtain ⟨q0, -, -, -, -, -, -, -, -, -⟩ := HR.out.at
      go_wp2_with fail
      ((with_reducible refine (doneR_true _ _ _ HR.out.rd HQ.out).mono ?_); rintro e w9 ⟨rfl, rfl⟩)
      clear q0
      obtain ⟨q1, q2, q3, q4, q5, q6, q7, q8, q9⟩ : w9.cell? ⟨w.heap.size + 1 + 1, 1, none⟩ = some (.int .i64 3) ∧ w9.cell? ⟨w.heap.size + 1 + 1, 2, none⟩ = some (.string ⟨#[]⟩) ∧ w9.cell? ⟨w.heap.size + 1 + 1, 3, none⟩ = some (.slice none 0 0) ∧ w9.cell? ⟨w.heap.size + 1 + 1, 4, none⟩ = some (.int .u64 x) ∧ w9.cell? ⟨w.heap.size + 1 + 1, 5, none⟩ = some (.int .u64 y) ∧ w9.cell? ⟨w.heap.size + 1 + 1, 6, none⟩ = some (.slice a5 n5 c5) ∧ w9.cell? ⟨w.heap.size + 1 + 1, 7, none⟩ = some (.string au) ∧ w9.cell? ⟨w.heap.size + 1 + 1, 8, none⟩ = some (.int .i64 m) ∧ w9.cell? ⟨w.heap.size + 1 + 1, 9, none⟩ = some (.string ms) := HR.out.at.2
      go_wp2_with fail
      ((with_reducible refine (HF.out _ _ _ HO.out).mono ?_); rintro e w9 ⟨rfl, hb9⟩)
      have HR9 := Lib.hid (HR.out.on hb9)
      have HD9 := Lib.hid (HD.out.on hb9)
      have HO9 := Lib.hid (own_mv (w' := w9) HO.out (fun k _ h => hb9.block k h))
      clear q1 q2 q3 q4 q5 q6 q7 q8 q9 hb9
      obtain ⟨d0, d1, d2, d3, d4, d5, d6, d7, d8⟩ := HD9.out.nine
      obtain ⟨f0, f1, f2, f3, f4, f5, f6, f7, f8⟩ := HD9.out.f
      obtain ⟨q1, q2, q3, q4, q5, q6, q7, q8, q9⟩ : w9.cell? ⟨w.heap.size + 1 + 1, 1, none⟩ = some (.int .i64 3) ∧ w9.cell? ⟨w.heap.size + 1 + 1, 2, none⟩ = some (.string ⟨#[]⟩) ∧ w9.cell? ⟨w.heap.size + 1 + 1, 3, none⟩ = some (.slice none 0 0) ∧ w9.cell? ⟨w.heap.size + 1 + 1, 4, none⟩ = some (.int .u64 x) ∧ w9.cell? ⟨w.heap.size + 1 + 1, 5, none⟩ = some (.int .u64 y) ∧ w9.cell? ⟨w.heap.size + 1 + 1, 6, none⟩ = some (.slice a5 n5 c5) ∧ w9.cell? ⟨w.heap.size + 1 + 1, 7, none⟩ = some (.string au) ∧ w9.cell? ⟨w.heap.size + 1 + 1, 8, none⟩ = some (.int .i64 m) ∧ w9.cell? ⟨w.heap.size + 1 + 1, 9, none⟩ = some (.string ms) := HR9.out.at.2
      have hb := set9_below HD9.out.b (.int .i64 3) (.string ⟨#[]⟩) (.slice none 0 0) (.int .u64 x) (.int .u64 y) (.slice a5 n5 c5) (.string au) (.int .i64 m) (.string ms)
      have HO10 := Lib.hid (own_digs (own_mv (w' := set9 w9 w.heap.size (.int .i64 3) (.string ⟨#[]⟩) (.slice none 0 0) (.int .u64 x) (.int .u64 y) (.slice a5 n5 c5) (.string au) (.int .i64 m) (.string ms)) HO9.out (fun k hk _ => set9_heap _ _ _ _ _ _ _ _ _ _ _ k (by omega))) HL.out (by unfold maxLen; omega))
      go_wp2
      exact bodyPost_ret (v := .tuple #[.agg #[.int .i64 3, .string ⟨#[]⟩, .slice none 0 0, .int .u64 x, .int .u64 y, .slice a5 n5 c5, .string au, .int .i64 m, .string ms], .int .i64 0]) (by simp [results, Try.results21, go_sem, d0, d1, d2, d3, d4, d5, d6, d7, d8, World.cell?_setCell_other, World.cell?_setCell_same']) rfl ⟨_, rfl, ⟨_, _, rfl, isEnts_nil _, HO10.out⟩, hb⟩

set_option maxRecDepth 100000 in
set_option maxHeartbeats 16000000 in
theorem dec3_bad (s : BA) (hs : s.size ≤ 65536) (w : World) (r1 : Rd) (hI : rdI (s, false) = (3, r1)) (h1 : r1.1.size ≤ 65536) (x y : Nat) (r2 : Rd) (hT : rdD r1 = ((x, y), r2)) (h2 : r2.1.size ≤ 65536) (n : Nat) (r3 : Rd) (hC : rdC r2 = (n, r3)) (hn : n ≤ 65536) (h3 : r3.1.size ≤ 65536) (P : List Dig) (r4 : Rd) (hP : rdDs n [] r3 = (P, r4)) (_HL : Hid (P.length = n)) (h4 : r4.1.size ≤ 65536) (au : BA) (r5 : Rd) (hA : rdT r4 = (au, r5)) (h5 : r5.1.size ≤ 65536) (m : Nat) (r6 : Rd) (hM : rdI r5 = (m, r6)) (h6 : r6.1.size ≤ 65536) (ms : BA) (r7 : Rd) (hS : rdT r6 = (ms, r7)) (HQ : Hid (r7 = ((⟨#[]⟩, false) : Rd))) (c : Int) (hc : c ≠ 0) (HF : Hid (∀ (W : World) (vp : Value) (B : Nat), W.ownsRow B 25 2 vp n (rowD P) → Calls Try.prog 25 #[.agg #[.int .i64 3, .string ⟨#[]⟩, .slice none 0 0, .int .u64 x, .int .u64 y, vp, .string au, .int .i64 m, .string ms]] W fun e w' => e = .returned (.int .i64 c) ∧ Below W.heap.size W w')) :
    Calls Try.prog 21 #[.string s] w fun e w' => ∃ v, e = .returned (.tuple #[v, .int .i64 13]) ∧ IsOb w' v (zOb 0) ∧ Below w.heap.size w w' := by
  have hne : (c != 0) = true := by simpa using hc
  clear hc
  obtain ⟨R0, D0⟩ := dec_fresh w s
  have n1 : ¬ 65536 < s.size := by omega
  have IC : Hid (∀ W, RdAt W (w.heap.size + 1) (s, false) → Calls Try.prog 32 #[.pointer (some ⟨w.heap.size + 1, 0, none⟩)] W fun e w' => e = .returned (.int .i64 3) ∧ RdAt w' (w.heap.size + 1) r1 ∧ Only1 (w.heap.size + 1) W w') := Lib.hid fun W hW => intR_any _ (s, false) W hW (Nat.le_trans hs (by decide)) _ r1 hI
  clear hI
  go_enter Try.func21, Try.ntmps21
  go_wp2_with fail
  ((with_reducible refine (readR_any s _).mono ?_); rintro e w1 ⟨rfl, rfl⟩)
  go_wp2_with fail
  ((with_reducible refine (IC.out _ R0.rd).mono ?_); rintro e w2 ⟨rfl, hr1, ho1⟩)
  have R1 := R0.read hr1 ho1
  have D1 := D0.on2 (Only2.one ho1)
  clear R0 D0 hr1 ho1 IC
  obtain ⟨p0, p1, -, -, -, -, -, -, -, -⟩ := R1.at
  have f1 := R1.f 1
  have R2 := R1.setK 3
  have D2 := D1.on2 (Only2.two (Only1.set (N := w.heap.size + 1 + 1) w2 1 (.int .i64 3)))
  clear R1 D1
  go_wp2_with fail
  ((with_reducible refine (readers3 (w.heap.size + 1) _).mono ?_); rintro e w3 ⟨rfl, rfl⟩)
  obtain ⟨G, hG⟩ : ∃ G, (w2.setCell ⟨w.heap.size + 1 + 1, 1, none⟩ (.int .i64 3)).heap.size = G := ⟨_, rfl⟩
  have lG : w.heap.size + 1 + 1 < G := by rw [← hG]; exact R2.lt
  have XF : ((w2.setCell ⟨w.heap.size + 1 + 1, 1, none⟩ (.int .i64 3)).alloc (.cells #[.func (.func 62) #[.pointer (some ⟨w.heap.size + 1 + 1, 0, none⟩)] #[], .func (.func 63) #[.pointer (some ⟨w.heap.size + 1 + 1, 0, none⟩)] #[], .func (.func 64) #[.pointer (some ⟨w.heap.size + 1 + 1, 0, none⟩)] #[], .func (.func 65) #[.pointer (some ⟨w.heap.size + 1 + 1, 0, none⟩)] #[], .func (.func 66) #[.pointer (some ⟨w.heap.size + 1 + 1, 0, none⟩)] #[]] 1)).heap[G]? = some (.cells #[.func (.func 62) #[.pointer (some ⟨w.heap.size + 1 + 1, 0, none⟩)] #[], .func (.func 63) #[.pointer (some ⟨w.heap.size + 1 + 1, 0, none⟩)] #[], .func (.func 64) #[.pointer (some ⟨w.heap.size + 1 + 1, 0, none⟩)] #[], .func (.func 65) #[.pointer (some ⟨w.heap.size + 1 + 1, 0, none⟩)] #[], .func (.func 66) #[.pointer (some ⟨w.heap.size + 1 + 1, 0, none⟩)] #[]] 1 (0, 0)) := by rw [← hG]; exact World.alloc_heap_new _ _
  have R3 := Lib.hid (R2.on ((Below.refl _ _).alloc (Nat.le_refl _) (.cells #[.func (.func 62) #[.pointer (some ⟨w.heap.size + 1 + 1, 0, none⟩)] #[], .func (.func 63) #[.pointer (some ⟨w.heap.size + 1 + 1, 0, none⟩)] #[], .func (.func 64) #[.pointer (some ⟨w.heap.size + 1 + 1, 0, none⟩)] #[], .func (.func 65) #[.pointer (some ⟨w.heap.size + 1 + 1, 0, none⟩)] #[], .func (.func 66) #[.pointer (some ⟨w.heap.size + 1 + 1, 0, none⟩)] #[]] 1)))
  have D3 := Lib.hid (D2.on ((Below.refl _ _).alloc (Nat.le_refl _) (.cells #[.func (.func 62) #[.pointer (some ⟨w.heap.size + 1 + 1, 0, none⟩)] #[], .func (.func 63) #[.pointer (some ⟨w.heap.size + 1 + 1, 0, none⟩)] #[], .func (.func 64) #[.pointer (some ⟨w.heap.size + 1 + 1, 0, none⟩)] #[], .func (.func 65) #[.pointer (some ⟨w.heap.size + 1 + 1, 0, none⟩)] #[], .func (.func 66) #[.pointer (some ⟨w.heap.size + 1 + 1, 0, none⟩)] #[]] 1)))
  have HX := Lib.hid XF
  rw [hG]
  have HG := Lib.hid hG
  clear R2 D2 p0 p1 f1 XF hG
  go_wp2
  go_loopw [32] (fun s32 wr => (s32 = .int .i64 0 ∧ Hid (Ro (w.heap.size + 1) r1 3 ⟨#[]⟩ (.slice none 0 0) 0 0 (.slice none 0 0) ⟨#[]⟩ 0 ⟨#[]⟩ wr) ∧ Hid (Dc w wr) ∧ Hid (wr.heap[G]? = some (.cells #[.func (.func 62) #[.pointer (some ⟨w.heap.size + 1 + 1, 0, none⟩)] #[], .func (.func 63) #[.pointer (some ⟨w.heap.size + 1 + 1, 0, none⟩)] #[], .func (.func 64) #[.pointer (some ⟨w.heap.size + 1 + 1, 0, none⟩)] #[], .func (.func 65) #[.pointer (some ⟨w.heap.size + 1 + 1, 0, none⟩)] #[], .func (.func 66) #[.pointer (some ⟨w.heap.size + 1 + 1, 0, none⟩)] #[]] 1 (0, 0)))) ∨ (s32 = .int .i64 1 ∧ Hid (Ro (w.heap.size + 1) r2 3 ⟨#[]⟩ (.slice none 0 0) x y (.slice none 0 0) ⟨#[]⟩ 0 ⟨#[]⟩ wr) ∧ Hid (Dc w wr) ∧ Hid (wr.heap[G]? = some (.cells #[.func (.func 62) #[.pointer (some ⟨w.heap.size + 1 + 1, 0, none⟩)] #[], .func (.func 63) #[.pointer (some ⟨w.heap.size + 1 + 1, 0, none⟩)] #[], .func (.func 64) #[.pointer (some ⟨w.heap.size + 1 + 1, 0, none⟩)] #[], .func (.func 65) #[.pointer (some ⟨w.heap.size + 1 + 1, 0, none⟩)] #[], .func (.func 66) #[.pointer (some ⟨w.heap.size + 1 + 1, 0, none⟩)] #[]] 1 (0, 0)))) ∨ (∃ (vp : Value) (B : Nat), s32 = .int .i64 2 ∧ Hid (Ro (w.heap.size + 1) r4 3 ⟨#[]⟩ (.slice none 0 0) x y vp ⟨#[]⟩ 0 ⟨#[]⟩ wr) ∧ Hid (Dc w wr) ∧ Hid (wr.ownsRow B 25 2 vp n (rowD P)) ∧ w.heap.size + 1 + 1 < B ∧ Hid (wr.heap[G]? = some (.cells #[.func (.func 62) #[.pointer (some ⟨w.heap.size + 1 + 1, 0, none⟩)] #[], .func (.func 63) #[.pointer (some ⟨w.heap.size + 1 + 1, 0, none⟩)] #[], .func (.func 64) #[.pointer (some ⟨w.heap.size + 1 + 1, 0, none⟩)] #[], .func (.func 65) #[.pointer (some ⟨w.heap.size + 1 + 1, 0, none⟩)] #[], .func (.func 66) #[.pointer (some ⟨w.heap.size + 1 + 1, 0, none⟩)] #[]] 1 (0, 0)))) ∨ (∃ (vp : Value) (B : Nat), s32 = .int .i64 3 ∧ Hid (Ro (w.heap.size + 1) r5 3 ⟨#[]⟩ (.slice none 0 0) x y vp au 0 ⟨#[]⟩ wr) ∧ Hid (Dc w wr) ∧ Hid (wr.ownsRow B 25 2 vp n (rowD P)) ∧ w.heap.size + 1 + 1 < B ∧ Hid (wr.heap[G]? = some (.cells #[.func (.func 62) #[.pointer (some ⟨w.heap.size + 1 + 1, 0, none⟩)] #[], .func (.func 63) #[.pointer (some ⟨w.heap.size + 1 + 1, 0, none⟩)] #[], .func (.func 64) #[.pointer (some ⟨w.heap.size + 1 + 1, 0, none⟩)] #[], .func (.func 65) #[.pointer (some ⟨w.heap.size + 1 + 1, 0, none⟩)] #[], .func (.func 66) #[.pointer (some ⟨w.heap.size + 1 + 1, 0, none⟩)] #[]] 1 (0, 0)))) ∨ (∃ (vp : Value) (B : Nat), s32 = .int .i64 4 ∧ Hid (Ro (w.heap.size + 1) r6 3 ⟨#[]⟩ (.slice none 0 0) x y vp au m ⟨#[]⟩ wr) ∧ Hid (Dc w wr) ∧ Hid (wr.ownsRow B 25 2 vp n (rowD P)) ∧ w.heap.size + 1 + 1 < B ∧ Hid (wr.heap[G]? = some (.cells #[.func (.func 62) #[.pointer (some ⟨w.heap.size + 1 + 1, 0, none⟩)] #[], .func (.func 63) #[.pointer (some ⟨w.heap.size + 1 + 1, 0, none⟩)] #[], .func (.func 64) #[.pointer (some ⟨w.heap.size + 1 + 1, 0, none⟩)] #[], .func (.func 65) #[.pointer (some ⟨w.heap.size + 1 + 1, 0, none⟩)] #[], .func (.func 66) #[.pointer (some ⟨w.heap.size + 1 + 1, 0, none⟩)] #[]] 1 (0, 0)))) ∨ (∃ (vp : Value) (B : Nat), s32 = .int .i64 5 ∧ Hid (Ro (w.heap.size + 1) r7 3 ⟨#[]⟩ (.slice none 0 0) x y vp au m ms wr) ∧ Hid (Dc w wr) ∧ Hid (wr.ownsRow B 25 2 vp n (rowD P)) ∧ w.heap.size + 1 + 1 < B)) (fun i _ => 5 - (intOf i).toNat)
  case atStart => exact .inl ⟨rfl, R3, D3, HX⟩
  case round =>
    rcases hrel with ⟨rfl, HR, HD, HX⟩ | ⟨rfl, HR, HD, HX⟩ | ⟨vp, B, rfl, HR, HD, HO, lB, HX⟩ | ⟨vp, B, rfl, HR, HD, HO, lB, HX⟩ | ⟨vp, B, rfl, HR, HD, HO, lB, HX⟩ | ⟨vp, B, rfl, HR, HD, HO, lB⟩
    · clear R3 D3
      have cf : wr.cell? ⟨G, 0, none⟩ = some (.func (.func 62) #[.pointer (some ⟨w.heap.size + 1 + 1, 0, none⟩)] #[]) := by rw [Lib.cell_of_heap HX.out]; rfl
      go_wp2_with fail
      ((with_reducible refine (treeM_any (w.heap.size + 1) r1 _ _ _ _ _ _ _ _ _ _ HR.out (Nat.le_trans h1 (by decide)) x y r2 hT).mono ?_); rintro e w5 ⟨rfl, hR5, ho5⟩)
      have HR5 := Lib.hid hR5
      have HD5 := Lib.hid (HD.out.on2 ho5)
      have HX5 := Lib.hid (show w5.heap[G]? = some _ from (ho5.k G lG (by have := (Array.getElem?_eq_some_iff.1 HX.out).1; exact this)).trans HX.out)
      clear hR5 ho5 cf
      go_wp2
      go_roundw
      case rel => exact .inr (.inl ⟨rfl, HR5, HD5, HX5⟩)
      case measure => simp [intOf]
    · clear R3 D3
      have cf : wr.cell? ⟨G, 1, none⟩ = some (.func (.func 63) #[.pointer (some ⟨w.heap.size + 1 + 1, 0, none⟩)] #[]) := by rw [Lib.cell_of_heap HX.out]; rfl
      go_wp2_with fail
      ((with_reducible refine (parentsM_any (w.heap.size + 1) r2 _ _ _ _ _ _ _ _ _ HR.out h2 n r3 hC hn h3 P r4 hP).mono ?_); rintro e w5 ⟨rfl, vp, hR5, hO5, -, ho5⟩)
      have HR5 := Lib.hid hR5
      have HD5 := Lib.hid (HD.out.on2 ho5)
      have HO5 := Lib.hid hO5
      have lB := HR.out.lt
      have HX5 := Lib.hid (show w5.heap[G]? = some _ from (ho5.k G lG (by have := (Array.getElem?_eq_some_iff.1 HX.out).1; exact this)).trans HX.out)
      clear hR5 ho5 cf hO5
      go_wp2
      go_roundw
      case rel => exact .inr (.inr (.inl ⟨_, _, rfl, HR5, HD5, HO5, lB, HX5⟩))
      case measure => simp [intOf]
    · clear R3 D3
      have cf : wr.cell? ⟨G, 2, none⟩ = some (.func (.func 64) #[.pointer (some ⟨w.heap.size + 1 + 1, 0, none⟩)] #[]) := by rw [Lib.cell_of_heap HX.out]; rfl
      go_wp2_with fail
      ((with_reducible refine (authorM_any (w.heap.size + 1) r4 _ _ _ _ _ _ _ _ _ _ HR.out (Nat.le_trans h4 (by decide)) au r5 hA).mono ?_); rintro e w5 ⟨rfl, hR5, ho5⟩)
      have HR5 := Lib.hid hR5
      have HD5 := Lib.hid (HD.out.on2 ho5)
      have HX5 := Lib.hid (show w5.heap[G]? = some _ from (ho5.k G lG (by have := (Array.getElem?_eq_some_iff.1 HX.out).1; exact this)).trans HX.out)
      have HO5 := Lib.hid (own_mv (w' := w5) HO.out (fun k hk hk2 => ho5.k k (by omega) hk2))
      clear hR5 ho5 cf
      go_wp2
      go_roundw
      case rel => exact .inr (.inr (.inr (.inl ⟨_, _, rfl, HR5, HD5, HO5, lB, HX5⟩)))
      case measure => simp [intOf]
    · clear R3 D3
      have cf : wr.cell? ⟨G, 3, none⟩ = some (.func (.func 65) #[.pointer (some ⟨w.heap.size + 1 + 1, 0, none⟩)] #[]) := by rw [Lib.cell_of_heap HX.out]; rfl
      go_wp2_with fail
      ((with_reducible refine (timeM_any (w.heap.size + 1) r5 _ _ _ _ _ _ _ _ _ _ HR.out (Nat.le_trans h5 (by decide)) m r6 hM).mono ?_); rintro e w5 ⟨rfl, hR5, ho5⟩)
      have HR5 := Lib.hid hR5
      have HD5 := Lib.hid (HD.out.on2 ho5)
      have HX5 := Lib.hid (show w5.heap[G]? = some _ from (ho5.k G lG (by have := (Array.getElem?_eq_some_iff.1 HX.out).1; exact this)).trans HX.out)
      have HO5 := Lib.hid (own_mv (w' := w5) HO.out (fun k hk hk2 => ho5.k k (by omega) hk2))
      clear hR5 ho5 cf
      go_wp2
      go_roundw
      case rel => exact .inr (.inr (.inr (.inr (.inl ⟨_, _, rfl, HR5, HD5, HO5, lB, HX5⟩))))
      case measure => simp [intOf]
    · clear R3 D3
      have cf : wr.cell? ⟨G, 4, none⟩ = some (.func (.func 66) #[.pointer (some ⟨w.heap.size + 1 + 1, 0, none⟩)] #[]) := by rw [Lib.cell_of_heap HX.out]; rfl
      go_wp2_with fail
      ((with_reducible refine (messageM_any (w.heap.size + 1) r6 _ _ _ _ _ _ _ _ _ _ HR.out (Nat.le_trans h6 (by decide)) ms r7 hS).mono ?_); rintro e w5 ⟨rfl, hR5, ho5⟩)
      have HR5 := Lib.hid hR5
      have HD5 := Lib.hid (HD.out.on2 ho5)
      have HO5 := Lib.hid (own_mv (w' := w5) HO.out (fun k hk hk2 => ho5.k k (by omega) hk2))
      clear hR5 ho5 cf
      go_wp2
      go_roundw
      case rel => exact .inr (.inr (.inr (.inr (.inr (⟨_, _, rfl, HR5, HD5, HO5, lB⟩)))))
      case measure => simp [intOf]
    · clear R3 D3 HX
      obtain ⟨a5, n5, c5, rfl⟩ := own_form HO.out
      obtain ⟨q0, -, -, -, -, -, -, -, -, -⟩ := HR.out.at
      go_wp2_with fail
      ((with_reducible refine (doneR_true _ _ _ HR.out.rd HQ.out).mono ?_); rintro e w9 ⟨rfl, rfl⟩)
      clear q0
      obtain ⟨q1, q2, q3, q4, q5, q6, q7, q8, q9⟩ : w9.cell? ⟨w.heap.size + 1 + 1, 1, none⟩ = some (.int .i64 3) ∧ w9.cell? ⟨w.heap.size + 1 + 1, 2, none⟩ = some (.string ⟨#[]⟩) ∧ w9.cell? ⟨w.heap.size + 1 + 1, 3, none⟩ = some (.slice none 0 0) ∧ w9.cell? ⟨w.heap.size + 1 + 1, 4, none⟩ = some (.int .u64 x) ∧ w9.cell? ⟨w.heap.size + 1 + 1, 5, none⟩ = some (.int .u64 y) ∧ w9.cell? ⟨w.heap.size + 1 + 1, 6, none⟩ = some (.slice a5 n5 c5) ∧ w9.cell? ⟨w.heap.size + 1 + 1, 7, none⟩ = some (.string au) ∧ w9.cell? ⟨w.heap.size + 1 + 1, 8, none⟩ = some (.int .i64 m) ∧ w9.cell? ⟨w.heap.size + 1 + 1, 9, none⟩ = some (.string ms) := HR.out.at.2
      go_wp2_with fail
      ((with_reducible refine (HF.out _ _ _ HO.out).mono ?_); rintro e w9 ⟨rfl, hb9⟩)
      have HR9 := Lib.hid (HR.out.on hb9)
      have HD9 := Lib.hid (HD.out.on hb9)
      have HO9 := Lib.hid (own_mv (w' := w9) HO.out (fun k _ h => hb9.block k h))
      clear q1 q2 q3 q4 q5 q6 q7 q8 q9 hb9
      obtain ⟨d0, d1, d2, d3, d4, d5, d6, d7, d8⟩ := HD9.out.nine
      obtain ⟨f0, f1, f2, f3, f4, f5, f6, f7, f8⟩ := HD9.out.f
      have hb := set9_below HD9.out.b (.int .i64 0) (.string ⟨#[]⟩) (.slice none 0 0) (.int .u64 0) (.int .u64 0) (.slice none 0 0) (.string ⟨#[]⟩) (.int .i64 0) (.string ⟨#[]⟩)
      go_wp2
      exact bodyPost_ret (v := .tuple #[.agg #[.int .i64 0, .string ⟨#[]⟩, .slice none 0 0, .int .u64 0, .int .u64 0, .slice none 0 0, .string ⟨#[]⟩, .int .i64 0, .string ⟨#[]⟩], .int .i64 13]) (by simp [results, Try.results21, go_sem, d0, d1, d2, d3, d4, d5, d6, d7, d8, World.cell?_setCell_other, World.cell?_setCell_same']) rfl ⟨_, rfl, isOb_zero _, hb⟩

set_option maxRecDepth 100000 in
set_option maxHeartbeats 16000000 in
theorem dec3_not (s : BA) (hs : s.size ≤ 65536) (w : World) (r1 : Rd) (hI : rdI (s, false) = (3, r1)) (h1 : r1.1.size ≤ 65536) (x y : Nat) (r2 : Rd) (hT : rdD r1 = ((x, y), r2)) (h2 : r2.1.size ≤ 65536) (n : Nat) (r3 : Rd) (hC : rdC r2 = (n, r3)) (hn : n ≤ 65536) (h3 : r3.1.size ≤ 65536) (P : List Dig) (r4 : Rd) (hP : rdDs n [] r3 = (P, r4)) (_HL : Hid (P.length = n)) (h4 : r4.1.size ≤ 65536) (au : BA) (r5 : Rd) (hA : rdT r4 = (au, r5)) (h5 : r5.1.size ≤ 65536) (m : Nat) (r6 : Rd) (hM : rdI r5 = (m, r6)) (h6 : r6.1.size ≤ 65536) (ms : BA) (r7 : Rd) (hS : rdT r6 = (ms, r7)) (HQ : Hid (¬ r7 = ((⟨#[]⟩, false) : Rd))) :
    Calls Try.prog 21 #[.string s] w fun e w' => ∃ v, e = .returned (.tuple #[v, .int .i64 13]) ∧ IsOb w' v (zOb 0) ∧ Below w.heap.size w w' := by
  obtain ⟨R0, D0⟩ := dec_fresh w s
  have n1 : ¬ 65536 < s.size := by omega
  have IC : Hid (∀ W, RdAt W (w.heap.size + 1) (s, false) → Calls Try.prog 32 #[.pointer (some ⟨w.heap.size + 1, 0, none⟩)] W fun e w' => e = .returned (.int .i64 3) ∧ RdAt w' (w.heap.size + 1) r1 ∧ Only1 (w.heap.size + 1) W w') := Lib.hid fun W hW => intR_any _ (s, false) W hW (Nat.le_trans hs (by decide)) _ r1 hI
  clear hI
  go_enter Try.func21, Try.ntmps21
  go_wp2_with fail
  ((with_reducible refine (readR_any s _).mono ?_); rintro e w1 ⟨rfl, rfl⟩)
  go_wp2_with fail
  ((with_reducible refine (IC.out _ R0.rd).mono ?_); rintro e w2 ⟨rfl, hr1, ho1⟩)
  have R1 := R0.read hr1 ho1
  have D1 := D0.on2 (Only2.one ho1)
  clear R0 D0 hr1 ho1 IC
  obtain ⟨p0, p1, -, -, -, -, -, -, -, -⟩ := R1.at
  have f1 := R1.f 1
  have R2 := R1.setK 3
  have D2 := D1.on2 (Only2.two (Only1.set (N := w.heap.size + 1 + 1) w2 1 (.int .i64 3)))
  clear R1 D1
  go_wp2_with fail
  ((with_reducible refine (readers3 (w.heap.size + 1) _).mono ?_); rintro e w3 ⟨rfl, rfl⟩)
  obtain ⟨G, hG⟩ : ∃ G, (w2.setCell ⟨w.heap.size + 1 + 1, 1, none⟩ (.int .i64 3)).heap.size = G := ⟨_, rfl⟩
  have lG : w.heap.size + 1 + 1 < G := by rw [← hG]; exact R2.lt
  have XF : ((w2.setCell ⟨w.heap.size + 1 + 1, 1, none⟩ (.int .i64 3)).alloc (.cells #[.func (.func 62) #[.pointer (some ⟨w.heap.size + 1 + 1, 0, none⟩)] #[], .func (.func 63) #[.pointer (some ⟨w.heap.size + 1 + 1, 0, none⟩)] #[], .func (.func 64) #[.pointer (some ⟨w.heap.size + 1 + 1, 0, none⟩)] #[], .func (.func 65) #[.pointer (some ⟨w.heap.size + 1 + 1, 0, none⟩)] #[], .func (.func 66) #[.pointer (some ⟨w.heap.size + 1 + 1, 0, none⟩)] #[]] 1)).heap[G]? = some (.cells #[.func (.func 62) #[.pointer (some ⟨w.heap.size + 1 + 1, 0, none⟩)] #[], .func (.func 63) #[.pointer (some ⟨w.heap.size + 1 + 1, 0, none⟩)] #[], .func (.func 64) #[.pointer (some ⟨w.heap.size + 1 + 1, 0, none⟩)] #[], .func (.func 65) #[.pointer (some ⟨w.heap.size + 1 + 1, 0, none⟩)] #[], .func (.func 66) #[.pointer (some ⟨w.heap.size + 1 + 1, 0, none⟩)] #[]] 1 (0, 0)) := by rw [← hG]; exact World.alloc_heap_new _ _
  have R3 := Lib.hid (R2.on ((Below.refl _ _).alloc (Nat.le_refl _) (.cells #[.func (.func 62) #[.pointer (some ⟨w.heap.size + 1 + 1, 0, none⟩)] #[], .func (.func 63) #[.pointer (some ⟨w.heap.size + 1 + 1, 0, none⟩)] #[], .func (.func 64) #[.pointer (some ⟨w.heap.size + 1 + 1, 0, none⟩)] #[], .func (.func 65) #[.pointer (some ⟨w.heap.size + 1 + 1, 0, none⟩)] #[], .func (.func 66) #[.pointer (some ⟨w.heap.size + 1 + 1, 0, none⟩)] #[]] 1)))
  have D3 := Lib.hid (D2.on ((Below.refl _ _).alloc (Nat.le_refl _) (.cells #[.func (.func 62) #[.pointer (some ⟨w.heap.size + 1 + 1, 0, none⟩)] #[], .func (.func 63) #[.pointer (some ⟨w.heap.size + 1 + 1, 0, none⟩)] #[], .func (.func 64) #[.pointer (some ⟨w.heap.size + 1 + 1, 0, none⟩)] #[], .func (.func 65) #[.pointer (some ⟨w.heap.size + 1 + 1, 0, none⟩)] #[], .func (.func 66) #[.pointer (some ⟨w.heap.size + 1 + 1, 0, none⟩)] #[]] 1)))
  have HX := Lib.hid XF
  rw [hG]
  have HG := Lib.hid hG
  clear R2 D2 p0 p1 f1 XF hG
  go_wp2
  go_loopw [32] (fun s32 wr => (s32 = .int .i64 0 ∧ Hid (Ro (w.heap.size + 1) r1 3 ⟨#[]⟩ (.slice none 0 0) 0 0 (.slice none 0 0) ⟨#[]⟩ 0 ⟨#[]⟩ wr) ∧ Hid (Dc w wr) ∧ Hid (wr.heap[G]? = some (.cells #[.func (.func 62) #[.pointer (some ⟨w.heap.size + 1 + 1, 0, none⟩)] #[], .func (.func 63) #[.pointer (some ⟨w.heap.size + 1 + 1, 0, none⟩)] #[], .func (.func 64) #[.pointer (some ⟨w.heap.size + 1 + 1, 0, none⟩)] #[], .func (.func 65) #[.pointer (some ⟨w.heap.size + 1 + 1, 0, none⟩)] #[], .func (.func 66) #[.pointer (some ⟨w.heap.size + 1 + 1, 0, none⟩)] #[]] 1 (0, 0)))) ∨ (s32 = .int .i64 1 ∧ Hid (Ro (w.heap.size + 1) r2 3 ⟨#[]⟩ (.slice none 0 0) x y (.slice none 0 0) ⟨#[]⟩ 0 ⟨#[]⟩ wr) ∧ Hid (Dc w wr) ∧ Hid (wr.heap[G]? = some (.cells #[.func (.func 62) #[.pointer (some ⟨w.heap.size + 1 + 1, 0, none⟩)] #[], .func (.func 63) #[.pointer (some ⟨w.heap.size + 1 + 1, 0, none⟩)] #[], .func (.func 64) #[.pointer (some ⟨w.heap.size + 1 + 1, 0, none⟩)] #[], .func (.func 65) #[.pointer (some ⟨w.heap.size + 1 + 1, 0, none⟩)] #[], .func (.func 66) #[.pointer (some ⟨w.heap.size + 1 + 1, 0, none⟩)] #[]] 1 (0, 0)))) ∨ (∃ (vp : Value) (B : Nat), s32 = .int .i64 2 ∧ Hid (Ro (w.heap.size + 1) r4 3 ⟨#[]⟩ (.slice none 0 0) x y vp ⟨#[]⟩ 0 ⟨#[]⟩ wr) ∧ Hid (Dc w wr) ∧ Hid (wr.ownsRow B 25 2 vp n (rowD P)) ∧ w.heap.size + 1 + 1 < B ∧ Hid (wr.heap[G]? = some (.cells #[.func (.func 62) #[.pointer (some ⟨w.heap.size + 1 + 1, 0, none⟩)] #[], .func (.func 63) #[.pointer (some ⟨w.heap.size + 1 + 1, 0, none⟩)] #[], .func (.func 64) #[.pointer (some ⟨w.heap.size + 1 + 1, 0, none⟩)] #[], .func (.func 65) #[.pointer (some ⟨w.heap.size + 1 + 1, 0, none⟩)] #[], .func (.func 66) #[.pointer (some ⟨w.heap.size + 1 + 1, 0, none⟩)] #[]] 1 (0, 0)))) ∨ (∃ (vp : Value) (B : Nat), s32 = .int .i64 3 ∧ Hid (Ro (w.heap.size + 1) r5 3 ⟨#[]⟩ (.slice none 0 0) x y vp au 0 ⟨#[]⟩ wr) ∧ Hid (Dc w wr) ∧ Hid (wr.ownsRow B 25 2 vp n (rowD P)) ∧ w.heap.size + 1 + 1 < B ∧ Hid (wr.heap[G]? = some (.cells #[.func (.func 62) #[.pointer (some ⟨w.heap.size + 1 + 1, 0, none⟩)] #[], .func (.func 63) #[.pointer (some ⟨w.heap.size + 1 + 1, 0, none⟩)] #[], .func (.func 64) #[.pointer (some ⟨w.heap.size + 1 + 1, 0, none⟩)] #[], .func (.func 65) #[.pointer (some ⟨w.heap.size + 1 + 1, 0, none⟩)] #[], .func (.func 66) #[.pointer (some ⟨w.heap.size + 1 + 1, 0, none⟩)] #[]] 1 (0, 0)))) ∨ (∃ (vp : Value) (B : Nat), s32 = .int .i64 4 ∧ Hid (Ro (w.heap.size + 1) r6 3 ⟨#[]⟩ (.slice none 0 0) x y vp au m ⟨#[]⟩ wr) ∧ Hid (Dc w wr) ∧ Hid (wr.ownsRow B 25 2 vp n (rowD P)) ∧ w.heap.size + 1 + 1 < B ∧ Hid (wr.heap[G]? = some (.cells #[.func (.func 62) #[.pointer (some ⟨w.heap.size + 1 + 1, 0, none⟩)] #[], .func (.func 63) #[.pointer (some ⟨w.heap.size + 1 + 1, 0, none⟩)] #[], .func (.func 64) #[.pointer (some ⟨w.heap.size + 1 + 1, 0, none⟩)] #[], .func (.func 65) #[.pointer (some ⟨w.heap.size + 1 + 1, 0, none⟩)] #[], .func (.func 66) #[.pointer (some ⟨w.heap.size + 1 + 1, 0, none⟩)] #[]] 1 (0, 0)))) ∨ (∃ (vp : Value) (B : Nat), s32 = .int .i64 5 ∧ Hid (Ro (w.heap.size + 1) r7 3 ⟨#[]⟩ (.slice none 0 0) x y vp au m ms wr) ∧ Hid (Dc w wr) ∧ Hid (wr.ownsRow B 25 2 vp n (rowD P)) ∧ w.heap.size + 1 + 1 < B)) (fun i _ => 5 - (intOf i).toNat)
  case atStart => exact .inl ⟨rfl, R3, D3, HX⟩
  case round =>
    rcases hrel with ⟨rfl, HR, HD, HX⟩ | ⟨rfl, HR, HD, HX⟩ | ⟨vp, B, rfl, HR, HD, HO, lB, HX⟩ | ⟨vp, B, rfl, HR, HD, HO, lB, HX⟩ | ⟨vp, B, rfl, HR, HD, HO, lB, HX⟩ | ⟨vp, B, rfl, HR, HD, HO, lB⟩
    · clear R3 D3
      have cf : wr.cell? ⟨G, 0, none⟩ = some (.func (.func 62) #[.pointer (some ⟨w.heap.size + 1 + 1, 0, none⟩)] #[]) := by rw [Lib.cell_of_heap HX.out]; rfl
      go_wp2_with fail
      ((with_reducible refine (treeM_any (w.heap.size + 1) r1 _ _ _ _ _ _ _ _ _ _ HR.out (Nat.le_trans h1 (by decide)) x y r2 hT).mono ?_); rintro e w5 ⟨rfl, hR5, ho5⟩)
      have HR5 := Lib.hid hR5
      have HD5 := Lib.hid (HD.out.on2 ho5)
      have HX5 := Lib.hid (show w5.heap[G]? = some _ from (ho5.k G lG (by have := (Array.getElem?_eq_some_iff.1 HX.out).1; exact this)).trans HX.out)
      clear hR5 ho5 cf
      go_wp2
      go_roundw
      case rel => exact .inr (.inl ⟨rfl, HR5, HD5, HX5⟩)
      case measure => simp [intOf]
    · clear R3 D3
      have cf : wr.cell? ⟨G, 1, none⟩ = some (.func (.func 63) #[.pointer (some ⟨w.heap.size + 1 + 1, 0, none⟩)] #[]) := by rw [Lib.cell_of_heap HX.out]; rfl
      go_wp2_with fail
      ((with_reducible refine (parentsM_any (w.heap.size + 1) r2 _ _ _ _ _ _ _ _ _ HR.out h2 n r3 hC hn h3 P r4 hP).mono ?_); rintro e w5 ⟨rfl, vp, hR5, hO5, -, ho5⟩)
      have HR5 := Lib.hid hR5
      have HD5 := Lib.hid (HD.out.on2 ho5)
      have HO5 := Lib.hid hO5
      have lB := HR.out.lt
      have HX5 := Lib.hid (show w5.heap[G]? = some _ from (ho5.k G lG (by have := (Array.getElem?_eq_some_iff.1 HX.out).1; exact this)).trans HX.out)
      clear hR5 ho5 cf hO5
      go_wp2
      go_roundw
      case rel => exact .inr (.inr (.inl ⟨_, _, rfl, HR5, HD5, HO5, lB, HX5⟩))
      case measure => simp [intOf]
    · clear R3 D3
      have cf : wr.cell? ⟨G, 2, none⟩ = some (.func (.func 64) #[.pointer (some ⟨w.heap.size + 1 + 1, 0, none⟩)] #[]) := by rw [Lib.cell_of_heap HX.out]; rfl
      go_wp2_with fail
      ((with_reducible refine (authorM_any (w.heap.size + 1) r4 _ _ _ _ _ _ _ _ _ _ HR.out (Nat.le_trans h4 (by decide)) au r5 hA).mono ?_); rintro e w5 ⟨rfl, hR5, ho5⟩)
      have HR5 := Lib.hid hR5
      have HD5 := Lib.hid (HD.out.on2 ho5)
      have HX5 := Lib.hid (show w5.heap[G]? = some _ from (ho5.k G lG (by have := (Array.getElem?_eq_some_iff.1 HX.out).1; exact this)).trans HX.out)
      have HO5 := Lib.hid (own_mv (w' := w5) HO.out (fun k hk hk2 => ho5.k k (by omega) hk2))
      clear hR5 ho5 cf
      go_wp2
      go_roundw
      case rel => exact .inr (.inr (.inr (.inl ⟨_, _, rfl, HR5, HD5, HO5, lB, HX5⟩)))
      case measure => simp [intOf]
    · clear R3 D3
      have cf : wr.cell? ⟨G, 3, none⟩ = some (.func (.func 65) #[.pointer (some ⟨w.heap.size + 1 + 1, 0, none⟩)] #[]) := by rw [Lib.cell_of_heap HX.out]; rfl
      go_wp2_with fail
      ((with_reducible refine (timeM_any (w.heap.size + 1) r5 _ _ _ _ _ _ _ _ _ _ HR.out (Nat.le_trans h5 (by decide)) m r6 hM).mono ?_); rintro e w5 ⟨rfl, hR5, ho5⟩)
      have HR5 := Lib.hid hR5
      have HD5 := Lib.hid (HD.out.on2 ho5)
      have HX5 := Lib.hid (show w5.heap[G]? = some _ from (ho5.k G lG (by have := (Array.getElem?_eq_some_iff.1 HX.out).1; exact this)).trans HX.out)
      have HO5 := Lib.hid (own_mv (w' := w5) HO.out (fun k hk hk2 => ho5.k k (by omega) hk2))
      clear hR5 ho5 cf
      go_wp2
      go_roundw
      case rel => exact .inr (.inr (.inr (.inr (.inl ⟨_, _, rfl, HR5, HD5, HO5, lB, HX5⟩))))
      case measure => simp [intOf]
    · clear R3 D3
      have cf : wr.cell? ⟨G, 4, none⟩ = some (.func (.func 66) #[.pointer (some ⟨w.heap.size + 1 + 1, 0, none⟩)] #[]) := by rw [Lib.cell_of_heap HX.out]; rfl
      go_wp2_with fail
      ((with_reducible refine (messageM_any (w.heap.size + 1) r6 _ _ _ _ _ _ _ _ _ _ HR.out (Nat.le_trans h6 (by decide)) ms r7 hS).mono ?_); rintro e w5 ⟨rfl, hR5, ho5⟩)
      have HR5 := Lib.hid hR5
      have HD5 := Lib.hid (HD.out.on2 ho5)
      have HO5 := Lib.hid (own_mv (w' := w5) HO.out (fun k hk hk2 => ho5.k k (by omega) hk2))
      clear hR5 ho5 cf
      go_wp2
      go_roundw
      case rel => exact .inr (.inr (.inr (.inr (.inr (⟨_, _, rfl, HR5, HD5, HO5, lB⟩)))))
      case measure => simp [intOf]
    · clear R3 D3 HX
      obtain ⟨a5, n5, c5, rfl⟩ := own_form HO.out
      obtain ⟨q0, -, -, -, -, -, -, -, -, -⟩ := HR.out.at
      go_wp2_with fail
      ((with_reducible refine (doneR_false _ _ _ HR.out.rd HQ.out).mono ?_); rintro e w9 ⟨rfl, rfl⟩)
      clear q0
      obtain ⟨d0, d1, d2, d3, d4, d5, d6, d7, d8⟩ := HD.out.nine
      obtain ⟨f0, f1, f2, f3, f4, f5, f6, f7, f8⟩ := HD.out.f
      have hb := set9_below HD.out.b (.int .i64 0) (.string ⟨#[]⟩) (.slice none 0 0) (.int .u64 0) (.int .u64 0) (.slice none 0 0) (.string ⟨#[]⟩) (.int .i64 0) (.string ⟨#[]⟩)
      go_wp2
      exact bodyPost_ret (v := .tuple #[.agg #[.int .i64 0, .string ⟨#[]⟩, .slice none 0 0, .int .u64 0, .int .u64 0, .slice none 0 0, .string ⟨#[]⟩, .int .i64 0, .string ⟨#[]⟩], .int .i64 13]) (by simp [results, Try.results21, go_sem, d0, d1, d2, d3, d4, d5, d6, d7, d8, World.cell?_setCell_other, World.cell?_setCell_same']) rfl ⟨_, rfl, isOb_zero _, hb⟩
end Go.Proofs.Ytiaahjoldahlnaa
