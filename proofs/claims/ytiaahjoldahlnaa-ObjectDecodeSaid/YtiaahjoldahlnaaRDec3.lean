/- The reference's Decode of commits, at this translation. -/
import Derived.Test.YtiaahjoldahlnaaRx
import Derived.Deep.RegionLaw
import Derived.Deep.AppendLies
namespace Go.Proofs.Ytiaahjoldahlnaa
open Go.RowKit Go.Great
attribute [local go_sem] eq_arr

def rfDs : Nat → List Dig → Rd → List Dig × Rd
  | 0, A, r => (A, r)
  | n + 1, A, r => if r.2 = true then (A, r) else rfDs n (A ++ [(rfD r).1]) (rfD r).2
theorem rfDs_step (n : Nat) (A : List Dig) (r : Rd) (h : r.2 = false) : rfDs (n + 1) A r = rfDs n (A ++ [(rfD r).1]) (rfD r).2 := by
  rw [rfDs, if_neg (by rw [h]; simp)]
theorem rfDs_stop (n : Nat) (A : List Dig) (r : Rd) (h : n = 0 ∨ r.2 = true) : rfDs n A r = (A, r) := by
  cases n with
  | zero => rfl
  | succ n => rw [rfDs, if_pos (h.resolve_left (by omega))]
theorem rfI_bad {r : Rd} (h : r.2 = true) : (rfI r).2.2 = true := by unfold rfI; rw [if_neg (by rw [h]; simp)]
theorem rfT_bad {r : Rd} (h : r.2 = true) : (rfT r).2.2 = true := by unfold rfT; rw [if_neg (by rw [h]; simp)]
theorem rfD_room (r : Rd) (m : Nat) (h : r.2 = false) (hm : m + r.1.size ≤ 65536) : ((rfD r).2.2 = false → m + 1 + (rfD r).2.1.size ≤ 65536) ∧ (rfD r).2.1.size ≤ 65536 := by
  unfold rfD
  by_cases h16 : 16 ≤ r.1.size
  · rw [if_pos ⟨h, h16⟩]
    simp only [ByteArray.size_extract]
    exact ⟨fun _ => by omega, by omega⟩
  · rw [if_neg (fun e => h16 e.2)]
    exact ⟨fun e => (by cases e), by show r.1.size ≤ 65536; omega⟩

set_option maxRecDepth 100000 in
set_option maxHeartbeats 16000000 in
theorem rdec3_bad (s : BA) (hm : s.size ≤ maxLen) (w : World) (r1 : Rd) (hI : rfI (s, false) = (3, r1)) (h1 : r1.1.size ≤ 65536) (x y : Nat) (r2 : Rd) (hT : rfD r1 = ((x, y), r2)) (h2 : r2.1.size ≤ 65536) (n : Nat) (r3 : Rd) (hC : rfI r2 = (n, r3)) (hn : n ≤ 1099511627776) (h3 : r3.1.size ≤ 65536) (P : List Dig) (r4 : Rd) (hP : rfDs n [] r3 = (P, r4)) (h4 : r4.1.size ≤ 65536) (au : BA) (r5 : Rd) (hA : rfT r4 = (au, r5)) (h5 : r5.1.size ≤ 65536) (m : Nat) (r6 : Rd) (hM : rfI r5 = (m, r6)) (h6 : r6.1.size ≤ 65536) (ms : BA) (rl : Rd) (hS : rfT r6 = (ms, rl)) (HB : Hid (rl.2 = true)) (tt : BA) (c : Int)
    (HF : Hid (∀ W (vp : Value), W.ownsRow (w.heap.size + 1 + 1 + 1) 25 2 vp P.length (rowD P) → Calls Try.prog 18 #[.agg #[.int .i64 3, .string ⟨#[]⟩, .slice none 0 0, .int .u64 x, .int .u64 y, vp, .string au, .int .i64 m, .string ms]] W fun e w' => e = .returned (.tuple #[.string tt, .int .i64 c]) ∧ Below W.heap.size W w')) :
    Calls Try.prog 22 #[.string s] w fun e w' => ∃ v, e = .returned (.tuple #[v, .int .i64 13]) ∧ IsOb w' v (zOb 0) ∧ Below w.heap.size w w' := by
  obtain ⟨i0, hi, hz0, hz1, hz2⟩ := info_parts info25
  have g : ∀ z : Nat, z ≤ 65536 → z ≤ maxLen := fun z hz => Nat.le_trans hz (by decide)
  have TC := Lib.hid (fun W (hW : RfAt W (w.heap.size + 1) r1) => rfD_any _ r1 W hW (g _ h1) x y r2 hT)
  have NC := Lib.hid (fun W (hW : RfAt W (w.heap.size + 1) r2) => rfI_any _ r2 W hW (g _ h2) n r3 hC)
  have AC := Lib.hid (fun W (hW : RfAt W (w.heap.size + 1) r4) => rfT_any _ r4 W hW (g _ h4) au r5 hA)
  have MC := Lib.hid (fun W (hW : RfAt W (w.heap.size + 1) r5) => rfI_any _ r5 W hW (g _ h5) m r6 hM)
  have SC := Lib.hid (fun W (hW : RfAt W (w.heap.size + 1) r6) => rfT_any _ r6 W hW (g _ h6) ms rl hS)
  have DC := Lib.hid (fun (q : Rd) (hq : q.1.size ≤ 65536) W (hW : RfAt W (w.heap.size + 1) q) a b q' (hx : rfD q = ((a, b), q')) => rfD_any _ q W hW (g _ hq) a b q' hx)
  have LATE : Hid (r4.2 = true → rl.2 = true) := Lib.hid fun h => by
    have e5 := rfT_bad h
    rw [hA] at e5
    have e6 := rfI_bad e5
    rw [hM] at e6
    have e7 := rfT_bad e6
    rw [hS] at e7
    exact e7
  have HP := Lib.hid hP
  clear hT hC hP hA hM hS h1 h2 h4 h5 h6 g
  have R0 := rx_fresh w s
  have IC : Hid (∀ W, RfAt W (w.heap.size + 1) (s, false) → Calls Try.prog 35 #[.pointer (some ⟨w.heap.size + 1, 0, none⟩)] W fun e w' => e = .returned (.int .i64 3) ∧ RfAt w' (w.heap.size + 1) r1 ∧ Only1 (w.heap.size + 1) W w') := Lib.hid fun W hW => rfI_any _ (s, false) W hW hm _ r1 hI
  clear hI
  go_enter Try.func22, Try.ntmps22
  go_wp2_with fail
  ((with_reducible refine (IC.out _ R0.rd).mono ?_); rintro e w2 ⟨rfl, hr1, ho1⟩)
  have R1 := R0.read hr1 ho1
  clear R0 hr1 ho1 IC
  have p0 := R1.at.1
  have f0 := R1.f 0
  have HR2 := Lib.hid (R1.setK 3)
  clear R1
  have q3 := HR2.out.at.2.2.2.1
  go_wp2_with fail
  ((with_reducible refine (TC.out _ HR2.out.rd).mono ?_); rintro e w3 ⟨rfl, hr5, ho5⟩)
  have R5 := HR2.out.read hr5 ho5
  clear HR2 hr5 ho5 TC p0 f0 q3
  have p3 := R5.at.2.2.2.1
  have p4 := R5.at.2.2.2.2.1
  have f3 := R5.f 3
  have f4 := R5.f 4
  have HR3 := Lib.hid ((R5.setT1 x).setT2 y)
  clear R5
  go_wp2_with fail
  ((with_reducible refine (NC.out _ HR3.out.rd).mono ?_); rintro e w4 ⟨rfl, hr5, ho5⟩)
  have HR4 := Lib.hid (HR3.out.read hr5 ho5)
  clear HR3 hr5 ho5 NC p3 p4 f3 f4
  go_wp2
  go_loopw [10] (fun s10 wr => ∃ (i : Nat) (A : List Dig) (q : Rd) (vp : Value), i ≤ n ∧ s10 = .int .i64 i ∧ Hid (rfDs (n - i) A q = (P, r4)) ∧ q.1.size ≤ 65536 ∧ A.length ≤ 65537 ∧ Hid (q.2 = false → A.length + q.1.size ≤ 65536) ∧ Hid (Rx w q 3 ⟨#[]⟩ (.slice none 0 0) x y vp ⟨#[]⟩ 0 ⟨#[]⟩ wr) ∧ Hid (wr.ownsRow (w.heap.size + 1 + 1 + 1) 25 2 vp A.length (rowD A))) (fun i _ => n - (intOf i).toNat)
  case atStart => exact ⟨0, [], r3, _, Nat.zero_le _, rfl, HP, h3, Nat.zero_le _, Lib.hid (fun _ => by rw [List.length_nil, Nat.zero_add]; exact h3), HR4, Lib.hid (World.ownsRow_nil _ _ _ _)⟩
  case round =>
    obtain ⟨i, A, q, vp, hi2, rfl, HJ, hq, hA, HL, HR, HO⟩ := hrel
    clear HR4 HP h3
    have cq := HR.out.rd.c1
    by_cases hlt : i < n
    · cases hb2 : q.2 with
      | true =>
        rw [hb2] at cq
        have e := HJ.out
        rw [rfDs_stop _ _ _ (.inr hb2)] at e
        obtain ⟨rfl, rfl⟩ := Prod.mk.inj e
        clear HJ e HL
        have q6 := HR.out.at.2.2.2.2.2.2.1
        go_wp2_with fail
        ((with_reducible refine (AC.out _ HR.out.rd).mono ?_); rintro e w5 ⟨rfl, hr5, ho5⟩)
        have R5 := HR.out.read hr5 ho5
        have O5 := own_mv (w' := w5) HO.out (fun k hk hk2 => ho5.k k (by omega) hk2)
        clear HR HO hr5 ho5 q6
        have p6 := R5.at.2.2.2.2.2.2.1
        have f6 := R5.f 6
        have HR := Lib.hid (R5.setA au)
        have HO := Lib.hid (own_mv (w' := w5.setCell ⟨w.heap.size + 1 + 1, 6, none⟩ (.string au)) O5 (fun k hk _ => Below.heap_setCell w5 ⟨w.heap.size + 1 + 1, 6, none⟩ _ k (show k ≠ w.heap.size + 1 + 1 by omega)))
        clear R5 O5
        have q7 := HR.out.at.2.2.2.2.2.2.2.1
        go_wp2_with fail
        ((with_reducible refine (MC.out _ HR.out.rd).mono ?_); rintro e w6 ⟨rfl, hr5, ho5⟩)
        have R5 := HR.out.read hr5 ho5
        have O5 := own_mv (w' := w6) HO.out (fun k hk hk2 => ho5.k k (by omega) hk2)
        clear HR HO hr5 ho5 q7
        have p7 := R5.at.2.2.2.2.2.2.2.1
        have f7 := R5.f 7
        have HR := Lib.hid (R5.setI m)
        have HO := Lib.hid (own_mv (w' := w6.setCell ⟨w.heap.size + 1 + 1, 7, none⟩ (.int .i64 m)) O5 (fun k hk _ => Below.heap_setCell w6 ⟨w.heap.size + 1 + 1, 7, none⟩ _ k (show k ≠ w.heap.size + 1 + 1 by omega)))
        clear R5 O5
        have q8 := HR.out.at.2.2.2.2.2.2.2.2
        go_wp2_with fail
        ((with_reducible refine (SC.out _ HR.out.rd).mono ?_); rintro e w7 ⟨rfl, hr5, ho5⟩)
        have R5 := HR.out.read hr5 ho5
        have O5 := own_mv (w' := w7) HO.out (fun k hk hk2 => ho5.k k (by omega) hk2)
        clear HR HO hr5 ho5 q8
        have p8 := R5.at.2.2.2.2.2.2.2.2
        have f8 := R5.f 8
        have HR := Lib.hid (R5.setM ms)
        have HO := Lib.hid (own_mv (w' := w7.setCell ⟨w.heap.size + 1 + 1, 8, none⟩ (.string ms)) O5 (fun k hk _ => Below.heap_setCell w7 ⟨w.heap.size + 1 + 1, 8, none⟩ _ k (show k ≠ w.heap.size + 1 + 1 by omega)))
        clear R5 O5
        obtain ⟨w8, hw8⟩ : ∃ w8, w7.setCell ⟨w.heap.size + 1 + 1, 8, none⟩ (.string ms) = w8 := ⟨_, rfl⟩
        rw [hw8] at HR HO
        have HW := Lib.hid hw8
        clear hw8
        go_upto_region 26 with fail
        rw [HW.out]
        clear p8 f8 HW
        obtain ⟨a5, n5, c5, rfl⟩ := own_form HO.out
        obtain ⟨q0, q1, q2, q3, q4, q5, q6, q7, q8⟩ : w8.cell? ⟨w.heap.size + 1 + 1, 0, none⟩ = some (.int .i64 3) ∧ w8.cell? ⟨w.heap.size + 1 + 1, 1, none⟩ = some (.string ⟨#[]⟩) ∧ w8.cell? ⟨w.heap.size + 1 + 1, 2, none⟩ = some (.slice none 0 0) ∧ w8.cell? ⟨w.heap.size + 1 + 1, 3, none⟩ = some (.int .u64 x) ∧ w8.cell? ⟨w.heap.size + 1 + 1, 4, none⟩ = some (.int .u64 y) ∧ w8.cell? ⟨w.heap.size + 1 + 1, 5, none⟩ = some (.slice a5 n5 c5) ∧ w8.cell? ⟨w.heap.size + 1 + 1, 6, none⟩ = some (.string au) ∧ w8.cell? ⟨w.heap.size + 1 + 1, 7, none⟩ = some (.int .i64 m) ∧ w8.cell? ⟨w.heap.size + 1 + 1, 8, none⟩ = some (.string ms) := HR.out.at
        go_wp2_with fail
        ((with_reducible refine (HF.out _ _ HO.out).mono ?_); rintro e w9 ⟨rfl, hb9⟩)
        have HR9 := Lib.hid (HR.out.on hb9)
        have HO9 := Lib.hid (own_mv (w' := w9) HO.out (fun k _ h => hb9.block k h))
        clear q0 q1 q2 q3 q4 q5 q6 q7 q8 hb9
        obtain ⟨q0, q1, q2, q3, q4, q5, q6, q7, q8⟩ : w9.cell? ⟨w.heap.size + 1 + 1, 0, none⟩ = some (.int .i64 3) ∧ w9.cell? ⟨w.heap.size + 1 + 1, 1, none⟩ = some (.string ⟨#[]⟩) ∧ w9.cell? ⟨w.heap.size + 1 + 1, 2, none⟩ = some (.slice none 0 0) ∧ w9.cell? ⟨w.heap.size + 1 + 1, 3, none⟩ = some (.int .u64 x) ∧ w9.cell? ⟨w.heap.size + 1 + 1, 4, none⟩ = some (.int .u64 y) ∧ w9.cell? ⟨w.heap.size + 1 + 1, 5, none⟩ = some (.slice a5 n5 c5) ∧ w9.cell? ⟨w.heap.size + 1 + 1, 6, none⟩ = some (.string au) ∧ w9.cell? ⟨w.heap.size + 1 + 1, 7, none⟩ = some (.int .i64 m) ∧ w9.cell? ⟨w.heap.size + 1 + 1, 8, none⟩ = some (.string ms) := HR9.out.at
        have cb : w9.cell? ⟨w.heap.size + 1, 1, none⟩ = some (.bool true) := by have e := HR9.out.rd.c1; rw [HB.out] at e; exact e
        obtain ⟨d0, d1, d2, d3, d4, d5, d6, d7, d8⟩ := HR9.out.dc.nine
        obtain ⟨f0, f1, f2, f3, f4, f5, f6, f7, f8⟩ := HR9.out.dc.f
        have hb := set9_below HR9.out.b (.int .i64 0) (.string ⟨#[]⟩) (.slice none 0 0) (.int .u64 0) (.int .u64 0) (.slice none 0 0) (.string ⟨#[]⟩) (.int .i64 0) (.string ⟨#[]⟩)
        go_wp2
        exact bodyPost_ret (v := .tuple #[.agg #[.int .i64 0, .string ⟨#[]⟩, .slice none 0 0, .int .u64 0, .int .u64 0, .slice none 0 0, .string ⟨#[]⟩, .int .i64 0, .string ⟨#[]⟩], .int .i64 13]) (by simp [results, Try.results22, go_sem, d0, d1, d2, d3, d4, d5, d6, d7, d8, World.cell?_setCell_other, World.cell?_setCell_same']) rfl ⟨_, rfl, isOb_zero _, hb⟩
      | false =>
        rw [hb2] at cq
        obtain ⟨m2, hm2⟩ : ∃ m2, n - i = m2 + 1 := ⟨n - i - 1, by omega⟩
        rw [hm2] at HJ
        have hroom := HL.out hb2
        obtain ⟨z1, z2⟩ := rfD_room q A.length hb2 hroom
        obtain ⟨a, b, q', hx⟩ : ∃ a b q', rfD q = ((a, b), q') := ⟨_, _, _, rfl⟩
        rw [hx] at z1 z2
        simp only at z1 z2
        have Z1 := Lib.hid z1
        have HJ2 : Hid (rfDs m2 (A ++ [(a, b)]) q' = (P, r4)) := Lib.hid (by
          have := HJ.out
          rw [rfDs_step _ _ _ hb2, hx] at this
          exact this)
        have D2 := Lib.hid (fun W (hW : RfAt W (w.heap.size + 1) q) => DC.out q hq W hW a b q' hx)
        have EN : Hid (n - (i + 1) = m2) := Lib.hid (by omega)
        have start := Lib.hid HR.out.drew
        have c5 := start.out.at.2.2.2.2.2.1
        clear HJ HL hx hm2 z1 hb2
        go_upto_region 22 with fail
        go_region_law (first | (go_simp; go_at_call 37; (with_reducible refine (D2.out _ start.out.rd).mono ?_); rintro e w5 ⟨rfl, hr5, ho5⟩; have h5 := Lib.hid (start.out.read hr5 ho5); have own5 := Lib.hid (own_mv (w' := w5) (show wr.drew.ownsRow (w.heap.size + 1 + 1 + 1) 25 2 vp A.length (rowD A) from HO.out) (fun k hk hk2 => ho5.k k (by omega) hk2)); have l5 := h5.out.lt; have e5 := h5.out.at.2.2.2.2.2.1; clear hr5 ho5) | (refine step_append_lies _ (by rfl) (.tmp 78) (.tmp 81) 26 (by rfl) (w.heap.size + 1 + 1 + 1) 25 i0 (.agg #[.int .u64 0, .int .u64 0]) 2 16 Try.underlying26 hi hz0 hz1 hz2 (by rfl) (by decide) vp A.length (rowD A) (by simp [Act.eval]) (own5.out.alloc _) ⟨w5.heap.size, 0, none⟩ 1 1 [.int .u64 a, .int .u64 b] (by simp [Act.eval]) rfl (two_dig' w5 _ rfl (a, b) _) (dig_one (a, b)) Nat.zero_lt_one (by unfold maxLen; omega) (by omega) (by simp; omega) _ rfl ?_; intro g' cap' w6 hown hgrow _ _; have h6 := Lib.hid (Rx.grown (h5.out.on ((Below.refl _ _).alloc (Nat.le_refl _) (.cells #[.int .u64 a, .int .u64 b] 25))) hgrow (fun k e => (own5.out.lt k e).1)); have e6 := h6.out.at.2.2.2.2.2.1; have f6 := h6.out.f 5; have S6 := Lib.hid (h6.out.setP (.slice (some ⟨g', 0, none⟩) (A.length + 1) cap')); have O6 := Lib.hid (own_mv (w' := w6.setCell ⟨w.heap.size + 1 + 1, 5, none⟩ (.slice (some ⟨g', 0, none⟩) (A.length + 1) cap')) hown (fun k hk _ => Below.heap_setCell w6 ⟨w.heap.size + 1 + 1, 5, none⟩ _ k (show k ≠ w.heap.size + 1 + 1 by omega))); clear hown hgrow))
        all_goals (
          go_wp2
          go_roundw
          case rel => exact ⟨i + 1, A ++ [(a, b)], q', _, by omega, by go_num, Lib.hid (by rw [EN.out]; exact HJ2.out), z2, by simp; omega, Lib.hid (fun e => by have := Z1.out e; simp; omega), S6, Lib.hid (by rw [rowD_snoc, List.length_append]; exact O6.out)⟩
          case measure => simp [intOf]; omega)
    · have e := HJ.out
      rw [rfDs_stop _ _ _ (.inl (by omega))] at e
      obtain ⟨rfl, rfl⟩ := Prod.mk.inj e
      clear HJ e HL
      have q6 := HR.out.at.2.2.2.2.2.2.1
      go_wp2_with fail
      ((with_reducible refine (AC.out _ HR.out.rd).mono ?_); rintro e w5 ⟨rfl, hr5, ho5⟩)
      have R5 := HR.out.read hr5 ho5
      have O5 := own_mv (w' := w5) HO.out (fun k hk hk2 => ho5.k k (by omega) hk2)
      clear HR HO hr5 ho5 q6
      have p6 := R5.at.2.2.2.2.2.2.1
      have f6 := R5.f 6
      have HR := Lib.hid (R5.setA au)
      have HO := Lib.hid (own_mv (w' := w5.setCell ⟨w.heap.size + 1 + 1, 6, none⟩ (.string au)) O5 (fun k hk _ => Below.heap_setCell w5 ⟨w.heap.size + 1 + 1, 6, none⟩ _ k (show k ≠ w.heap.size + 1 + 1 by omega)))
      clear R5 O5
      have q7 := HR.out.at.2.2.2.2.2.2.2.1
      go_wp2_with fail
      ((with_reducible refine (MC.out _ HR.out.rd).mono ?_); rintro e w6 ⟨rfl, hr5, ho5⟩)
      have R5 := HR.out.read hr5 ho5
      have O5 := own_mv (w' := w6) HO.out (fun k hk hk2 => ho5.k k (by omega) hk2)
      clear HR HO hr5 ho5 q7
      have p7 := R5.at.2.2.2.2.2.2.2.1
      have f7 := R5.f 7
      have HR := Lib.hid (R5.setI m)
      have HO := Lib.hid (own_mv (w' := w6.setCell ⟨w.heap.size + 1 + 1, 7, none⟩ (.int .i64 m)) O5 (fun k hk _ => Below.heap_setCell w6 ⟨w.heap.size + 1 + 1, 7, none⟩ _ k (show k ≠ w.heap.size + 1 + 1 by omega)))
      clear R5 O5
      have q8 := HR.out.at.2.2.2.2.2.2.2.2
      go_wp2_with fail
      ((with_reducible refine (SC.out _ HR.out.rd).mono ?_); rintro e w7 ⟨rfl, hr5, ho5⟩)
      have R5 := HR.out.read hr5 ho5
      have O5 := own_mv (w' := w7) HO.out (fun k hk hk2 => ho5.k k (by omega) hk2)
      clear HR HO hr5 ho5 q8
      have p8 := R5.at.2.2.2.2.2.2.2.2
      have f8 := R5.f 8
      have HR := Lib.hid (R5.setM ms)
      have HO := Lib.hid (own_mv (w' := w7.setCell ⟨w.heap.size + 1 + 1, 8, none⟩ (.string ms)) O5 (fun k hk _ => Below.heap_setCell w7 ⟨w.heap.size + 1 + 1, 8, none⟩ _ k (show k ≠ w.heap.size + 1 + 1 by omega)))
      clear R5 O5
      obtain ⟨w8, hw8⟩ : ∃ w8, w7.setCell ⟨w.heap.size + 1 + 1, 8, none⟩ (.string ms) = w8 := ⟨_, rfl⟩
      rw [hw8] at HR HO
      have HW := Lib.hid hw8
      clear hw8
      go_upto_region 26 with fail
      rw [HW.out]
      clear p8 f8 HW
      obtain ⟨a5, n5, c5, rfl⟩ := own_form HO.out
      obtain ⟨q0, q1, q2, q3, q4, q5, q6, q7, q8⟩ : w8.cell? ⟨w.heap.size + 1 + 1, 0, none⟩ = some (.int .i64 3) ∧ w8.cell? ⟨w.heap.size + 1 + 1, 1, none⟩ = some (.string ⟨#[]⟩) ∧ w8.cell? ⟨w.heap.size + 1 + 1, 2, none⟩ = some (.slice none 0 0) ∧ w8.cell? ⟨w.heap.size + 1 + 1, 3, none⟩ = some (.int .u64 x) ∧ w8.cell? ⟨w.heap.size + 1 + 1, 4, none⟩ = some (.int .u64 y) ∧ w8.cell? ⟨w.heap.size + 1 + 1, 5, none⟩ = some (.slice a5 n5 c5) ∧ w8.cell? ⟨w.heap.size + 1 + 1, 6, none⟩ = some (.string au) ∧ w8.cell? ⟨w.heap.size + 1 + 1, 7, none⟩ = some (.int .i64 m) ∧ w8.cell? ⟨w.heap.size + 1 + 1, 8, none⟩ = some (.string ms) := HR.out.at
      go_wp2_with fail
      ((with_reducible refine (HF.out _ _ HO.out).mono ?_); rintro e w9 ⟨rfl, hb9⟩)
      have HR9 := Lib.hid (HR.out.on hb9)
      have HO9 := Lib.hid (own_mv (w' := w9) HO.out (fun k _ h => hb9.block k h))
      clear q0 q1 q2 q3 q4 q5 q6 q7 q8 hb9
      obtain ⟨q0, q1, q2, q3, q4, q5, q6, q7, q8⟩ : w9.cell? ⟨w.heap.size + 1 + 1, 0, none⟩ = some (.int .i64 3) ∧ w9.cell? ⟨w.heap.size + 1 + 1, 1, none⟩ = some (.string ⟨#[]⟩) ∧ w9.cell? ⟨w.heap.size + 1 + 1, 2, none⟩ = some (.slice none 0 0) ∧ w9.cell? ⟨w.heap.size + 1 + 1, 3, none⟩ = some (.int .u64 x) ∧ w9.cell? ⟨w.heap.size + 1 + 1, 4, none⟩ = some (.int .u64 y) ∧ w9.cell? ⟨w.heap.size + 1 + 1, 5, none⟩ = some (.slice a5 n5 c5) ∧ w9.cell? ⟨w.heap.size + 1 + 1, 6, none⟩ = some (.string au) ∧ w9.cell? ⟨w.heap.size + 1 + 1, 7, none⟩ = some (.int .i64 m) ∧ w9.cell? ⟨w.heap.size + 1 + 1, 8, none⟩ = some (.string ms) := HR9.out.at
      have cb : w9.cell? ⟨w.heap.size + 1, 1, none⟩ = some (.bool true) := by have e := HR9.out.rd.c1; rw [HB.out] at e; exact e
      obtain ⟨d0, d1, d2, d3, d4, d5, d6, d7, d8⟩ := HR9.out.dc.nine
      obtain ⟨f0, f1, f2, f3, f4, f5, f6, f7, f8⟩ := HR9.out.dc.f
      have hb := set9_below HR9.out.b (.int .i64 0) (.string ⟨#[]⟩) (.slice none 0 0) (.int .u64 0) (.int .u64 0) (.slice none 0 0) (.string ⟨#[]⟩) (.int .i64 0) (.string ⟨#[]⟩)
      go_wp2
      exact bodyPost_ret (v := .tuple #[.agg #[.int .i64 0, .string ⟨#[]⟩, .slice none 0 0, .int .u64 0, .int .u64 0, .slice none 0 0, .string ⟨#[]⟩, .int .i64 0, .string ⟨#[]⟩], .int .i64 13]) (by simp [results, Try.results22, go_sem, d0, d1, d2, d3, d4, d5, d6, d7, d8, World.cell?_setCell_other, World.cell?_setCell_same']) rfl ⟨_, rfl, isOb_zero _, hb⟩

set_option maxRecDepth 100000 in
set_option maxHeartbeats 16000000 in
theorem rdec3_chk (s : BA) (hm : s.size ≤ maxLen) (w : World) (r1 : Rd) (hI : rfI (s, false) = (3, r1)) (h1 : r1.1.size ≤ 65536) (x y : Nat) (r2 : Rd) (hT : rfD r1 = ((x, y), r2)) (h2 : r2.1.size ≤ 65536) (n : Nat) (r3 : Rd) (hC : rfI r2 = (n, r3)) (hn : n ≤ 1099511627776) (h3 : r3.1.size ≤ 65536) (P : List Dig) (r4 : Rd) (hP : rfDs n [] r3 = (P, r4)) (h4 : r4.1.size ≤ 65536) (au : BA) (r5 : Rd) (hA : rfT r4 = (au, r5)) (h5 : r5.1.size ≤ 65536) (m : Nat) (r6 : Rd) (hM : rfI r5 = (m, r6)) (h6 : r6.1.size ≤ 65536) (ms : BA) (rl : Rd) (hS : rfT r6 = (ms, rl)) (HB : Hid (rl.2 = false)) (tt : BA) (c : Int) (hc : c ≠ 0)
    (HF : Hid (∀ W (vp : Value), W.ownsRow (w.heap.size + 1 + 1 + 1) 25 2 vp P.length (rowD P) → Calls Try.prog 18 #[.agg #[.int .i64 3, .string ⟨#[]⟩, .slice none 0 0, .int .u64 x, .int .u64 y, vp, .string au, .int .i64 m, .string ms]] W fun e w' => e = .returned (.tuple #[.string tt, .int .i64 c]) ∧ Below W.heap.size W w')) :
    Calls Try.prog 22 #[.string s] w fun e w' => ∃ v, e = .returned (.tuple #[v, .int .i64 13]) ∧ IsOb w' v (zOb 0) ∧ Below w.heap.size w w' := by
  have hne : (c != 0) = true := by simpa using hc
  clear hc
  obtain ⟨i0, hi, hz0, hz1, hz2⟩ := info_parts info25
  have g : ∀ z : Nat, z ≤ 65536 → z ≤ maxLen := fun z hz => Nat.le_trans hz (by decide)
  have TC := Lib.hid (fun W (hW : RfAt W (w.heap.size + 1) r1) => rfD_any _ r1 W hW (g _ h1) x y r2 hT)
  have NC := Lib.hid (fun W (hW : RfAt W (w.heap.size + 1) r2) => rfI_any _ r2 W hW (g _ h2) n r3 hC)
  have AC := Lib.hid (fun W (hW : RfAt W (w.heap.size + 1) r4) => rfT_any _ r4 W hW (g _ h4) au r5 hA)
  have MC := Lib.hid (fun W (hW : RfAt W (w.heap.size + 1) r5) => rfI_any _ r5 W hW (g _ h5) m r6 hM)
  have SC := Lib.hid (fun W (hW : RfAt W (w.heap.size + 1) r6) => rfT_any _ r6 W hW (g _ h6) ms rl hS)
  have DC := Lib.hid (fun (q : Rd) (hq : q.1.size ≤ 65536) W (hW : RfAt W (w.heap.size + 1) q) a b q' (hx : rfD q = ((a, b), q')) => rfD_any _ q W hW (g _ hq) a b q' hx)
  have LATE : Hid (r4.2 = true → rl.2 = true) := Lib.hid fun h => by
    have e5 := rfT_bad h
    rw [hA] at e5
    have e6 := rfI_bad e5
    rw [hM] at e6
    have e7 := rfT_bad e6
    rw [hS] at e7
    exact e7
  have HP := Lib.hid hP
  clear hT hC hP hA hM hS h1 h2 h4 h5 h6 g
  have R0 := rx_fresh w s
  have IC : Hid (∀ W, RfAt W (w.heap.size + 1) (s, false) → Calls Try.prog 35 #[.pointer (some ⟨w.heap.size + 1, 0, none⟩)] W fun e w' => e = .returned (.int .i64 3) ∧ RfAt w' (w.heap.size + 1) r1 ∧ Only1 (w.heap.size + 1) W w') := Lib.hid fun W hW => rfI_any _ (s, false) W hW hm _ r1 hI
  clear hI
  go_enter Try.func22, Try.ntmps22
  go_wp2_with fail
  ((with_reducible refine (IC.out _ R0.rd).mono ?_); rintro e w2 ⟨rfl, hr1, ho1⟩)
  have R1 := R0.read hr1 ho1
  clear R0 hr1 ho1 IC
  have p0 := R1.at.1
  have f0 := R1.f 0
  have HR2 := Lib.hid (R1.setK 3)
  clear R1
  have q3 := HR2.out.at.2.2.2.1
  go_wp2_with fail
  ((with_reducible refine (TC.out _ HR2.out.rd).mono ?_); rintro e w3 ⟨rfl, hr5, ho5⟩)
  have R5 := HR2.out.read hr5 ho5
  clear HR2 hr5 ho5 TC p0 f0 q3
  have p3 := R5.at.2.2.2.1
  have p4 := R5.at.2.2.2.2.1
  have f3 := R5.f 3
  have f4 := R5.f 4
  have HR3 := Lib.hid ((R5.setT1 x).setT2 y)
  clear R5
  go_wp2_with fail
  ((with_reducible refine (NC.out _ HR3.out.rd).mono ?_); rintro e w4 ⟨rfl, hr5, ho5⟩)
  have HR4 := Lib.hid (HR3.out.read hr5 ho5)
  clear HR3 hr5 ho5 NC p3 p4 f3 f4
  go_wp2
  go_loopw [10] (fun s10 wr => ∃ (i : Nat) (A : List Dig) (q : Rd) (vp : Value), i ≤ n ∧ s10 = .int .i64 i ∧ Hid (rfDs (n - i) A q = (P, r4)) ∧ q.1.size ≤ 65536 ∧ A.length ≤ 65537 ∧ Hid (q.2 = false → A.length + q.1.size ≤ 65536) ∧ Hid (Rx w q 3 ⟨#[]⟩ (.slice none 0 0) x y vp ⟨#[]⟩ 0 ⟨#[]⟩ wr) ∧ Hid (wr.ownsRow (w.heap.size + 1 + 1 + 1) 25 2 vp A.length (rowD A))) (fun i _ => n - (intOf i).toNat)
  case atStart => exact ⟨0, [], r3, _, Nat.zero_le _, rfl, HP, h3, Nat.zero_le _, Lib.hid (fun _ => by rw [List.length_nil, Nat.zero_add]; exact h3), HR4, Lib.hid (World.ownsRow_nil _ _ _ _)⟩
  case round =>
    obtain ⟨i, A, q, vp, hi2, rfl, HJ, hq, hA, HL, HR, HO⟩ := hrel
    clear HR4 HP h3
    have cq := HR.out.rd.c1
    by_cases hlt : i < n
    · cases hb2 : q.2 with
      | true =>
        rw [hb2] at cq
        have e := HJ.out
        rw [rfDs_stop _ _ _ (.inr hb2)] at e
        obtain ⟨rfl, rfl⟩ := Prod.mk.inj e
        have := LATE.out hb2
        rw [HB.out] at this
        cases this
      | false =>
        rw [hb2] at cq
        obtain ⟨m2, hm2⟩ : ∃ m2, n - i = m2 + 1 := ⟨n - i - 1, by omega⟩
        rw [hm2] at HJ
        have hroom := HL.out hb2
        obtain ⟨z1, z2⟩ := rfD_room q A.length hb2 hroom
        obtain ⟨a, b, q', hx⟩ : ∃ a b q', rfD q = ((a, b), q') := ⟨_, _, _, rfl⟩
        rw [hx] at z1 z2
        simp only at z1 z2
        have Z1 := Lib.hid z1
        have HJ2 : Hid (rfDs m2 (A ++ [(a, b)]) q' = (P, r4)) := Lib.hid (by
          have := HJ.out
          rw [rfDs_step _ _ _ hb2, hx] at this
          exact this)
        have D2 := Lib.hid (fun W (hW : RfAt W (w.heap.size + 1) q) => DC.out q hq W hW a b q' hx)
        have EN : Hid (n - (i + 1) = m2) := Lib.hid (by omega)
        have start := Lib.hid HR.out.drew
        have c5 := start.out.at.2.2.2.2.2.1
        clear HJ HL hx hm2 z1 hb2
        go_upto_region 22 with fail
        go_region_law (first | (go_simp; go_at_call 37; (with_reducible refine (D2.out _ start.out.rd).mono ?_); rintro e w5 ⟨rfl, hr5, ho5⟩; have h5 := Lib.hid (start.out.read hr5 ho5); have own5 := Lib.hid (own_mv (w' := w5) (show wr.drew.ownsRow (w.heap.size + 1 + 1 + 1) 25 2 vp A.length (rowD A) from HO.out) (fun k hk hk2 => ho5.k k (by omega) hk2)); have l5 := h5.out.lt; have e5 := h5.out.at.2.2.2.2.2.1; clear hr5 ho5) | (refine step_append_lies _ (by rfl) (.tmp 78) (.tmp 81) 26 (by rfl) (w.heap.size + 1 + 1 + 1) 25 i0 (.agg #[.int .u64 0, .int .u64 0]) 2 16 Try.underlying26 hi hz0 hz1 hz2 (by rfl) (by decide) vp A.length (rowD A) (by simp [Act.eval]) (own5.out.alloc _) ⟨w5.heap.size, 0, none⟩ 1 1 [.int .u64 a, .int .u64 b] (by simp [Act.eval]) rfl (two_dig' w5 _ rfl (a, b) _) (dig_one (a, b)) Nat.zero_lt_one (by unfold maxLen; omega) (by omega) (by simp; omega) _ rfl ?_; intro g' cap' w6 hown hgrow _ _; have h6 := Lib.hid (Rx.grown (h5.out.on ((Below.refl _ _).alloc (Nat.le_refl _) (.cells #[.int .u64 a, .int .u64 b] 25))) hgrow (fun k e => (own5.out.lt k e).1)); have e6 := h6.out.at.2.2.2.2.2.1; have f6 := h6.out.f 5; have S6 := Lib.hid (h6.out.setP (.slice (some ⟨g', 0, none⟩) (A.length + 1) cap')); have O6 := Lib.hid (own_mv (w' := w6.setCell ⟨w.heap.size + 1 + 1, 5, none⟩ (.slice (some ⟨g', 0, none⟩) (A.length + 1) cap')) hown (fun k hk _ => Below.heap_setCell w6 ⟨w.heap.size + 1 + 1, 5, none⟩ _ k (show k ≠ w.heap.size + 1 + 1 by omega))); clear hown hgrow))
        all_goals (
          go_wp2
          go_roundw
          case rel => exact ⟨i + 1, A ++ [(a, b)], q', _, by omega, by go_num, Lib.hid (by rw [EN.out]; exact HJ2.out), z2, by simp; omega, Lib.hid (fun e => by have := Z1.out e; simp; omega), S6, Lib.hid (by rw [rowD_snoc, List.length_append]; exact O6.out)⟩
          case measure => simp [intOf]; omega)
    · have e := HJ.out
      rw [rfDs_stop _ _ _ (.inl (by omega))] at e
      obtain ⟨rfl, rfl⟩ := Prod.mk.inj e
      clear HJ e HL
      have q6 := HR.out.at.2.2.2.2.2.2.1
      go_wp2_with fail
      ((with_reducible refine (AC.out _ HR.out.rd).mono ?_); rintro e w5 ⟨rfl, hr5, ho5⟩)
      have R5 := HR.out.read hr5 ho5
      have O5 := own_mv (w' := w5) HO.out (fun k hk hk2 => ho5.k k (by omega) hk2)
      clear HR HO hr5 ho5 q6
      have p6 := R5.at.2.2.2.2.2.2.1
      have f6 := R5.f 6
      have HR := Lib.hid (R5.setA au)
      have HO := Lib.hid (own_mv (w' := w5.setCell ⟨w.heap.size + 1 + 1, 6, none⟩ (.string au)) O5 (fun k hk _ => Below.heap_setCell w5 ⟨w.heap.size + 1 + 1, 6, none⟩ _ k (show k ≠ w.heap.size + 1 + 1 by omega)))
      clear R5 O5
      have q7 := HR.out.at.2.2.2.2.2.2.2.1
      go_wp2_with fail
      ((with_reducible refine (MC.out _ HR.out.rd).mono ?_); rintro e w6 ⟨rfl, hr5, ho5⟩)
      have R5 := HR.out.read hr5 ho5
      have O5 := own_mv (w' := w6) HO.out (fun k hk hk2 => ho5.k k (by omega) hk2)
      clear HR HO hr5 ho5 q7
      have p7 := R5.at.2.2.2.2.2.2.2.1
      have f7 := R5.f 7
      have HR := Lib.hid (R5.setI m)
      have HO := Lib.hid (own_mv (w' := w6.setCell ⟨w.heap.size + 1 + 1, 7, none⟩ (.int .i64 m)) O5 (fun k hk _ => Below.heap_setCell w6 ⟨w.heap.size + 1 + 1, 7, none⟩ _ k (show k ≠ w.heap.size + 1 + 1 by omega)))
      clear R5 O5
      have q8 := HR.out.at.2.2.2.2.2.2.2.2
      go_wp2_with fail
      ((with_reducible refine (SC.out _ HR.out.rd).mono ?_); rintro e w7 ⟨rfl, hr5, ho5⟩)
      have R5 := HR.out.read hr5 ho5
      have O5 := own_mv (w' := w7) HO.out (fun k hk hk2 => ho5.k k (by omega) hk2)
      clear HR HO hr5 ho5 q8
      have p8 := R5.at.2.2.2.2.2.2.2.2
      have f8 := R5.f 8
      have HR := Lib.hid (R5.setM ms)
      have HO := Lib.hid (own_mv (w' := w7.setCell ⟨w.heap.size + 1 + 1, 8, none⟩ (.string ms)) O5 (fun k hk _ => Below.heap_setCell w7 ⟨w.heap.size + 1 + 1, 8, none⟩ _ k (show k ≠ w.heap.size + 1 + 1 by omega)))
      clear R5 O5
      obtain ⟨w8, hw8⟩ : ∃ w8, w7.setCell ⟨w.heap.size + 1 + 1, 8, none⟩ (.string ms) = w8 := ⟨_, rfl⟩
      rw [hw8] at HR HO
      have HW := Lib.hid hw8
      clear hw8
      go_upto_region 26 with fail
      rw [HW.out]
      clear p8 f8 HW
      obtain ⟨a5, n5, c5, rfl⟩ := own_form HO.out
      obtain ⟨q0, q1, q2, q3, q4, q5, q6, q7, q8⟩ : w8.cell? ⟨w.heap.size + 1 + 1, 0, none⟩ = some (.int .i64 3) ∧ w8.cell? ⟨w.heap.size + 1 + 1, 1, none⟩ = some (.string ⟨#[]⟩) ∧ w8.cell? ⟨w.heap.size + 1 + 1, 2, none⟩ = some (.slice none 0 0) ∧ w8.cell? ⟨w.heap.size + 1 + 1, 3, none⟩ = some (.int .u64 x) ∧ w8.cell? ⟨w.heap.size + 1 + 1, 4, none⟩ = some (.int .u64 y) ∧ w8.cell? ⟨w.heap.size + 1 + 1, 5, none⟩ = some (.slice a5 n5 c5) ∧ w8.cell? ⟨w.heap.size + 1 + 1, 6, none⟩ = some (.string au) ∧ w8.cell? ⟨w.heap.size + 1 + 1, 7, none⟩ = some (.int .i64 m) ∧ w8.cell? ⟨w.heap.size + 1 + 1, 8, none⟩ = some (.string ms) := HR.out.at
      go_wp2_with fail
      ((with_reducible refine (HF.out _ _ HO.out).mono ?_); rintro e w9 ⟨rfl, hb9⟩)
      have HR9 := Lib.hid (HR.out.on hb9)
      have HO9 := Lib.hid (own_mv (w' := w9) HO.out (fun k _ h => hb9.block k h))
      clear q0 q1 q2 q3 q4 q5 q6 q7 q8 hb9
      obtain ⟨q0, q1, q2, q3, q4, q5, q6, q7, q8⟩ : w9.cell? ⟨w.heap.size + 1 + 1, 0, none⟩ = some (.int .i64 3) ∧ w9.cell? ⟨w.heap.size + 1 + 1, 1, none⟩ = some (.string ⟨#[]⟩) ∧ w9.cell? ⟨w.heap.size + 1 + 1, 2, none⟩ = some (.slice none 0 0) ∧ w9.cell? ⟨w.heap.size + 1 + 1, 3, none⟩ = some (.int .u64 x) ∧ w9.cell? ⟨w.heap.size + 1 + 1, 4, none⟩ = some (.int .u64 y) ∧ w9.cell? ⟨w.heap.size + 1 + 1, 5, none⟩ = some (.slice a5 n5 c5) ∧ w9.cell? ⟨w.heap.size + 1 + 1, 6, none⟩ = some (.string au) ∧ w9.cell? ⟨w.heap.size + 1 + 1, 7, none⟩ = some (.int .i64 m) ∧ w9.cell? ⟨w.heap.size + 1 + 1, 8, none⟩ = some (.string ms) := HR9.out.at
      have cb : w9.cell? ⟨w.heap.size + 1, 1, none⟩ = some (.bool false) := by have e := HR9.out.rd.c1; rw [HB.out] at e; exact e
      obtain ⟨d0, d1, d2, d3, d4, d5, d6, d7, d8⟩ := HR9.out.dc.nine
      obtain ⟨f0, f1, f2, f3, f4, f5, f6, f7, f8⟩ := HR9.out.dc.f
      have hb := set9_below HR9.out.b (.int .i64 0) (.string ⟨#[]⟩) (.slice none 0 0) (.int .u64 0) (.int .u64 0) (.slice none 0 0) (.string ⟨#[]⟩) (.int .i64 0) (.string ⟨#[]⟩)
      go_wp2
      exact bodyPost_ret (v := .tuple #[.agg #[.int .i64 0, .string ⟨#[]⟩, .slice none 0 0, .int .u64 0, .int .u64 0, .slice none 0 0, .string ⟨#[]⟩, .int .i64 0, .string ⟨#[]⟩], .int .i64 13]) (by simp [results, Try.results22, go_sem, d0, d1, d2, d3, d4, d5, d6, d7, d8, World.cell?_setCell_other, World.cell?_setCell_same']) rfl ⟨_, rfl, isOb_zero _, hb⟩

set_option maxRecDepth 100000 in
set_option maxHeartbeats 16000000 in
theorem rdec3_dif (s : BA) (hm : s.size ≤ maxLen) (w : World) (r1 : Rd) (hI : rfI (s, false) = (3, r1)) (h1 : r1.1.size ≤ 65536) (x y : Nat) (r2 : Rd) (hT : rfD r1 = ((x, y), r2)) (h2 : r2.1.size ≤ 65536) (n : Nat) (r3 : Rd) (hC : rfI r2 = (n, r3)) (hn : n ≤ 1099511627776) (h3 : r3.1.size ≤ 65536) (P : List Dig) (r4 : Rd) (hP : rfDs n [] r3 = (P, r4)) (h4 : r4.1.size ≤ 65536) (au : BA) (r5 : Rd) (hA : rfT r4 = (au, r5)) (h5 : r5.1.size ≤ 65536) (m : Nat) (r6 : Rd) (hM : rfI r5 = (m, r6)) (h6 : r6.1.size ≤ 65536) (ms : BA) (rl : Rd) (hS : rfT r6 = (ms, rl)) (HB : Hid (rl.2 = false)) (tt : BA) (hdif : tt ≠ s)
    (HF : Hid (∀ W (vp : Value), W.ownsRow (w.heap.size + 1 + 1 + 1) 25 2 vp P.length (rowD P) → Calls Try.prog 18 #[.agg #[.int .i64 3, .string ⟨#[]⟩, .slice none 0 0, .int .u64 x, .int .u64 y, vp, .string au, .int .i64 m, .string ms]] W fun e w' => e = .returned (.tuple #[.string tt, .int .i64 0]) ∧ Below W.heap.size W w')) :
    Calls Try.prog 22 #[.string s] w fun e w' => ∃ v, e = .returned (.tuple #[v, .int .i64 13]) ∧ IsOb w' v (zOb 0) ∧ Below w.heap.size w w' := by
  have hne : (tt.toList == s.toList) = false := by rw [str_eq]; simpa using hdif
  clear hdif
  obtain ⟨i0, hi, hz0, hz1, hz2⟩ := info_parts info25
  have g : ∀ z : Nat, z ≤ 65536 → z ≤ maxLen := fun z hz => Nat.le_trans hz (by decide)
  have TC := Lib.hid (fun W (hW : RfAt W (w.heap.size + 1) r1) => rfD_any _ r1 W hW (g _ h1) x y r2 hT)
  have NC := Lib.hid (fun W (hW : RfAt W (w.heap.size + 1) r2) => rfI_any _ r2 W hW (g _ h2) n r3 hC)
  have AC := Lib.hid (fun W (hW : RfAt W (w.heap.size + 1) r4) => rfT_any _ r4 W hW (g _ h4) au r5 hA)
  have MC := Lib.hid (fun W (hW : RfAt W (w.heap.size + 1) r5) => rfI_any _ r5 W hW (g _ h5) m r6 hM)
  have SC := Lib.hid (fun W (hW : RfAt W (w.heap.size + 1) r6) => rfT_any _ r6 W hW (g _ h6) ms rl hS)
  have DC := Lib.hid (fun (q : Rd) (hq : q.1.size ≤ 65536) W (hW : RfAt W (w.heap.size + 1) q) a b q' (hx : rfD q = ((a, b), q')) => rfD_any _ q W hW (g _ hq) a b q' hx)
  have LATE : Hid (r4.2 = true → rl.2 = true) := Lib.hid fun h => by
    have e5 := rfT_bad h
    rw [hA] at e5
    have e6 := rfI_bad e5
    rw [hM] at e6
    have e7 := rfT_bad e6
    rw [hS] at e7
    exact e7
  have HP := Lib.hid hP
  clear hT hC hP hA hM hS h1 h2 h4 h5 h6 g
  have R0 := rx_fresh w s
  have IC : Hid (∀ W, RfAt W (w.heap.size + 1) (s, false) → Calls Try.prog 35 #[.pointer (some ⟨w.heap.size + 1, 0, none⟩)] W fun e w' => e = .returned (.int .i64 3) ∧ RfAt w' (w.heap.size + 1) r1 ∧ Only1 (w.heap.size + 1) W w') := Lib.hid fun W hW => rfI_any _ (s, false) W hW hm _ r1 hI
  clear hI
  go_enter Try.func22, Try.ntmps22
  go_wp2_with fail
  ((with_reducible refine (IC.out _ R0.rd).mono ?_); rintro e w2 ⟨rfl, hr1, ho1⟩)
  have R1 := R0.read hr1 ho1
  clear R0 hr1 ho1 IC
  have p0 := R1.at.1
  have f0 := R1.f 0
  have HR2 := Lib.hid (R1.setK 3)
  clear R1
  have q3 := HR2.out.at.2.2.2.1
  go_wp2_with fail
  ((with_reducible refine (TC.out _ HR2.out.rd).mono ?_); rintro e w3 ⟨rfl, hr5, ho5⟩)
  have R5 := HR2.out.read hr5 ho5
  clear HR2 hr5 ho5 TC p0 f0 q3
  have p3 := R5.at.2.2.2.1
  have p4 := R5.at.2.2.2.2.1
  have f3 := R5.f 3
  have f4 := R5.f 4
  have HR3 := Lib.hid ((R5.setT1 x).setT2 y)
  clear R5
  go_wp2_with fail
  ((with_reducible refine (NC.out _ HR3.out.rd).mono ?_); rintro e w4 ⟨rfl, hr5, ho5⟩)
  have HR4 := Lib.hid (HR3.out.read hr5 ho5)
  clear HR3 hr5 ho5 NC p3 p4 f3 f4
  go_wp2
  go_loopw [10] (fun s10 wr => ∃ (i : Nat) (A : List Dig) (q : Rd) (vp : Value), i ≤ n ∧ s10 = .int .i64 i ∧ Hid (rfDs (n - i) A q = (P, r4)) ∧ q.1.size ≤ 65536 ∧ A.length ≤ 65537 ∧ Hid (q.2 = false → A.length + q.1.size ≤ 65536) ∧ Hid (Rx w q 3 ⟨#[]⟩ (.slice none 0 0) x y vp ⟨#[]⟩ 0 ⟨#[]⟩ wr) ∧ Hid (wr.ownsRow (w.heap.size + 1 + 1 + 1) 25 2 vp A.length (rowD A))) (fun i _ => n - (intOf i).toNat)
  case atStart => exact ⟨0, [], r3, _, Nat.zero_le _, rfl, HP, h3, Nat.zero_le _, Lib.hid (fun _ => by rw [List.length_nil, Nat.zero_add]; exact h3), HR4, Lib.hid (World.ownsRow_nil _ _ _ _)⟩
  case round =>
    obtain ⟨i, A, q, vp, hi2, rfl, HJ, hq, hA, HL, HR, HO⟩ := hrel
    clear HR4 HP h3
    have cq := HR.out.rd.c1
    by_cases hlt : i < n
    · cases hb2 : q.2 with
      | true =>
        rw [hb2] at cq
        have e := HJ.out
        rw [rfDs_stop _ _ _ (.inr hb2)] at e
        obtain ⟨rfl, rfl⟩ := Prod.mk.inj e
        have := LATE.out hb2
        rw [HB.out] at this
        cases this
      | false =>
        rw [hb2] at cq
        obtain ⟨m2, hm2⟩ : ∃ m2, n - i = m2 + 1 := ⟨n - i - 1, by omega⟩
        rw [hm2] at HJ
        have hroom := HL.out hb2
        obtain ⟨z1, z2⟩ := rfD_room q A.length hb2 hroom
        obtain ⟨a, b, q', hx⟩ : ∃ a b q', rfD q = ((a, b), q') := ⟨_, _, _, rfl⟩
        rw [hx] at z1 z2
        simp only at z1 z2
        have Z1 := Lib.hid z1
        have HJ2 : Hid (rfDs m2 (A ++ [(a, b)]) q' = (P, r4)) := Lib.hid (by
          have := HJ.out
          rw [rfDs_step _ _ _ hb2, hx] at this
          exact this)
        have D2 := Lib.hid (fun W (hW : RfAt W (w.heap.size + 1) q) => DC.out q hq W hW a b q' hx)
        have EN : Hid (n - (i + 1) = m2) := Lib.hid (by omega)
        have start := Lib.hid HR.out.drew
        have c5 := start.out.at.2.2.2.2.2.1
        clear HJ HL hx hm2 z1 hb2
        go_upto_region 22 with fail
        go_region_law (first | (go_simp; go_at_call 37; (with_reducible refine (D2.out _ start.out.rd).mono ?_); rintro e w5 ⟨rfl, hr5, ho5⟩; have h5 := Lib.hid (start.out.read hr5 ho5); have own5 := Lib.hid (own_mv (w' := w5) (show wr.drew.ownsRow (w.heap.size + 1 + 1 + 1) 25 2 vp A.length (rowD A) from HO.out) (fun k hk hk2 => ho5.k k (by omega) hk2)); have l5 := h5.out.lt; have e5 := h5.out.at.2.2.2.2.2.1; clear hr5 ho5) | (refine step_append_lies _ (by rfl) (.tmp 78) (.tmp 81) 26 (by rfl) (w.heap.size + 1 + 1 + 1) 25 i0 (.agg #[.int .u64 0, .int .u64 0]) 2 16 Try.underlying26 hi hz0 hz1 hz2 (by rfl) (by decide) vp A.length (rowD A) (by simp [Act.eval]) (own5.out.alloc _) ⟨w5.heap.size, 0, none⟩ 1 1 [.int .u64 a, .int .u64 b] (by simp [Act.eval]) rfl (two_dig' w5 _ rfl (a, b) _) (dig_one (a, b)) Nat.zero_lt_one (by unfold maxLen; omega) (by omega) (by simp; omega) _ rfl ?_; intro g' cap' w6 hown hgrow _ _; have h6 := Lib.hid (Rx.grown (h5.out.on ((Below.refl _ _).alloc (Nat.le_refl _) (.cells #[.int .u64 a, .int .u64 b] 25))) hgrow (fun k e => (own5.out.lt k e).1)); have e6 := h6.out.at.2.2.2.2.2.1; have f6 := h6.out.f 5; have S6 := Lib.hid (h6.out.setP (.slice (some ⟨g', 0, none⟩) (A.length + 1) cap')); have O6 := Lib.hid (own_mv (w' := w6.setCell ⟨w.heap.size + 1 + 1, 5, none⟩ (.slice (some ⟨g', 0, none⟩) (A.length + 1) cap')) hown (fun k hk _ => Below.heap_setCell w6 ⟨w.heap.size + 1 + 1, 5, none⟩ _ k (show k ≠ w.heap.size + 1 + 1 by omega))); clear hown hgrow))
        all_goals (
          go_wp2
          go_roundw
          case rel => exact ⟨i + 1, A ++ [(a, b)], q', _, by omega, by go_num, Lib.hid (by rw [EN.out]; exact HJ2.out), z2, by simp; omega, Lib.hid (fun e => by have := Z1.out e; simp; omega), S6, Lib.hid (by rw [rowD_snoc, List.length_append]; exact O6.out)⟩
          case measure => simp [intOf]; omega)
    · have e := HJ.out
      rw [rfDs_stop _ _ _ (.inl (by omega))] at e
      obtain ⟨rfl, rfl⟩ := Prod.mk.inj e
      clear HJ e HL
      have q6 := HR.out.at.2.2.2.2.2.2.1
      go_wp2_with fail
      ((with_reducible refine (AC.out _ HR.out.rd).mono ?_); rintro e w5 ⟨rfl, hr5, ho5⟩)
      have R5 := HR.out.read hr5 ho5
      have O5 := own_mv (w' := w5) HO.out (fun k hk hk2 => ho5.k k (by omega) hk2)
      clear HR HO hr5 ho5 q6
      have p6 := R5.at.2.2.2.2.2.2.1
      have f6 := R5.f 6
      have HR := Lib.hid (R5.setA au)
      have HO := Lib.hid (own_mv (w' := w5.setCell ⟨w.heap.size + 1 + 1, 6, none⟩ (.string au)) O5 (fun k hk _ => Below.heap_setCell w5 ⟨w.heap.size + 1 + 1, 6, none⟩ _ k (show k ≠ w.heap.size + 1 + 1 by omega)))
      clear R5 O5
      have q7 := HR.out.at.2.2.2.2.2.2.2.1
      go_wp2_with fail
      ((with_reducible refine (MC.out _ HR.out.rd).mono ?_); rintro e w6 ⟨rfl, hr5, ho5⟩)
      have R5 := HR.out.read hr5 ho5
      have O5 := own_mv (w' := w6) HO.out (fun k hk hk2 => ho5.k k (by omega) hk2)
      clear HR HO hr5 ho5 q7
      have p7 := R5.at.2.2.2.2.2.2.2.1
      have f7 := R5.f 7
      have HR := Lib.hid (R5.setI m)
      have HO := Lib.hid (own_mv (w' := w6.setCell ⟨w.heap.size + 1 + 1, 7, none⟩ (.int .i64 m)) O5 (fun k hk _ => Below.heap_setCell w6 ⟨w.heap.size + 1 + 1, 7, none⟩ _ k (show k ≠ w.heap.size + 1 + 1 by omega)))
      clear R5 O5
      have q8 := HR.out.at.2.2.2.2.2.2.2.2
      go_wp2_with fail
      ((with_reducible refine (SC.out _ HR.out.rd).mono ?_); rintro e w7 ⟨rfl, hr5, ho5⟩)
      have R5 := HR.out.read hr5 ho5
      have O5 := own_mv (w' := w7) HO.out (fun k hk hk2 => ho5.k k (by omega) hk2)
      clear HR HO hr5 ho5 q8
      have p8 := R5.at.2.2.2.2.2.2.2.2
      have f8 := R5.f 8
      have HR := Lib.hid (R5.setM ms)
      have HO := Lib.hid (own_mv (w' := w7.setCell ⟨w.heap.size + 1 + 1, 8, none⟩ (.string ms)) O5 (fun k hk _ => Below.heap_setCell w7 ⟨w.heap.size + 1 + 1, 8, none⟩ _ k (show k ≠ w.heap.size + 1 + 1 by omega)))
      clear R5 O5
      obtain ⟨w8, hw8⟩ : ∃ w8, w7.setCell ⟨w.heap.size + 1 + 1, 8, none⟩ (.string ms) = w8 := ⟨_, rfl⟩
      rw [hw8] at HR HO
      have HW := Lib.hid hw8
      clear hw8
      go_upto_region 26 with fail
      rw [HW.out]
      clear p8 f8 HW
      obtain ⟨a5, n5, c5, rfl⟩ := own_form HO.out
      obtain ⟨q0, q1, q2, q3, q4, q5, q6, q7, q8⟩ : w8.cell? ⟨w.heap.size + 1 + 1, 0, none⟩ = some (.int .i64 3) ∧ w8.cell? ⟨w.heap.size + 1 + 1, 1, none⟩ = some (.string ⟨#[]⟩) ∧ w8.cell? ⟨w.heap.size + 1 + 1, 2, none⟩ = some (.slice none 0 0) ∧ w8.cell? ⟨w.heap.size + 1 + 1, 3, none⟩ = some (.int .u64 x) ∧ w8.cell? ⟨w.heap.size + 1 + 1, 4, none⟩ = some (.int .u64 y) ∧ w8.cell? ⟨w.heap.size + 1 + 1, 5, none⟩ = some (.slice a5 n5 c5) ∧ w8.cell? ⟨w.heap.size + 1 + 1, 6, none⟩ = some (.string au) ∧ w8.cell? ⟨w.heap.size + 1 + 1, 7, none⟩ = some (.int .i64 m) ∧ w8.cell? ⟨w.heap.size + 1 + 1, 8, none⟩ = some (.string ms) := HR.out.at
      go_wp2_with fail
      ((with_reducible refine (HF.out _ _ HO.out).mono ?_); rintro e w9 ⟨rfl, hb9⟩)
      have HR9 := Lib.hid (HR.out.on hb9)
      have HO9 := Lib.hid (own_mv (w' := w9) HO.out (fun k _ h => hb9.block k h))
      clear q0 q1 q2 q3 q4 q5 q6 q7 q8 hb9
      obtain ⟨q0, q1, q2, q3, q4, q5, q6, q7, q8⟩ : w9.cell? ⟨w.heap.size + 1 + 1, 0, none⟩ = some (.int .i64 3) ∧ w9.cell? ⟨w.heap.size + 1 + 1, 1, none⟩ = some (.string ⟨#[]⟩) ∧ w9.cell? ⟨w.heap.size + 1 + 1, 2, none⟩ = some (.slice none 0 0) ∧ w9.cell? ⟨w.heap.size + 1 + 1, 3, none⟩ = some (.int .u64 x) ∧ w9.cell? ⟨w.heap.size + 1 + 1, 4, none⟩ = some (.int .u64 y) ∧ w9.cell? ⟨w.heap.size + 1 + 1, 5, none⟩ = some (.slice a5 n5 c5) ∧ w9.cell? ⟨w.heap.size + 1 + 1, 6, none⟩ = some (.string au) ∧ w9.cell? ⟨w.heap.size + 1 + 1, 7, none⟩ = some (.int .i64 m) ∧ w9.cell? ⟨w.heap.size + 1 + 1, 8, none⟩ = some (.string ms) := HR9.out.at
      have cb : w9.cell? ⟨w.heap.size + 1, 1, none⟩ = some (.bool false) := by have e := HR9.out.rd.c1; rw [HB.out] at e; exact e
      obtain ⟨d0, d1, d2, d3, d4, d5, d6, d7, d8⟩ := HR9.out.dc.nine
      obtain ⟨f0, f1, f2, f3, f4, f5, f6, f7, f8⟩ := HR9.out.dc.f
      have hb := set9_below HR9.out.b (.int .i64 0) (.string ⟨#[]⟩) (.slice none 0 0) (.int .u64 0) (.int .u64 0) (.slice none 0 0) (.string ⟨#[]⟩) (.int .i64 0) (.string ⟨#[]⟩)
      go_wp2
      exact bodyPost_ret (v := .tuple #[.agg #[.int .i64 0, .string ⟨#[]⟩, .slice none 0 0, .int .u64 0, .int .u64 0, .slice none 0 0, .string ⟨#[]⟩, .int .i64 0, .string ⟨#[]⟩], .int .i64 13]) (by simp [results, Try.results22, go_sem, d0, d1, d2, d3, d4, d5, d6, d7, d8, World.cell?_setCell_other, World.cell?_setCell_same']) rfl ⟨_, rfl, isOb_zero _, hb⟩

set_option maxRecDepth 100000 in
set_option maxHeartbeats 16000000 in
theorem rdec3_ok (s : BA) (hm : s.size ≤ maxLen) (w : World) (r1 : Rd) (hI : rfI (s, false) = (3, r1)) (h1 : r1.1.size ≤ 65536) (x y : Nat) (r2 : Rd) (hT : rfD r1 = ((x, y), r2)) (h2 : r2.1.size ≤ 65536) (n : Nat) (r3 : Rd) (hC : rfI r2 = (n, r3)) (hn : n ≤ 1099511627776) (h3 : r3.1.size ≤ 65536) (P : List Dig) (r4 : Rd) (hP : rfDs n [] r3 = (P, r4)) (h4 : r4.1.size ≤ 65536) (au : BA) (r5 : Rd) (hA : rfT r4 = (au, r5)) (h5 : r5.1.size ≤ 65536) (m : Nat) (r6 : Rd) (hM : rfI r5 = (m, r6)) (h6 : r6.1.size ≤ 65536) (ms : BA) (rl : Rd) (hS : rfT r6 = (ms, rl)) (HB : Hid (rl.2 = false))
    (HF : Hid (∀ W (vp : Value), W.ownsRow (w.heap.size + 1 + 1 + 1) 25 2 vp P.length (rowD P) → Calls Try.prog 18 #[.agg #[.int .i64 3, .string ⟨#[]⟩, .slice none 0 0, .int .u64 x, .int .u64 y, vp, .string au, .int .i64 m, .string ms]] W fun e w' => e = .returned (.tuple #[.string s, .int .i64 0]) ∧ Below W.heap.size W w')) :
    Calls Try.prog 22 #[.string s] w fun e w' => ∃ v, e = .returned (.tuple #[v, .int .i64 0]) ∧ IsOb w' v (⟨3, ⟨#[]⟩, [], (x, y), P, au, m, ms⟩) ∧ Below w.heap.size w w' := by
  have hss : (s.toList == s.toList) = true := by simp
  obtain ⟨i0, hi, hz0, hz1, hz2⟩ := info_parts info25
  have g : ∀ z : Nat, z ≤ 65536 → z ≤ maxLen := fun z hz => Nat.le_trans hz (by decide)
  have TC := Lib.hid (fun W (hW : RfAt W (w.heap.size + 1) r1) => rfD_any _ r1 W hW (g _ h1) x y r2 hT)
  have NC := Lib.hid (fun W (hW : RfAt W (w.heap.size + 1) r2) => rfI_any _ r2 W hW (g _ h2) n r3 hC)
  have AC := Lib.hid (fun W (hW : RfAt W (w.heap.size + 1) r4) => rfT_any _ r4 W hW (g _ h4) au r5 hA)
  have MC := Lib.hid (fun W (hW : RfAt W (w.heap.size + 1) r5) => rfI_any _ r5 W hW (g _ h5) m r6 hM)
  have SC := Lib.hid (fun W (hW : RfAt W (w.heap.size + 1) r6) => rfT_any _ r6 W hW (g _ h6) ms rl hS)
  have DC := Lib.hid (fun (q : Rd) (hq : q.1.size ≤ 65536) W (hW : RfAt W (w.heap.size + 1) q) a b q' (hx : rfD q = ((a, b), q')) => rfD_any _ q W hW (g _ hq) a b q' hx)
  have LATE : Hid (r4.2 = true → rl.2 = true) := Lib.hid fun h => by
    have e5 := rfT_bad h
    rw [hA] at e5
    have e6 := rfI_bad e5
    rw [hM] at e6
    have e7 := rfT_bad e6
    rw [hS] at e7
    exact e7
  have HP := Lib.hid hP
  clear hT hC hP hA hM hS h1 h2 h4 h5 h6 g
  have R0 := rx_fresh w s
  have IC : Hid (∀ W, RfAt W (w.heap.size + 1) (s, false) → Calls Try.prog 35 #[.pointer (some ⟨w.heap.size + 1, 0, none⟩)] W fun e w' => e = .returned (.int .i64 3) ∧ RfAt w' (w.heap.size + 1) r1 ∧ Only1 (w.heap.size + 1) W w') := Lib.hid fun W hW => rfI_any _ (s, false) W hW hm _ r1 hI
  clear hI
  go_enter Try.func22, Try.ntmps22
  go_wp2_with fail
  ((with_reducible refine (IC.out _ R0.rd).mono ?_); rintro e w2 ⟨rfl, hr1, ho1⟩)
  have R1 := R0.read hr1 ho1
  clear R0 hr1 ho1 IC
  have p0 := R1.at.1
  have f0 := R1.f 0
  have HR2 := Lib.hid (R1.setK 3)
  clear R1
  have q3 := HR2.out.at.2.2.2.1
  go_wp2_with fail
  ((with_reducible refine (TC.out _ HR2.out.rd).mono ?_); rintro e w3 ⟨rfl, hr5, ho5⟩)
  have R5 := HR2.out.read hr5 ho5
  clear HR2 hr5 ho5 TC p0 f0 q3
  have p3 := R5.at.2.2.2.1
  have p4 := R5.at.2.2.2.2.1
  have f3 := R5.f 3
  have f4 := R5.f 4
  have HR3 := Lib.hid ((R5.setT1 x).setT2 y)
  clear R5
  go_wp2_with fail
  ((with_reducible refine (NC.out _ HR3.out.rd).mono ?_); rintro e w4 ⟨rfl, hr5, ho5⟩)
  have HR4 := Lib.hid (HR3.out.read hr5 ho5)
  clear HR3 hr5 ho5 NC p3 p4 f3 f4
  go_wp2
  go_loopw [10] (fun s10 wr => ∃ (i : Nat) (A : List Dig) (q : Rd) (vp : Value), i ≤ n ∧ s10 = .int .i64 i ∧ Hid (rfDs (n - i) A q = (P, r4)) ∧ q.1.size ≤ 65536 ∧ A.length ≤ 65537 ∧ Hid (q.2 = false → A.length + q.1.size ≤ 65536) ∧ Hid (Rx w q 3 ⟨#[]⟩ (.slice none 0 0) x y vp ⟨#[]⟩ 0 ⟨#[]⟩ wr) ∧ Hid (wr.ownsRow (w.heap.size + 1 + 1 + 1) 25 2 vp A.length (rowD A))) (fun i _ => n - (intOf i).toNat)
  case atStart => exact ⟨0, [], r3, _, Nat.zero_le _, rfl, HP, h3, Nat.zero_le _, Lib.hid (fun _ => by rw [List.length_nil, Nat.zero_add]; exact h3), HR4, Lib.hid (World.ownsRow_nil _ _ _ _)⟩
  case round =>
    obtain ⟨i, A, q, vp, hi2, rfl, HJ, hq, hA, HL, HR, HO⟩ := hrel
    clear HR4 HP h3
    have cq := HR.out.rd.c1
    by_cases hlt : i < n
    · cases hb2 : q.2 with
      | true =>
        rw [hb2] at cq
        have e := HJ.out
        rw [rfDs_stop _ _ _ (.inr hb2)] at e
        obtain ⟨rfl, rfl⟩ := Prod.mk.inj e
        have := LATE.out hb2
        rw [HB.out] at this
        cases this
      | false =>
        rw [hb2] at cq
        obtain ⟨m2, hm2⟩ : ∃ m2, n - i = m2 + 1 := ⟨n - i - 1, by omega⟩
        rw [hm2] at HJ
        have hroom := HL.out hb2
        obtain ⟨z1, z2⟩ := rfD_room q A.length hb2 hroom
        obtain ⟨a, b, q', hx⟩ : ∃ a b q', rfD q = ((a, b), q') := ⟨_, _, _, rfl⟩
        rw [hx] at z1 z2
        simp only at z1 z2
        have Z1 := Lib.hid z1
        have HJ2 : Hid (rfDs m2 (A ++ [(a, b)]) q' = (P, r4)) := Lib.hid (by
          have := HJ.out
          rw [rfDs_step _ _ _ hb2, hx] at this
          exact this)
        have D2 := Lib.hid (fun W (hW : RfAt W (w.heap.size + 1) q) => DC.out q hq W hW a b q' hx)
        have EN : Hid (n - (i + 1) = m2) := Lib.hid (by omega)
        have start := Lib.hid HR.out.drew
        have c5 := start.out.at.2.2.2.2.2.1
        clear HJ HL hx hm2 z1 hb2
        go_upto_region 22 with fail
        go_region_law (first | (go_simp; go_at_call 37; (with_reducible refine (D2.out _ start.out.rd).mono ?_); rintro e w5 ⟨rfl, hr5, ho5⟩; have h5 := Lib.hid (start.out.read hr5 ho5); have own5 := Lib.hid (own_mv (w' := w5) (show wr.drew.ownsRow (w.heap.size + 1 + 1 + 1) 25 2 vp A.length (rowD A) from HO.out) (fun k hk hk2 => ho5.k k (by omega) hk2)); have l5 := h5.out.lt; have e5 := h5.out.at.2.2.2.2.2.1; clear hr5 ho5) | (refine step_append_lies _ (by rfl) (.tmp 78) (.tmp 81) 26 (by rfl) (w.heap.size + 1 + 1 + 1) 25 i0 (.agg #[.int .u64 0, .int .u64 0]) 2 16 Try.underlying26 hi hz0 hz1 hz2 (by rfl) (by decide) vp A.length (rowD A) (by simp [Act.eval]) (own5.out.alloc _) ⟨w5.heap.size, 0, none⟩ 1 1 [.int .u64 a, .int .u64 b] (by simp [Act.eval]) rfl (two_dig' w5 _ rfl (a, b) _) (dig_one (a, b)) Nat.zero_lt_one (by unfold maxLen; omega) (by omega) (by simp; omega) _ rfl ?_; intro g' cap' w6 hown hgrow _ _; have h6 := Lib.hid (Rx.grown (h5.out.on ((Below.refl _ _).alloc (Nat.le_refl _) (.cells #[.int .u64 a, .int .u64 b] 25))) hgrow (fun k e => (own5.out.lt k e).1)); have e6 := h6.out.at.2.2.2.2.2.1; have f6 := h6.out.f 5; have S6 := Lib.hid (h6.out.setP (.slice (some ⟨g', 0, none⟩) (A.length + 1) cap')); have O6 := Lib.hid (own_mv (w' := w6.setCell ⟨w.heap.size + 1 + 1, 5, none⟩ (.slice (some ⟨g', 0, none⟩) (A.length + 1) cap')) hown (fun k hk _ => Below.heap_setCell w6 ⟨w.heap.size + 1 + 1, 5, none⟩ _ k (show k ≠ w.heap.size + 1 + 1 by omega))); clear hown hgrow))
        all_goals (
          go_wp2
          go_roundw
          case rel => exact ⟨i + 1, A ++ [(a, b)], q', _, by omega, by go_num, Lib.hid (by rw [EN.out]; exact HJ2.out), z2, by simp; omega, Lib.hid (fun e => by have := Z1.out e; simp; omega), S6, Lib.hid (by rw [rowD_snoc, List.length_append]; exact O6.out)⟩
          case measure => simp [intOf]; omega)
    · have e := HJ.out
      rw [rfDs_stop _ _ _ (.inl (by omega))] at e
      obtain ⟨rfl, rfl⟩ := Prod.mk.inj e
      clear HJ e HL
      have q6 := HR.out.at.2.2.2.2.2.2.1
      go_wp2_with fail
      ((with_reducible refine (AC.out _ HR.out.rd).mono ?_); rintro e w5 ⟨rfl, hr5, ho5⟩)
      have R5 := HR.out.read hr5 ho5
      have O5 := own_mv (w' := w5) HO.out (fun k hk hk2 => ho5.k k (by omega) hk2)
      clear HR HO hr5 ho5 q6
      have p6 := R5.at.2.2.2.2.2.2.1
      have f6 := R5.f 6
      have HR := Lib.hid (R5.setA au)
      have HO := Lib.hid (own_mv (w' := w5.setCell ⟨w.heap.size + 1 + 1, 6, none⟩ (.string au)) O5 (fun k hk _ => Below.heap_setCell w5 ⟨w.heap.size + 1 + 1, 6, none⟩ _ k (show k ≠ w.heap.size + 1 + 1 by omega)))
      clear R5 O5
      have q7 := HR.out.at.2.2.2.2.2.2.2.1
      go_wp2_with fail
      ((with_reducible refine (MC.out _ HR.out.rd).mono ?_); rintro e w6 ⟨rfl, hr5, ho5⟩)
      have R5 := HR.out.read hr5 ho5
      have O5 := own_mv (w' := w6) HO.out (fun k hk hk2 => ho5.k k (by omega) hk2)
      clear HR HO hr5 ho5 q7
      have p7 := R5.at.2.2.2.2.2.2.2.1
      have f7 := R5.f 7
      have HR := Lib.hid (R5.setI m)
      have HO := Lib.hid (own_mv (w' := w6.setCell ⟨w.heap.size + 1 + 1, 7, none⟩ (.int .i64 m)) O5 (fun k hk _ => Below.heap_setCell w6 ⟨w.heap.size + 1 + 1, 7, none⟩ _ k (show k ≠ w.heap.size + 1 + 1 by omega)))
      clear R5 O5
      have q8 := HR.out.at.2.2.2.2.2.2.2.2
      go_wp2_with fail
      ((with_reducible refine (SC.out _ HR.out.rd).mono ?_); rintro e w7 ⟨rfl, hr5, ho5⟩)
      have R5 := HR.out.read hr5 ho5
      have O5 := own_mv (w' := w7) HO.out (fun k hk hk2 => ho5.k k (by omega) hk2)
      clear HR HO hr5 ho5 q8
      have p8 := R5.at.2.2.2.2.2.2.2.2
      have f8 := R5.f 8
      have HR := Lib.hid (R5.setM ms)
      have HO := Lib.hid (own_mv (w' := w7.setCell ⟨w.heap.size + 1 + 1, 8, none⟩ (.string ms)) O5 (fun k hk _ => Below.heap_setCell w7 ⟨w.heap.size + 1 + 1, 8, none⟩ _ k (show k ≠ w.heap.size + 1 + 1 by omega)))
      clear R5 O5
      obtain ⟨w8, hw8⟩ : ∃ w8, w7.setCell ⟨w.heap.size + 1 + 1, 8, none⟩ (.string ms) = w8 := ⟨_, rfl⟩
      rw [hw8] at HR HO
      have HW := Lib.hid hw8
      clear hw8
      go_upto_region 26 with fail
      rw [HW.out]
      clear p8 f8 HW
      obtain ⟨a5, n5, c5, rfl⟩ := own_form HO.out
      obtain ⟨q0, q1, q2, q3, q4, q5, q6, q7, q8⟩ : w8.cell? ⟨w.heap.size + 1 + 1, 0, none⟩ = some (.int .i64 3) ∧ w8.cell? ⟨w.heap.size + 1 + 1, 1, none⟩ = some (.string ⟨#[]⟩) ∧ w8.cell? ⟨w.heap.size + 1 + 1, 2, none⟩ = some (.slice none 0 0) ∧ w8.cell? ⟨w.heap.size + 1 + 1, 3, none⟩ = some (.int .u64 x) ∧ w8.cell? ⟨w.heap.size + 1 + 1, 4, none⟩ = some (.int .u64 y) ∧ w8.cell? ⟨w.heap.size + 1 + 1, 5, none⟩ = some (.slice a5 n5 c5) ∧ w8.cell? ⟨w.heap.size + 1 + 1, 6, none⟩ = some (.string au) ∧ w8.cell? ⟨w.heap.size + 1 + 1, 7, none⟩ = some (.int .i64 m) ∧ w8.cell? ⟨w.heap.size + 1 + 1, 8, none⟩ = some (.string ms) := HR.out.at
      go_wp2_with fail
      ((with_reducible refine (HF.out _ _ HO.out).mono ?_); rintro e w9 ⟨rfl, hb9⟩)
      have HR9 := Lib.hid (HR.out.on hb9)
      have HO9 := Lib.hid (own_mv (w' := w9) HO.out (fun k _ h => hb9.block k h))
      clear q0 q1 q2 q3 q4 q5 q6 q7 q8 hb9
      obtain ⟨q0, q1, q2, q3, q4, q5, q6, q7, q8⟩ : w9.cell? ⟨w.heap.size + 1 + 1, 0, none⟩ = some (.int .i64 3) ∧ w9.cell? ⟨w.heap.size + 1 + 1, 1, none⟩ = some (.string ⟨#[]⟩) ∧ w9.cell? ⟨w.heap.size + 1 + 1, 2, none⟩ = some (.slice none 0 0) ∧ w9.cell? ⟨w.heap.size + 1 + 1, 3, none⟩ = some (.int .u64 x) ∧ w9.cell? ⟨w.heap.size + 1 + 1, 4, none⟩ = some (.int .u64 y) ∧ w9.cell? ⟨w.heap.size + 1 + 1, 5, none⟩ = some (.slice a5 n5 c5) ∧ w9.cell? ⟨w.heap.size + 1 + 1, 6, none⟩ = some (.string au) ∧ w9.cell? ⟨w.heap.size + 1 + 1, 7, none⟩ = some (.int .i64 m) ∧ w9.cell? ⟨w.heap.size + 1 + 1, 8, none⟩ = some (.string ms) := HR9.out.at
      have cb : w9.cell? ⟨w.heap.size + 1, 1, none⟩ = some (.bool false) := by have e := HR9.out.rd.c1; rw [HB.out] at e; exact e
      obtain ⟨d0, d1, d2, d3, d4, d5, d6, d7, d8⟩ := HR9.out.dc.nine
      obtain ⟨f0, f1, f2, f3, f4, f5, f6, f7, f8⟩ := HR9.out.dc.f
      have hb := set9_below HR9.out.b (.int .i64 3) (.string ⟨#[]⟩) (.slice none 0 0) (.int .u64 x) (.int .u64 y) (.slice a5 n5 c5) (.string au) (.int .i64 m) (.string ms)
      have HO10 := Lib.hid (own_digs (own_mv (w' := set9 w9 w.heap.size (.int .i64 3) (.string ⟨#[]⟩) (.slice none 0 0) (.int .u64 x) (.int .u64 y) (.slice a5 n5 c5) (.string au) (.int .i64 m) (.string ms)) HO9.out (fun k hk _ => set9_heap _ _ _ _ _ _ _ _ _ _ _ k (by omega))) rfl (by unfold maxLen; omega))
      go_wp2
      exact bodyPost_ret (v := .tuple #[.agg #[.int .i64 3, .string ⟨#[]⟩, .slice none 0 0, .int .u64 x, .int .u64 y, .slice a5 n5 c5, .string au, .int .i64 m, .string ms], .int .i64 0]) (by simp [results, Try.results22, go_sem, d0, d1, d2, d3, d4, d5, d6, d7, d8, World.cell?_setCell_other, World.cell?_setCell_same']) rfl ⟨_, rfl, ⟨_, _, rfl, isEnts_nil _, HO10.out⟩, hb⟩
end Go.Proofs.Ytiaahjoldahlnaa
