/- The reference's product, power and comparison of long numbers, at this translation. -/
import Derived.Test.YtldpdoakfacdbaaPower
import Derived.BigQuiet
import Derived.Deep.QuietTactic
namespace Go.Proofs.Ytldpdoakfacdbaa
open Go.RowKit

abbrev B4 : Nat := 10000
theorem mul_bound4 (d n : Nat) (h : d < 10000) (hn : n ≤ 400) : d * n ≤ 4000000 := by
  have := Nat.mul_le_mul (Nat.le_of_lt h) hn
  omega

set_option maxHeartbeats 2000000 in
theorem refTimes_any (m n : Nat) (v : Value) (w : World) (hm : 1 ≤ m) (hn : 1 ≤ n) (hn' : n ≤ 400) (hl : (digs B4 m).length ≤ 1000) (hv : IsLong w v (digs B4 m)) :
    Calls Try.prog 34 #[v, .int .i64 n] w fun e w' => ∃ v', e = .returned v' ∧ IsLong w' v' (digs B4 (m * n)) ∧ Below w.heap.size w w' := by
  have hM := mulC_digs B4 n m 0 (by decide) hn (show n < 10000 by omega) hn
  have hD := digs_lt B4 m (by decide)
  have hE : digs B4 (m * n) ≠ [] := by
    rw [digs_pos B4 _ (by decide) (Nat.mul_pos hm hn)]; simp
  rw [Nat.add_zero] at hM
  generalize digs B4 (m * n) = E at hM hE ⊢
  generalize digs B4 m = L at hM hD hl hv
  obtain ⟨b, cap, rfl, hb, hcap, hc⟩ := hv
  obtain ⟨i0, hi, hz0, hz1, hz2⟩ := info_parts info3
  have HM := Lib.hid hM
  have HD := Lib.hid hD
  have HE := Lib.hid hE
  have HC := Lib.hid hc
  clear hM hD hE hc
  go_enter Try.func34, Try.ntmps34
  go_wp2
  go_loopw [5, 6, 7] (fun s5 s6 s7 wr => ∃ (c : Nat) (P : List Nat) (v' : Value), P.length ≤ L.length ∧ s5 = v' ∧ s6 = .int .i64 c ∧ s7 = .int .i64 P.length ∧ c < n ∧ Hid (P ++ mulC B4 n (L.drop P.length) c = E) ∧ wr.ownsRow w.heap.size 3 1 v' P.length (ints P) ∧ Below w.heap.size w wr) (fun _ _ i _ => L.length - (intOf i).toNat)
  case atStart => exact ⟨0, [], .slice none 0 0, by simp, rfl, rfl, rfl, by omega, by simpa [Hid] using HM.out, World.ownsRow_nil _ _ _ _, Below.refl _ _⟩
  case round =>
    obtain ⟨c, P, v', hP, rfl, rfl, rfl, hcn, hQ, hown, hB⟩ := hrel
    by_cases hlt : P.length < L.length
    · have hdb : L[P.length] < 10000 := HD.out _ (List.getElem_mem hlt)
      have hcell : wr.cell? ⟨b, P.length, none⟩ = some (.int .i64 (L[P.length] : Nat)) := (hB.cell (p := ⟨b, P.length, none⟩) hb).trans (HC.out _ hlt)
      have hQ' : P ++ mulC B4 n (L.drop P.length) c = E := hQ
      rw [List.drop_eq_getElem_cons hlt, mulC] at hQ'
      have hQ2 := Lib.hid hQ'
      clear hQ' hQ
      generalize L[P.length] = d at hdb hcell hQ2
      have hp1 := mul_bound4 d n hdb hn'
      obtain ⟨q, hq⟩ : ∃ q : Nat, q = d * n := ⟨_, rfl⟩
      have hq2 : (d : Int) * (n : Int) = (q : Int) := by rw [hq]; simp
      rw [← hq] at hp1
      rw [← hq] at hQ2
      have HQ := Lib.hid hq
      have HP := Lib.hid (show P.length ≤ 1000 by omega)
      clear hq
      go_wp2_with (at_builtin; refine wpList_append_own _ rfl _ _ 54 rfl w.heap.size 3 i0 (.int .i64 0) 1 8 Try.underlying54 hi hz0 hz1 hz2 rfl (by decide) _ _ _ rfl (hown.alloc _) ⟨wr.heap.size, 0, none⟩ 1 1 [.int .i64 (((q : Int) + (c : Int)) % 10000)] rfl rfl (cell_one_new _ _ _) (by intro u hu; simp at hu; subst hu; rfl) (by have := HP.out; unfold maxLen; omega) (by have := HP.out; omega) (by have := hB.size; simp; omega) ?_; intro v2 w1 hown' hgrow _; have hB1 := (hB.alloc hB.size _).grown hgrow (by have := hB.size; simp; omega) (fun k hk => (hown.lt k hk).1); clear hgrow)
      go_roundw
      case rel =>
        refine ⟨(q + c) / 10000, P ++ [(q + c) % 10000], _, by simp; omega, rfl, by simp, by simp, ?_, ?_, ?_, hB1⟩
        · have := HQ.out
          have : d * n ≤ (10000 - 1) * n := Nat.mul_le_mul_right _ (by omega)
          rw [Nat.sub_mul] at this
          omega
        · have := hQ2.out
          show _ = E
          rw [List.length_append, List.length_singleton, List.append_assoc]
          exact this
        · rw [ints_snoc]; simpa using hown'
      case measure => simp [intOf]; omega
    · have hPL : P.length = L.length := by omega
      have hQ' : P ++ mulC B4 n (L.drop P.length) c = E := hQ
      rw [List.drop_eq_nil_of_le (by omega), mulC] at hQ'
      have hQ2 := Lib.hid hQ'
      have hPL2 := Lib.hid (show P.length ≤ 1000 by omega)
      clear hQ' hQ hPL
      by_cases hc0 : c = 0
      · subst hc0
        go_wp2
        go_ret
        have hQ3 : P ++ [] = E := hQ2.out
        rw [List.append_nil] at hQ3
        subst hQ3
        exact ⟨_, rfl, isLong_own hown HE.out, hB⟩
      · have hpos : (0 : Int) < (c : Int) := by omega
        go_wp2_with (at_builtin; refine wpList_append_own _ rfl _ _ 54 rfl w.heap.size 3 i0 (.int .i64 0) 1 8 Try.underlying54 hi hz0 hz1 hz2 rfl (by decide) _ _ _ rfl (hown.alloc _) ⟨wr.heap.size, 0, none⟩ 1 1 [.int .i64 (c : Int)] rfl rfl (cell_one_new _ _ _) (by intro u hu; simp at hu; subst hu; rfl) (by have := hPL2.out; unfold maxLen; omega) (by have := hPL2.out; omega) (by have := hB.size; simp; omega) ?_; intro v2 w1 hown' hgrow _; have hB1 := (hB.alloc hB.size _).grown hgrow (by have := hB.size; simp; omega) (fun k hk => (hown.lt k hk).1); clear hgrow)
        go_ret
        have hQ3 : P ++ (if c = 0 then [] else [c]) = E := hQ2.out
        rw [if_neg hc0] at hQ3
        subst hQ3
        refine ⟨_, rfl, isLong_own (base := w.heap.size) ?_ HE.out, hB1⟩
        rw [ints_snoc]; simpa using hown'

set_option maxHeartbeats 1000000 in
theorem refPower_any (m n k : Nat) (v : Value) (w : World) (hm : 1 ≤ m) (hn : 1 ≤ n) (hn' : n ≤ 400) (hk : k ≤ 500) (hl : (digs B4 m).length ≤ 500) (hv : IsLong w v (digs B4 m)) :
    Calls Try.prog 32 #[v, .int .i64 n, .int .i64 k] w fun e w' => ∃ v', e = .returned v' ∧ IsLong w' v' (digs B4 (m * n ^ k)) ∧ Below w.heap.size w w' := by
  have HV := Lib.hid hv
  clear hv
  go_enter Try.func32, Try.ntmps32
  go_wp2
  go_loopw [0, 7] (fun s i wr => ∃ (j : Nat) (v' : Value), j ≤ k ∧ s = v' ∧ i = .int .i64 j ∧ IsLong wr v' (digs B4 (m * n ^ j)) ∧ Below w.heap.size w wr) (fun _ i _ => k - (intOf i).toNat)
  case atStart => exact ⟨0, v, Nat.zero_le _, rfl, rfl, by rw [Nat.pow_zero, Nat.mul_one]; exact HV.out, Below.refl _ _⟩
  case round =>
    obtain ⟨j, v', hj, rfl, rfl, hL, hB⟩ := hrel
    by_cases hlt : j < k
    · have HL := Lib.hid hL
      clear hL
      go_wp2_with fail
      ((with_reducible refine (refTimes_any (m * n ^ j) n _ _ (Nat.mul_pos hm (Nat.pow_pos hn)) hn hn' (Nat.le_trans (digs_len_pow B4 m n j (by decide) (by show n ≤ 10000; omega)) (by omega)) HL.out).mono ?_); rintro e w2 ⟨v2, rfl, hL2, hb2⟩)
      rw [Nat.mul_assoc, ← Nat.pow_succ] at hL2
      go_wp2
      go_roundw
      case rel => exact ⟨j + 1, v2, by omega, rfl, by go_num, hL2, hB.trans (hb2.mono hB.size)⟩
      case measure => simp [intOf]; omega
    · obtain rfl : j = k := by omega
      have HL := Lib.hid hL
      clear hL
      go_wp2
      go_ret
      exact ⟨_, rfl, HL.out, hB⟩
end Go.Proofs.Ytldpdoakfacdbaa
