/- The reference's Check, hash, divisible and Has, at this translation. -/
import Derived.Test.YtcdnhnbigincpaaOpen
import Derived.Test.YtcdnhnbigincpaaFresh
import Derived.Test.YtcdnhnbigincpaaLocMath
import Derived.Laws.BitsAllLaws
import Derived.BigQuiet
import Derived.Deep.RegionHeld3
import Derived.Deep.Cut
namespace Go.Proofs.Ytcdnhnbigincpaa
open Go.RowKit

set_option maxHeartbeats 2000000 in
theorem refCheck_any (a b c d : Int) (r : Int) (hr : chkP a b c d = r) (w : World) :
    Calls Try.prog 17 #[pv a b c d] w fun e w' => e = .returned (.int .i64 r) ∧ Below w.heap.size w w' := by
  have hB := (Below.refl w.heap.size w).alloc (Nat.le_refl _) (.cells #[.int .i64 a, .int .i64 b, .int .i64 c, .int .i64 d] 23)
  have x := PBox.new w a b c d
  have c0 := x.c0
  have c1 := x.c1
  have c2 := x.c2
  have c3 := x.c3
  clear x
  have HR := Lib.hid hr
  clear hr
  go_enter Try.func17, Try.ntmps17
  by_cases h : c < 1 ∨ a < c ∨ b < a ∨ 65536 < b ∨ d < 0 ∨ 16 < d
  · have e := HR.out
    rw [chkP, if_pos h] at e
    subst e
    go_wp2
    all_goals first
      | (go_ret; exact ⟨rfl, hB⟩)
      | (exfalso; omega)
  · have e := HR.out
    rw [chkP, if_neg h] at e
    subst e
    go_wp2
    all_goals first
      | (exfalso; omega)
      | (go_ret; exact ⟨rfl, hB⟩)

theorem toList_eq {a b : ByteArray} (h : a.toList = b.toList) : a = b := by
  rw [ByteArray.toList_eq, ByteArray.toList_eq] at h
  exact data_inj h
theorem str_ne {a b : ByteArray} (h : ¬ a = b) : (a.toList == b.toList) = false := beq_eq_false_iff_ne.2 fun e => h (toList_eq e)
set_option maxHeartbeats 2000000 in
theorem has_any (L : List ByteArray) (v : Value) (x : ByteArray) (w : World) (h1 : IsStrs w v L) (r : Bool) (hr : hasB L x = r) :
    Calls Try.prog 30 #[v, .string x] w fun e w' => e = .returned (.bool r) ∧ Below w.heap.size w w' := by
  obtain ⟨a, cap, rfl, hn, _, hc⟩ := h1
  unfold maxLen at hn
  have HC := Lib.hid hc
  have HR := Lib.hid hr
  clear hc hr
  go_enter Try.func30, Try.ntmps30
  go_wp2
  go_loopw [5] (fun s5 wr => ∃ j : Nat, j ≤ L.length ∧ s5 = .int .i64 j ∧ wr = w ∧ Hid (∀ k (h : k < L.length), k < j → L[k] ≠ x)) (fun i _ => L.length - (intOf i).toNat)
  case atStart => exact ⟨0, Nat.zero_le _, rfl, rfl, Lib.hid fun _ _ h => absurd h (Nat.not_lt_zero _)⟩
  case round =>
    obtain ⟨j, hj, rfl, rfl, hbef⟩ := hrel
    by_cases hlt : j < L.length
    · obtain ⟨b1, o1, rfl, hb1, hcell⟩ := HC.out.resolve_left (by intro e; rw [e] at hlt; simp at hlt)
      have p0 := hcell j hlt
      clear hcell
      by_cases he : L[j] = x
      · have e1 : r = true := by rw [← HR.out]; exact hasB_iff.2 (he ▸ List.getElem_mem hlt)
        subst e1
        rw [he] at p0
        clear hbef
        go_wp2
        go_ret
        exact ⟨rfl, Below.refl _ _⟩
      · have nb : Hid (∀ k (h : k < L.length), k < j + 1 → L[k] ≠ x) := Lib.hid fun k h hk => by
          rcases Nat.lt_or_ge k j with h2 | h2
          · exact hbef.out k h h2
          · obtain rfl : k = j := by omega
            exact he
        clear hbef
        generalize L[j] = y at p0 he
        have hne := str_ne he
        go_wp2
        go_roundw
        case rel => exact ⟨j + 1, by omega, by go_num, (by first | trivial | rfl), nb⟩
        case measure => simp [intOf]; omega
    · have e1 : r = false := by
        rw [← HR.out]
        refine hasB_no.2 fun hm => ?_
        obtain ⟨k, hk, e⟩ := List.mem_iff_getElem.1 hm
        exact hbef.out k hk (by omega) e
      subst e1
      clear hbef
      go_wp2
      go_ret
      exact ⟨rfl, Below.refl _ _⟩

theorem hs_take_succ (l : List Nat) (j : Nat) (h : j < l.length) : (hs (l.take j) * 16777619 + (l[j] : Int) + 1) % 4294967296 = hs (l.take (j + 1)) := by
  rw [List.take_succ_eq_append_getElem h]; exact hs_snoc _ _
set_option maxHeartbeats 2000000 in
theorem refHash_any (x : ByteArray) (hx : x.size ≤ 100000) (h : Int) (hh : hs (nats x) = h) (w : World) :
    Calls Try.prog 33 #[.string x] w fun e w' => e = .returned (.int .u32 (bits BinOp.xor IntKind.u32 h (h / 32768))) ∧ w' = w := by
  have HH := Lib.hid hh
  have hnl := nats_length x
  clear hh
  go_enter Try.func33, Try.ntmps33
  go_wp2
  go_loopw [3, 4] (fun s3 s4 wr => ∃ (j : Nat) (g : Int), j ≤ x.size ∧ s4 = .int .i64 j ∧ s3 = .int .u32 g ∧ Hid (g = hs ((nats x).take j)) ∧ wr = w) (fun _ i _ => x.size - (intOf i).toNat)
  case atStart => exact ⟨0, 0, Nat.zero_le _, rfl, rfl, Lib.hid (by rw [List.take_zero, hs_nil]), rfl⟩
  case round =>
    obtain ⟨j, g, hj, rfl, rfl, hg, rfl⟩ := hrel
    by_cases hlt : j < x.size
    · obtain ⟨g2, hg2⟩ : ∃ g2, hs ((nats x).take (j + 1)) = g2 := ⟨_, rfl⟩
      have e := hs_take_succ (nats x) j (by omega)
      have eb : ((nats x)[j]'(by omega) : Int) = (x[j].toNat : Int) := by simp [nats]; rfl
      rw [eb, ← hg.out, hg2] at e
      have G2 : Hid (g2 = hs ((nats x).take (j + 1))) := Lib.hid hg2.symm
      clear hg2 eb hg
      go_wp2
      go_roundw
      case rel => exact ⟨j + 1, g2, by omega, by go_num, by first | rfl | (congr 1; omega), G2, (by first | trivial | rfl)⟩
      case measure => simp [intOf]; omega
    · obtain rfl : j = x.size := by omega
      have e : g = h := by rw [hg.out, ← HH.out, List.take_of_length_le (by omega)]
      subst e
      clear hg
      go_wp2
      go_ret
      exact ⟨rfl, rfl⟩

theorem even_step (X j b : Nat) (h : j < b) : X % 2 ^ b = 0 → X / 2 ^ j % 2 = 0 := by
  intro h0
  have h1 : X % 2 ^ (j + 1) = 0 := by
    have hd : 2 ^ (j + 1) ∣ 2 ^ b := Nat.pow_dvd_pow 2 (by omega)
    exact Nat.mod_eq_zero_of_dvd (Nat.dvd_trans hd (Nat.dvd_of_mod_eq_zero h0))
  rw [Nat.mod_pow_succ] at h1
  have h2 : 2 ^ j * (X / 2 ^ j % 2) = 0 := by omega
  rcases Nat.mul_eq_zero.1 h2 with h3 | h3
  · exact absurd h3 (Nat.pos_iff_ne_zero.1 (Nat.two_pow_pos j))
  · exact h3
set_option maxHeartbeats 2000000 in
theorem divisible_any (X : Nat) (hX : X < 4294967296) (b : Nat) (hb : b ≤ 16) (r : Bool) (hr : decide (X % 2 ^ b = 0) = r) (w : World) :
    Calls Try.prog 32 #[.int .u32 X, .int .i64 b] w fun e w' => e = .returned (.bool r) ∧ w' = w := by
  have HR := Lib.hid hr
  clear hr
  go_enter Try.func32, Try.ntmps32
  go_wp2
  go_loopw [0, 5] (fun s0 s5 wr => ∃ (j q : Nat), j ≤ b ∧ s5 = .int .i64 j ∧ s0 = .int .u32 q ∧ q < 4294967296 ∧ Hid (q = X / 2 ^ j ∧ X % 2 ^ j = 0) ∧ wr = w) (fun _ i _ => b - (intOf i).toNat)
  case atStart => exact ⟨0, X, Nat.zero_le _, rfl, rfl, hX, Lib.hid ⟨by simp, by simp [Nat.mod_one]⟩, rfl⟩
  case round =>
    obtain ⟨j, q, hj, rfl, rfl, hq, hi, rfl⟩ := hrel
    by_cases hlt : j < b
    · rcases Nat.mod_two_eq_zero_or_one q with h2 | h2
      · have nb : Hid (q / 2 = X / 2 ^ (j + 1) ∧ X % 2 ^ (j + 1) = 0) := Lib.hid ⟨by rw [hi.out.1, Nat.div_div_eq_div_mul, Nat.pow_succ], by rw [Nat.mod_pow_succ, hi.out.2, ← hi.out.1, h2]; simp⟩
        have e1 : (q : Int).tmod 2 = 0 := by rw [Int.tmod_eq_emod_of_nonneg (by omega)]; omega
        have e2 : (q : Int).tdiv 2 = ((q / 2 : Nat) : Int) := by rw [Int.tdiv_eq_ediv_of_nonneg (by omega)]; omega
        clear hi
        go_wp2
        all_goals first
          | (go_roundw
             case rel => exact ⟨j + 1, q / 2, by omega, by go_num, by first | rfl | (rw [e2]) | (congr 1; omega), by omega, nb, (by first | trivial | rfl)⟩
             case measure => simp [intOf]; omega)
          | (exfalso; omega)
      · have e0 : r = false := by
          rw [← HR.out, decide_eq_false_iff_not]
          intro h0
          have := even_step X j b hlt h0
          rw [← hi.out.1] at this
          omega
        have e1 : (q : Int).tmod 2 = 1 := by rw [Int.tmod_eq_emod_of_nonneg (by omega)]; omega
        subst e0
        clear hi
        go_wp2
        all_goals first
          | (go_ret; exact ⟨rfl, rfl⟩)
          | (exfalso; omega)
    · obtain rfl : j = b := by omega
      have e0 : r = true := by rw [← HR.out, decide_eq_true_eq]; exact hi.out.2
      subst e0
      clear hi
      go_wp2
      go_ret
      exact ⟨rfl, rfl⟩

/-- What divisible answers at a hash. -/
theorem divisible_tst (h : Int) (h0 : 0 ≤ h) (h1 : h < 4294967296) (b : Nat) (hb : b ≤ 16) (w : World) :
    Calls Try.prog 32 #[.int .u32 (bits BinOp.xor IntKind.u32 h (h / 32768)), .int .i64 b] w fun e w' => e = .returned (.bool (tst b h)) ∧ w' = w := by
  obtain ⟨n, rfl⟩ := Int.eq_ofNat_of_zero_le h0
  have e : bits BinOp.xor IntKind.u32 (n : Int) ((n : Int) / 32768) = ((n ^^^ (n / 32768) : Nat) : Int) := by
    have := u32_xor_nat n (n / 32768) (by omega) (by omega)
    rw [← this]; rfl
  have hlt : n ^^^ (n / 32768) < 4294967296 := Nat.xor_lt_two_pow (n := 32) (by omega) (by omega)
  unfold tst
  rw [e]
  have e2 : (2 : Int) ^ b % 4294967296 = ((2 ^ b : Nat) : Int) := by
    have e3 : (2 : Int) ^ b = ((2 ^ b : Nat) : Int) := by simp
    have e4 : 2 ^ b ≤ 2 ^ 16 := Nat.pow_le_pow_right (by omega) hb
    rw [e3]
    generalize 2 ^ b = q at e4
    omega
  refine divisible_any _ hlt b hb _ ?_ w
  rw [e2, ← Int.ofNat_tmod]
  generalize (n ^^^ n / 32768) % 2 ^ b = q
  simp
end Go.Proofs.Ytcdnhnbigincpaa
