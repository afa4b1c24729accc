/- codec.Size, checked and GetInt, at this translation. -/
import Derived.Test.YtiaahjoldahlnaaCdPutInt
import Derived.LoopTactic
import Derived.IntWalk
namespace Go.Proofs.Ytiaahjoldahlnaa.Cd
open Go.RowKit Go.Shelf

set_option maxRecDepth 100000 in
set_option maxHeartbeats 2000000 in
theorem putIntBad_in (F : Fence) (n : Nat) (h3 : F.fn 44) (hro : F.round = none) (z : Int) (h : z < 0 ∨ 1099511627776 < z) (w : World) :
    CallsIn F n Try.prog 44 #[.int .i64 z] w fun e W' => e = .returned (.tuple #[.string ⟨#[]⟩, .int .i64 2]) ∧ Below w.heap.size w W' := by
  by_cases h1 : z < 0
  · clear h
    refine callsIn_of_wp_marks Try.func44 rfl h3 ?_ hro
    simp only [Try.ntmps44, List.size_toArray, List.length_cons, List.length_nil, Nat.reduceAdd, Nat.reduceSub, Array.replicate_succ, Array.replicate_zero, List.push_toArray, List.append_toArray, List.nil_append, List.cons_append]
    gi_wp2
    exact ⟨_, by simp [results, Try.f44, go_sem], rfl, Below.refl _ _⟩
  · have h2 : 1099511627776 < z := by omega
    clear h
    refine callsIn_of_wp_marks Try.func44 rfl h3 ?_ hro
    simp only [Try.ntmps44, List.size_toArray, List.length_cons, List.length_nil, Nat.reduceAdd, Nat.reduceSub, Array.replicate_succ, Array.replicate_zero, List.push_toArray, List.append_toArray, List.nil_append, List.cons_append]
    gi_wp2
    exact ⟨_, by simp [results, Try.f44, go_sem], rfl, Below.refl _ _⟩
theorem putInt_bad (z : Int) (h : z < 0 ∨ 1099511627776 < z) (w : World) : Calls Try.prog 44 #[.int .i64 z] w fun e W' => e = .returned (.tuple #[.string ⟨#[]⟩, .int .i64 2]) ∧ Below w.heap.size w W' :=
  (callsIn_wide (n := 3)).1 (putIntBad_in Fence.wide 3 trivial rfl z h w)
theorem putInt_good (z : Int) (m : Nat) (e : z = m) (hm : m ≤ 1099511627776) (w : World) : Calls Try.prog 44 #[.int .i64 z] w fun e W' => e = .returned (.tuple #[.string (strN (enc7 m)), .int .i64 0]) ∧ Below w.heap.size w W' := by
  subst e
  exact (callsIn_wide (n := 3)).1 (putInt_in Fence.wide 3 trivial trivial trivial rfl (by omega) m hm w)

theorem size_good (z : Int) (m : Nat) (e : z = m) (hm : m ≤ 1099511627776) (w : World) : Calls Try.prog 26 #[.int .i64 z] w fun e W' => e = .returned (.int .i64 ((enc7 m).length : Int)) ∧ Below w.heap.size w W' := by
  have hs := strN_size (enc7 m)
  have E := Lib.hid e
  have h6 : (strN (enc7 m)).size ≤ 6 := by rw [hs]; exact (enc7_len m 6 (by omega)).2 (by omega)
  have HS := Lib.hid hs
  clear e hs
  go_enter Try.func26, Try.ntmps26
  go_wp2_with fail
  ((with_reducible refine (putInt_good z m E.out hm _).mono ?_); rintro e w1 ⟨rfl, hb1⟩)
  go_wp2
  go_ret
  exact ⟨by rw [← HS.out]; rfl, hb1⟩
theorem size_bad (z : Int) (h : z < 0 ∨ 1099511627776 < z) (w : World) : Calls Try.prog 26 #[.int .i64 z] w fun e W' => e = .returned (.int .i64 0) ∧ Below w.heap.size w W' := by
  have H := Lib.hid h
  clear h
  go_enter Try.func26, Try.ntmps26
  go_wp2_with fail
  ((with_reducible refine (putInt_bad z H.out _).mono ?_); rintro e w1 ⟨rfl, hb1⟩)
  go_wp2
  go_ret
  exact ⟨rfl, hb1⟩

set_option maxHeartbeats 1000000 in
theorem checked_great (a k : Nat) (h : 1099511627776 < a) (w : World) : Calls Try.prog 79 #[.int .i64 a, .int .i64 k] w fun e W' => e = .returned (.tuple #[.int .i64 0, .int .i64 0, .int .i64 13]) ∧ Below w.heap.size w W' := by
  have h' : (1099511627776 : Int) < a := by omega
  go_enter Try.func79, Try.ntmps79
  go_wp2
  go_ret3
  exact ⟨rfl, Below.refl _ _⟩
set_option maxHeartbeats 1000000 in
theorem checked_other (a k : Nat) (h : a ≤ 1099511627776) (hk : (enc7 a).length ≠ k) (w : World) : Calls Try.prog 79 #[.int .i64 a, .int .i64 k] w fun e W' => e = .returned (.tuple #[.int .i64 0, .int .i64 0, .int .i64 13]) ∧ Below w.heap.size w W' := by
  have h' : ¬ (1099511627776 : Int) < a := by omega
  have q1 : (((enc7 a).length : Int) == (k : Int)) = false := by simp; omega
  have q2 : (((enc7 a).length : Int) != (k : Int)) = true := by simp; omega
  clear hk
  go_enter Try.func79, Try.ntmps79
  go_wp2_with fail
  ((with_reducible refine (size_good _ a rfl h _).mono ?_); rintro e w1 ⟨rfl, hb1⟩)
  go_wp2
  go_ret3
  exact ⟨rfl, hb1⟩
set_option maxHeartbeats 1000000 in
theorem checked_good (a k : Nat) (h : a ≤ 1099511627776) (hk : (enc7 a).length = k) (w : World) : Calls Try.prog 79 #[.int .i64 a, .int .i64 k] w fun e W' => e = .returned (.tuple #[.int .i64 a, .int .i64 k, .int .i64 0]) ∧ Below w.heap.size w W' := by
  have h' : ¬ (1099511627776 : Int) < a := by omega
  have q1 : (((enc7 a).length : Int) == (k : Int)) = true := by simp; omega
  have q2 : (((enc7 a).length : Int) != (k : Int)) = false := by simp; omega
  clear hk
  go_enter Try.func79, Try.ntmps79
  go_wp2_with fail
  ((with_reducible refine (size_good _ a rfl h _).mono ?_); rintro e w1 ⟨rfl, hb1⟩)
  go_wp2
  go_ret3
  exact ⟨rfl, hb1⟩
/-- checked: the number and its bytes, or ErrDecode. -/
theorem checked_any (z1 z2 : Int) (a k : Nat) (e1 : z1 = a) (e2 : z2 = k) (x y er : Int) (h : (x = a ∧ y = k ∧ er = 0 ∧ a ≤ 1099511627776 ∧ (enc7 a).length = k) ∨ (x = 0 ∧ y = 0 ∧ er = 13 ∧ ¬ (a ≤ 1099511627776 ∧ (enc7 a).length = k))) (w : World) :
    Calls Try.prog 79 #[.int .i64 z1, .int .i64 z2] w fun e W' => e = .returned (.tuple #[.int .i64 x, .int .i64 y, .int .i64 er]) ∧ Below w.heap.size w W' := by
  subst e1 e2
  rcases h with ⟨rfl, rfl, rfl, h1, h2⟩ | ⟨rfl, rfl, rfl, h1⟩
  · exact checked_good a k h1 h2 w
  · by_cases h2 : a ≤ 1099511627776
    · exact checked_other a k h2 (fun e => h1 ⟨h2, e⟩) w
    · exact checked_great a k (by omega) w

theorem nats_get (s : ByteArray) (k : Nat) (h : k < s.size) : (nats s)[k]'(by rw [nats_length]; exact h) = s[k].toNat := by
  simp only [nats, List.getElem_map]
  rfl

/-- The value of a digit at a place. -/
theorem shift_val (d i : Nat) (hd : d < 128) (hi : i ≤ 5) : d * 128 ^ i ≤ 127 * 34359738368 := by
  have h1 : 128 ^ i ≤ 128 ^ 5 := Nat.pow_le_pow_right (by decide) hi
  have h2 := Nat.mul_le_mul (show d ≤ 127 by omega) h1
  have h3 : (128 : Nat) ^ 5 = 34359738368 := by decide
  omega

theorem pow_128 (i : Nat) : (2 : Int) ^ (7 * i) = ((128 ^ i : Nat) : Int) := by
  rw [Int.pow_mul]
  simp
theorem shl_val (d i : Nat) (hi : i ≤ 5) : wrap64 ((d : Int) % 128 * 2 ^ (7 * i)) = ((d % 128 * 128 ^ i : Nat) : Int) := by
  have h := shift_val (d % 128) i (by omega) hi
  rw [pow_128, show (d : Int) % 128 = ((d % 128 : Nat) : Int) by omega, ← Int.natCast_mul]
  exact IntWalk.wrap64_in _ ⟨by omega, by omega⟩
/-- A digit more: below the next power. -/
theorem next_pow (a d i : Nat) (ha : a < 128 ^ i) (hi : i ≤ 5) : a + d % 128 * 128 ^ i < 128 ^ (i + 1) ∧ a + d % 128 * 128 ^ i ≤ 4398046511104 := by
  have h1 : (d % 128 + 1) * 128 ^ i ≤ 128 * 128 ^ i := Nat.mul_le_mul_right _ (by omega)
  have h2 : 128 ^ (i + 1) ≤ 128 ^ 6 := Nat.pow_le_pow_right (by decide) (by omega)
  have h3 : (128 : Nat) ^ 6 = 4398046511104 := by decide
  rw [Nat.pow_succ, Nat.mul_comm (128 ^ i) 128] at h2 ⊢
  rw [Nat.add_mul, Nat.one_mul] at h1
  omega

set_option maxRecDepth 100000 in
set_option maxHeartbeats 2000000 in
theorem getInt_any (s : ByteArray) (x k : Nat) (er : Int) (h : getL 12 13 6 0 0 (nats s) = (x, k, er)) (w : World) :
    Calls Try.prog 57 #[.string s] w fun e W' => e = .returned (.tuple #[.int .i64 x, .int .i64 k, .int .i64 er]) ∧ Below w.heap.size w W' := by
  have H := Lib.hid h
  clear h
  go_enter Try.func57, Try.ntmps57
  go_wp2
  go_loopw [5, 8] (fun s5 s8 wr => ∃ (i a : Nat), i ≤ 6 ∧ s5 = .int .i64 a ∧ s8 = .int .i64 i ∧ a < 128 ^ i ∧ a ≤ 4398046511104 ∧ Hid (getL 12 13 (6 - i) i a ((nats s).drop i) = (x, k, er)) ∧ Below w.heap.size w wr) (fun _ s8 _ => 6 - (intOf s8).toNat)
  case atStart => exact ⟨0, 0, by omega, rfl, rfl, by decide, by omega, H.out, Below.refl _ _⟩
  case round =>
    obtain ⟨i, a, hi, rfl, rfl, ha, ha2, hG, hB⟩ := hrel
    by_cases hlt : i < 6
    · by_cases hlen : i < s.size
      · have hG' : getL 12 13 (6 - i) i a ((nats s).drop i) = (x, k, er) := hG
        have hi' : i < (nats s).length := by rw [nats_length]; exact hlen
        rw [List.drop_eq_getElem_cons hi', nats_get s i hlen, show 6 - i = (5 - i) + 1 by omega, getL] at hG'
        have HG := Lib.hid hG'
        have HA := Lib.hid ha
        clear hG hG' hi' ha
        generalize hd : s[i].toNat = d at HG
        have hd1 : s[i].toNat = d := hd
        have hd2 : d < 256 := by rw [← hd]; exact s[i].toNat_lt
        have hn := next_pow a d i HA.out (by omega)
        have hs1 := shl_val d i (by omega)
        obtain ⟨q, hq⟩ : ∃ q, q = d % 128 * 128 ^ i := ⟨_, rfl⟩
        rw [← hq] at hs1 hn HG
        have HN := Lib.hid hn.1
        have hn2 := hn.2
        have HQ := Lib.hid hq
        clear hd hn hq
        by_cases h128 : d < 128
        · have hG2 := HG.out
          rw [if_pos h128] at hG2
          have hsz := enc7_size a d i HA.out h128
          have hq2 : q = d * 128 ^ i := by rw [HQ.out, Nat.mod_eq_of_lt h128]
          rw [← hq2] at hsz
          have hfit : ((x : Int) = (a + q : Nat) ∧ (k : Int) = (i + 1 : Nat) ∧ er = 0 ∧ a + q ≤ 1099511627776 ∧ (enc7 (a + q)).length = i + 1) ∨ ((x : Int) = 0 ∧ (k : Int) = 0 ∧ er = 13 ∧ ¬ (a + q ≤ 1099511627776 ∧ (enc7 (a + q)).length = i + 1)) := by
            by_cases hc : 1099511627776 < a + q ∨ (0 < i ∧ d = 0)
            · rw [if_pos hc] at hG2
              simp only [Prod.mk.injEq] at hG2
              refine .inr ⟨by omega, by omega, hG2.2.2.symm, fun ⟨h1, h2⟩ => ?_⟩
              have := hsz.1 h2
              omega
            · rw [if_neg hc] at hG2
              simp only [Prod.mk.injEq] at hG2
              exact .inl ⟨by omega, by omega, hG2.2.2.symm, by omega, hsz.2 (by omega)⟩
          have HF := Lib.hid hfit
          clear hG2 hsz hq2 hfit HG
          go_wp2_with fail
          ((with_reducible refine (checked_any _ _ (a + q) (i + 1) (by simp) (by simp) x k er HF.out _).mono ?_); rintro e w1 ⟨rfl, hb1⟩)
          go_wp2
          go_ret3
          exact ⟨rfl, hB.trans (hb1.mono hB.size)⟩
        · have hG2 := HG.out
          rw [if_neg h128] at hG2
          have HG2 := Lib.hid hG2
          clear hG2 HG
          go_wp2
          go_roundw
          case rel => exact ⟨i + 1, a + q, by omega, by simp, by go_num, HN.out, hn2, by rw [show 6 - (i + 1) = 5 - i by omega]; exact HG2.out, hB⟩
          case measure => simp [intOf]; omega
      · have hG' : getL 12 13 (6 - i) i a ((nats s).drop i) = (x, k, er) := hG
        rw [List.drop_eq_nil_of_le (by rw [nats_length]; omega), show 6 - i = (5 - i) + 1 by omega, getL] at hG'
        simp only [Prod.mk.injEq] at hG'
        obtain ⟨hx, hk, rfl⟩ := hG'
        have HX := Lib.hid hx
        have HK := Lib.hid hk
        clear hG hx hk
        go_wp2
        go_ret3
        exact ⟨by rw [← HX.out, ← HK.out]; rfl, hB⟩
    · have hG' : getL 12 13 (6 - i) i a ((nats s).drop i) = (x, k, er) := hG
      obtain rfl : i = 6 := by omega
      rw [getL] at hG'
      simp only [Prod.mk.injEq] at hG'
      obtain ⟨hx, hk, rfl⟩ := hG'
      have HX := Lib.hid hx
      have HK := Lib.hid hk
      clear hG hx hk ha
      go_wp2
      go_ret3
      exact ⟨by rw [← HX.out, ← HK.out]; rfl, hB⟩
end Go.Proofs.Ytiaahjoldahlnaa.Cd
