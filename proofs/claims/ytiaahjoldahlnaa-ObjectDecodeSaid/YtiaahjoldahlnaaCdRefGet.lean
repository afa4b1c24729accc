/- The reference's GetInt, at this translation. -/
import Derived.Test.YtiaahjoldahlnaaCdRefInt
namespace Go.Proofs.Ytiaahjoldahlnaa.Cd
open Go.RowKit Go.Shelf

theorem pow_bd (i : Nat) (hi : i ≤ 6) : 128 ^ i ≤ 4398046511104 := by
  have h2 : 128 ^ i ≤ 128 ^ 6 := Nat.pow_le_pow_right (by decide) (by omega)
  have h3 : (128 : Nat) ^ 6 = 4398046511104 := by decide
  omega
theorem pow_bd5 (i : Nat) (hi : i ≤ 5) : 128 ^ i ≤ 34359738368 := by
  have h2 : 128 ^ i ≤ 128 ^ 5 := Nat.pow_le_pow_right (by decide) (by omega)
  have h3 : (128 : Nat) ^ 5 = 34359738368 := by decide
  omega

set_option maxRecDepth 100000 in
set_option maxHeartbeats 2000000 in
theorem refGetInt_any (s : ByteArray) (x k : Nat) (er : Int) (h : getL 12 13 6 0 0 (nats s) = (x, k, er)) (w : World) :
    Calls Try.prog 67 #[.string s] w fun e W' => e = .returned (.tuple #[.int .i64 x, .int .i64 k, .int .i64 er]) ∧ Below w.heap.size w W' := by
  have H := Lib.hid h
  clear h
  go_enter Try.func67, Try.ntmps67
  go_wp2
  go_loopw [5, 6, 7] (fun s5 s6 s7 wr => ∃ (i a u : Nat), i ≤ 6 ∧ i ≤ s.size ∧ s5 = .int .i64 a ∧ s6 = .int .i64 u ∧ s7 = .int .i64 i ∧ Hid (u = 128 ^ i) ∧ u ≤ 4398046511104 ∧ Hid (a < 128 ^ i) ∧ a ≤ 4398046511104 ∧ Hid (getL 12 13 (6 - i) i a ((nats s).drop i) = (x, k, er)) ∧ Below w.heap.size w wr) (fun _ _ s7 _ => 6 - (intOf s7).toNat)
  case atStart => exact ⟨0, 0, 1, by omega, by omega, rfl, rfl, rfl, rfl, by omega, Lib.hid (by decide), by omega, H.out, Below.refl _ _⟩
  case round =>
    obtain ⟨i, a, u, hi, his, rfl, rfl, rfl, hu, hu2, ha, ha2, hG, hB⟩ := hrel
    by_cases hlt : i < 6
    · by_cases hlen : i < s.size
      · have hG' : getL 12 13 (6 - i) i a ((nats s).drop i) = (x, k, er) := hG
        have hi' : i < (nats s).length := by rw [nats_length]; exact hlen
        rw [List.drop_eq_getElem_cons hi', nats_get s i hlen, show 6 - i = (5 - i) + 1 by omega, getL] at hG'
        have HG := Lib.hid hG'
        have q1 : ((i : Int) == (s.size : Int)) = false := by simp; omega
        have u5 : u ≤ 34359738368 := by rw [hu.out]; exact pow_bd5 i (by omega)
        clear hG hG' hi' hu2
        generalize hd : s[i].toNat = d at HG
        have hd1 : s[i].toNat = d := hd
        have hd2 : d < 256 := by rw [← hd]; exact s[i].toNat_lt
        have hn := next_pow a d i ha.out (by omega)
        have hsv := shift_val (d % 128) i (by omega) (by omega)
        obtain ⟨q, hq⟩ : ∃ q, q = d % 128 * 128 ^ i := ⟨_, rfl⟩
        rw [← hq] at hn HG hsv
        have hs1 : wrap64 ((u : Int) * ((d : Int) % 128)) = (q : Int) := by
          have e : (u : Int) * ((d : Int) % 128) = ((q : Nat) : Int) := by
            rw [hq, hu.out, show (d : Int) % 128 = ((d % 128 : Nat) : Int) by omega, ← Int.natCast_mul, Nat.mul_comm]
          rw [e]
          exact IntWalk.wrap64_in _ ⟨by omega, by omega⟩
        have HN := Lib.hid hn.1
        have hn2 := hn.2
        have HQ := Lib.hid hq
        clear hd hn hq hsv
        by_cases h128 : d < 128
        · have hG2 := HG.out
          rw [if_pos h128] at hG2
          by_cases hc1 : 1099511627776 < a + q
          · rw [if_pos (.inl hc1)] at hG2
            simp only [Prod.mk.injEq] at hG2
            obtain ⟨hx, hk, rfl⟩ := hG2
            have HX := Lib.hid hx
            have HK := Lib.hid hk
            have hc1' : (1099511627776 : Int) < (a : Int) + q := by omega
            clear hx hk HG
            go_wp2
            go_ret3
            exact ⟨by rw [← HX.out, ← HK.out]; rfl, hB⟩
          · by_cases hc2 : 0 < i
            · by_cases hc3 : d = 0
              · rw [if_pos (.inr ⟨hc2, hc3⟩)] at hG2
                simp only [Prod.mk.injEq] at hG2
                obtain ⟨hx, hk, rfl⟩ := hG2
                have HX := Lib.hid hx
                have HK := Lib.hid hk
                have hc1' : ¬ (1099511627776 : Int) < (a : Int) + q := by omega
                have d0 : ((d : Int) == 0) = true := by simp [hc3]
                clear hx hk HG hc3
                go_wp2
                go_ret3
                exact ⟨by rw [← HX.out, ← HK.out]; rfl, hB⟩
              · rw [if_neg (by omega)] at hG2
                simp only [Prod.mk.injEq] at hG2
                obtain ⟨hx, hk, rfl⟩ := hG2
                have HX := Lib.hid hx
                have HK := Lib.hid hk
                have hc1' : ¬ (1099511627776 : Int) < (a : Int) + q := by omega
                have d0 : ((d : Int) == 0) = false := by simp; omega
                clear hx hk HG hc3
                go_wp2
                go_ret3
                exact ⟨by rw [← HX.out, ← HK.out]; simp, hB⟩
            · rw [if_neg (by omega)] at hG2
              simp only [Prod.mk.injEq] at hG2
              obtain ⟨hx, hk, rfl⟩ := hG2
              have HX := Lib.hid hx
              have HK := Lib.hid hk
              have hc1' : ¬ (1099511627776 : Int) < (a : Int) + q := by omega
              clear hx hk HG
              go_wp2
              go_ret3
              exact ⟨by rw [← HX.out, ← HK.out]; simp, hB⟩
        · have hG2 := HG.out
          rw [if_neg h128] at hG2
          have HG2 := Lib.hid hG2
          have HU := hu
          clear hG2 HG hu
          go_wp2
          go_round
          case rel => exact ⟨i + 1, a + q, u * 128, by omega, by omega, by simp, by go_num, by go_num, Lib.hid (by rw [HU.out, Nat.pow_succ]), by omega, Lib.hid HN.out, hn2, by rw [show 6 - (i + 1) = 5 - i by omega]; exact HG2.out, hB⟩
          case measure => simp [intOf]; omega
      · have hG' : getL 12 13 (6 - i) i a ((nats s).drop i) = (x, k, er) := hG
        rw [List.drop_eq_nil_of_le (by rw [nats_length]; omega), show 6 - i = (5 - i) + 1 by omega, getL] at hG'
        simp only [Prod.mk.injEq] at hG'
        obtain ⟨hx, hk, rfl⟩ := hG'
        have HX := Lib.hid hx
        have HK := Lib.hid hk
        have q1 : ((i : Int) == (s.size : Int)) = true := by simp; omega
        clear hG hx hk hu ha
        go_wp2
        go_ret3
        exact ⟨by rw [← HX.out, ← HK.out]; rfl, hB⟩
    · have hG' : getL 12 13 (6 - i) i a ((nats s).drop i) = (x, k, er) := hG
      obtain rfl : i = 6 := by omega
      rw [getL] at hG'
      simp only [Prod.mk.injEq] at hG'
      obtain ⟨hx, hk, rfl⟩ := hG'
      have HX := Lib.hid hx
      have HK := Lib.hid hk
      clear hG hx hk ha hu
      go_wp2
      go_ret3
      exact ⟨by rw [← HX.out, ← HK.out]; rfl, hB⟩
end Go.Proofs.Ytiaahjoldahlnaa.Cd
