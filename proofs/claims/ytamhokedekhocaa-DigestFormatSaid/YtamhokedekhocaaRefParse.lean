/- The reference's digit and Parse, at this translation. -/
import Derived.Test.YtamhokedekhocaaPair
namespace Go.Proofs.Ytamhokedekhocaa
open Go.RowKit
attribute [local go_sem] eq_arr

/-- What the reference's digit returns. -/
def rdig (c : UInt8) : Int := if 0 ≤ dg c then dg c else 16
def rdigN (n : Int) : Int := if 48 ≤ n ∧ n ≤ 57 then n - 48 else if 97 ≤ n ∧ n ≤ 102 then n - 97 + 10 else 16
theorem rdig_cases : ∀ n : Fin 256, rdig (UInt8.ofNat n) = rdigN (n.val : Int) := by decide +kernel
theorem rdig_case (c : UInt8) : rdig c = rdigN c.toNat := by
  have := rdig_cases ⟨c.toNat, c.toNat_lt⟩
  simpa using this
set_option maxHeartbeats 400000 in
theorem digitN_any (n : Int) (h0 : 0 ≤ n) (hl : n < 256) (w : World) : Calls Try.prog 38 #[.int .u8 n] w fun e w' => e = .returned (.int .u64 (rdigN n)) ∧ w = w' := by
  by_cases h1 : 48 ≤ n
  · by_cases h2 : n ≤ 57
    · have HR : Hid (rdigN n = n - 48) := Lib.hid (by unfold rdigN; rw [if_pos ⟨h1, h2⟩])
      go_enter Try.func38, Try.ntmps38
      go_wp2
      go_ret
      exact ⟨ret_int (by rw [HR.out]), rfl⟩
    · by_cases h3 : 97 ≤ n
      · by_cases h4 : n ≤ 102
        · have HR : Hid (rdigN n = n - 97 + 10) := Lib.hid (by unfold rdigN; rw [if_neg (by omega), if_pos ⟨h3, h4⟩])
          go_enter Try.func38, Try.ntmps38
          go_wp2
          go_ret
          exact ⟨ret_int (by rw [HR.out]), rfl⟩
        · have HR : Hid (rdigN n = 16) := Lib.hid (by unfold rdigN; rw [if_neg (by omega), if_neg (by omega)])
          go_enter Try.func38, Try.ntmps38
          go_wp2
          go_ret
          exact ⟨ret_int (by rw [HR.out]), rfl⟩
      · have HR : Hid (rdigN n = 16) := Lib.hid (by unfold rdigN; rw [if_neg (by omega), if_neg (by omega)])
        go_enter Try.func38, Try.ntmps38
        go_wp2
        go_ret
        exact ⟨ret_int (by rw [HR.out]), rfl⟩
  · have HR : Hid (rdigN n = 16) := Lib.hid (by unfold rdigN; rw [if_neg (by omega), if_neg (by omega)])
    go_enter Try.func38, Try.ntmps38
    go_wp2
    go_ret
    exact ⟨ret_int (by rw [HR.out]), rfl⟩
theorem digit_any (c : UInt8) (w : World) : Calls Try.prog 38 #[.int .u8 c.toNat] w fun e w' => e = .returned (.int .u64 (rdig c)) ∧ w = w' := by
  rw [rdig_case]
  exact digitN_any c.toNat (by omega) (by have := c.toNat_lt; omega) w

theorem push_rdig (n : Nat) (c : UInt8) (hn : n < 2 ^ 60) (h0 : 0 ≤ dg c) (h1 : dg c < 16) :
    IntKind.u64.wrap (IntKind.u64.wrap ((n : Int) * 16) + rdig c) = ((n * 16 + (dg c).toNat : Nat) : Int) := by
  have : rdig c = dg c := by unfold rdig; rw [if_pos h0]
  rw [this]
  obtain ⟨m, hm⟩ := Int.eq_ofNat_of_zero_le h0
  rw [hm] at h1 ⊢
  rw [wraps_u64 ((n : Int) * 16) (by omega) (by omega), wraps_u64 _ (by omega) (by omega)]
  simp
set_option maxHeartbeats 1000000 in
theorem refParse_ok (s : ByteArray) (w : World) (hn : s.size = 32) (hh : ∀ c ∈ s.data.toList, 0 ≤ dg c) :
    Calls Try.prog 18 #[.string s] w fun e w' => e = .returned (.tuple #[.agg #[.int .u64 (lo s 32), .int .u64 (hi s 32)], .int .i64 0]) ∧ Below w.heap.size w w' := by
  have h32 : ((s.size : Int) != 32) = false := by simp [hn]
  have hn1 : s.size ≤ 32 := by omega
  have hn2 : 32 ≤ s.size := by omega
  clear hn
  have HH := Lib.hid hh
  clear hh
  go_enter Try.func18, Try.ntmps18
  go_wp2
  go_loopw [5] (fun i wr => ∃ k : Nat, k ≤ s.size ∧ i = .int .i64 k ∧  Two wr w.heap.size 0 0 ∧ Two wr (w.heap.size + 1) (lo s k) (hi s k) ∧ Below w.heap.size w wr) (fun i _ => s.size - (intOf i).toNat)
  case atStart =>
    refine ⟨0, Nat.zero_le _, rfl, (Two.fresh w 0 0 24).alloc (by simp) _, ?_, ((Below.refl _ _).alloc (Nat.le_refl _) _).alloc (by simp) _⟩
    have := Two.fresh (w.alloc (.cells #[.int .u64 0, .int .u64 0] 24)) 0 0 24
    rw [World.size_alloc] at this
    simpa [lo, hi, val] using this
  case round =>
    obtain ⟨k, hk, rfl, ht, hu, hB⟩ := hrel
    obtain ⟨a0, a1, f0, f1⟩ := ht
    obtain ⟨b0, b1, g0, g1⟩ := hu
    have ht : Two wr w.heap.size 0 0 := ⟨a0, a1, f0, f1⟩
    have hu : Two wr (w.heap.size + 1) (lo s k) (hi s k) := ⟨b0, b1, g0, g1⟩
    by_cases hlt : k < s.size
    · have hd : 0 ≤ dg s[k] := HH.out _ (mem_k s k hlt)
      have hd2 : dg s[k] < 16 := by have := (hx_dg s[k] hd).2; omega
      have hd4 : rdig s[k] ≤ 15 := by unfold rdig; rw [if_pos hd]; omega
      have hd5 : 0 ≤ rdig s[k] := by unfold rdig; rw [if_pos hd]; exact hd
      by_cases h16 : k < 16
      · have hq : (k : Int) / 16 = 0 := by omega
        have hp := push_rdig (lo s k) s[k] (lo_lt s k (fun c hc => HH.out c (List.mem_of_mem_take hc)) h16) hd hd2
        obtain ⟨e1, e2⟩ := lo_low s k hlt h16
        have HP := Lib.hid hp
        have E1 := Lib.hid e1
        have E2 := Lib.hid e2
        clear hp e1 e2
        go_wp2_with (go_at_call 38; refine (digit_any _ _).mono ?_; rintro e w' ⟨rfl, rfl⟩)
        go_roundw
        case rel =>
          refine ⟨k + 1, by omega, by go_num, ht.far ⟨w.heap.size + 1, 0, none⟩ (by simp) _, ?_, hB.setCell (p := ⟨w.heap.size + 1, 0, none⟩) (by simp) _⟩
          rw [E1.out, E2.out, HP.out]
          exact hu.set0 _
        case measure => simp [intOf]; omega
      · have hq : (k : Int) / 16 = 1 := by omega
        have hp := push_rdig (hi s k) s[k] (hi_lt s k (fun c hc => HH.out c (List.mem_of_mem_take hc)) (by omega)) hd hd2
        obtain ⟨e1, e2⟩ := lo_high s k hlt (by omega)
        have HP := Lib.hid hp
        have E1 := Lib.hid e1
        have E2 := Lib.hid e2
        clear hp e1 e2
        go_wp2_with (go_at_call 38; refine (digit_any _ _).mono ?_; rintro e w' ⟨rfl, rfl⟩)
        go_roundw
        case rel =>
          refine ⟨k + 1, by omega, by go_num, ht.far ⟨w.heap.size + 1, 1, none⟩ (by simp) _, ?_, hB.setCell (p := ⟨w.heap.size + 1, 1, none⟩) (by simp) _⟩
          rw [E1.out, E2.out, HP.out]
          exact hu.set1 _
        case measure => simp [intOf]; omega
    · have hks : k = 32 := by omega
      have HK := Lib.hid hks
      clear hks
      go_wp2
      refine bodyPost_ret (v := .tuple #[.agg #[.int .u64 (lo s k), .int .u64 (hi s k)], .int .i64 0]) ?_ rfl ⟨by rw [HK.out], ?_⟩
      · have r := ((ht.set0 (lo s k)).set1 (hi s k))
        obtain ⟨r0, r1, _, _⟩ := r
        simp [results, Try.results18, go_sem, r0, r1]
      · exact (hB.setCell (p := ⟨w.heap.size, 0, none⟩) (Nat.le_refl _) _).setCell (p := ⟨w.heap.size, 1, none⟩) (Nat.le_refl _) _

set_option maxHeartbeats 1000000 in
theorem refParse_no (s : ByteArray) (w : World) (hn : s.size = 32) (hh : ¬ ∀ c ∈ s.data.toList, 0 ≤ dg c) :
    Calls Try.prog 18 #[.string s] w fun e w' => e = .returned (.tuple #[.agg #[.int .u64 0, .int .u64 0], .int .i64 3]) ∧ Below w.heap.size w w' := by
  have h32 : ((s.size : Int) != 32) = false := by simp [hn]
  have hn1 : s.size ≤ 32 := by omega
  have hn2 : 32 ≤ s.size := by omega
  clear hn
  have HH := Lib.hid hh
  clear hh
  go_enter Try.func18, Try.ntmps18
  go_wp2
  go_loopw [5] (fun i wr => ∃ k : Nat, k ≤ s.size ∧ i = .int .i64 k ∧ (∀ c ∈ s.data.toList.take k, 0 ≤ dg c) ∧ Two wr w.heap.size 0 0 ∧ Two wr (w.heap.size + 1) (lo s k) (hi s k) ∧ Below w.heap.size w wr) (fun i _ => s.size - (intOf i).toNat)
  case atStart =>
    refine ⟨0, Nat.zero_le _, rfl, by simp, (Two.fresh w 0 0 24).alloc (by simp) _, ?_, ((Below.refl _ _).alloc (Nat.le_refl _) _).alloc (by simp) _⟩
    have := Two.fresh (w.alloc (.cells #[.int .u64 0, .int .u64 0] 24)) 0 0 24
    rw [World.size_alloc] at this
    simpa [lo, hi, val] using this
  case round =>
    obtain ⟨k, hk, rfl, hpre, ht, hu, hB⟩ := hrel
    have HPre := Lib.hid hpre
    clear hpre
    obtain ⟨a0, a1, f0, f1⟩ := ht
    obtain ⟨b0, b1, g0, g1⟩ := hu
    have ht : Two wr w.heap.size 0 0 := ⟨a0, a1, f0, f1⟩
    have hu : Two wr (w.heap.size + 1) (lo s k) (hi s k) := ⟨b0, b1, g0, g1⟩
    by_cases hlt : k < s.size
    · by_cases hd : 0 ≤ dg s[k]
      · have hd2 : dg s[k] < 16 := by have := (hx_dg s[k] hd).2; omega
        have hd4 : rdig s[k] ≤ 15 := by unfold rdig; rw [if_pos hd]; omega
        have hd5 : 0 ≤ rdig s[k] := by unfold rdig; rw [if_pos hd]; exact hd
        have HN : Hid (∀ c ∈ s.data.toList.take (k + 1), 0 ≤ dg c) := by
          refine Lib.hid ?_
          intro c hc
          rw [at_k s k hlt, List.mem_append, List.mem_singleton] at hc
          rcases hc with hc | rfl
          · exact HPre.out c hc
          · exact hd
        by_cases h16 : k < 16
        · have hq : (k : Int) / 16 = 0 := by omega
          have hp := push_rdig (lo s k) s[k] (lo_lt s k HPre.out h16) hd hd2
          obtain ⟨e1, e2⟩ := lo_low s k hlt h16
          have HP := Lib.hid hp
          have E1 := Lib.hid e1
          have E2 := Lib.hid e2
          clear hp e1 e2
          go_wp2_with (go_at_call 38; refine (digit_any _ _).mono ?_; rintro e w' ⟨rfl, rfl⟩)
          go_roundw
          case rel =>
            refine ⟨k + 1, by omega, by go_num, HN.out, ht.far ⟨w.heap.size + 1, 0, none⟩ (by simp) _, ?_, hB.setCell (p := ⟨w.heap.size + 1, 0, none⟩) (by simp) _⟩
            rw [E1.out, E2.out, HP.out]
            exact hu.set0 _
          case measure => simp [intOf]; omega
        · have hq : (k : Int) / 16 = 1 := by omega
          have hp := push_rdig (hi s k) s[k] (hi_lt s k HPre.out (by omega)) hd hd2
          obtain ⟨e1, e2⟩ := lo_high s k hlt (by omega)
          have HP := Lib.hid hp
          have E1 := Lib.hid e1
          have E2 := Lib.hid e2
          clear hp e1 e2
          go_wp2_with (go_at_call 38; refine (digit_any _ _).mono ?_; rintro e w' ⟨rfl, rfl⟩)
          go_roundw
          case rel =>
            refine ⟨k + 1, by omega, by go_num, HN.out, ht.far ⟨w.heap.size + 1, 1, none⟩ (by simp) _, ?_, hB.setCell (p := ⟨w.heap.size + 1, 1, none⟩) (by simp) _⟩
            rw [E1.out, E2.out, HP.out]
            exact hu.set1 _
          case measure => simp [intOf]; omega
      · have hd3 : 15 < rdig s[k] := by unfold rdig; rw [if_neg hd]; omega
        go_wp2_with (go_at_call 38; refine (digit_any _ _).mono ?_; rintro e w' ⟨rfl, rfl⟩)
        refine bodyPost_ret (v := .tuple #[.agg #[.int .u64 0, .int .u64 0], .int .i64 3]) ?_ rfl ⟨rfl, ?_⟩
        · have r := ((ht.set0 0).set1 0)
          obtain ⟨r0, r1, _, _⟩ := r
          simp [results, Try.results18, go_sem, r0, r1]
        · exact (hB.setCell (p := ⟨w.heap.size, 0, none⟩) (Nat.le_refl _) _).setCell (p := ⟨w.heap.size, 1, none⟩) (Nat.le_refl _) _
    · exact absurd (fun c hc => HPre.out c (by rw [List.take_of_length_le (by simp; omega)]; exact hc)) HH.out

set_option maxHeartbeats 400000 in
theorem refParse_short (s : ByteArray) (w : World) (hn : s.size ≠ 32) :
    Calls Try.prog 18 #[.string s] w fun e w' => e = .returned (.tuple #[.agg #[.int .u64 0, .int .u64 0], .int .i64 3]) ∧ Below w.heap.size w w' := by
  have h32 : ((s.size : Int) != 32) = true := by rw [bne_iff_ne]; omega
  clear hn
  go_enter Try.func18, Try.ntmps18
  go_wp2
  refine bodyPost_ret (v := .tuple #[.agg #[.int .u64 0, .int .u64 0], .int .i64 3]) ?_ rfl ⟨rfl, ?_⟩
  · simp [results, Try.results18, go_sem]
  · exact (Below.refl _ _).alloc (Nat.le_refl _) _
end Go.Proofs.Ytamhokedekhocaa
