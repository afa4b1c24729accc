/- digest.Parse: the digest of a text of thirty-two hexadecimal digits, or the zero digest and ErrSyntax, at this translation. -/
import Derived.Test.YtamhokedekhocaaFormat
namespace Go.Proofs.Ytamhokedekhocaa
open Go.RowKit
theorem idx_any (c : UInt8) (w : World) :
    Calls Try.prog 37 #[.string ⟨#[48, 49, 50, 51, 52, 53, 54, 55, 56, 57, 97, 98, 99, 100, 101, 102]⟩, .int .u8 c.toNat] w fun e w' => e = .returned (.int .i64 (dg c)) ∧ w = w' := by
  refine (Try.strings_IndexByte _ _ w).mono ?_
  rintro e w' ⟨rfl, rfl⟩
  refine ⟨?_, rfl⟩
  simp [dg, hexes]

/-- A block of two numbers, which can be written. -/
def Two (w : World) (b : Nat) (x y : Int) : Prop :=
  w.cell? ⟨b, 0, none⟩ = some (.int .u64 x) ∧ w.cell? ⟨b, 1, none⟩ = some (.int .u64 y) ∧ w.frozen? ⟨b, 0, none⟩ = false ∧ w.frozen? ⟨b, 1, none⟩ = false
theorem Two.set0 {w : World} {b : Nat} {x y : Int} (h : Two w b x y) (z : Int) : Two (w.setCell ⟨b, 0, none⟩ (.int .u64 z)) b z y :=
  ⟨World.cell?_setCell_same' _ _ _ (by rw [h.1]; rfl), (World.cell?_setCell_other w _ _ _ (by simp)).trans h.2.1, (World.frozen?_setCell ..).trans h.2.2.1, (World.frozen?_setCell ..).trans h.2.2.2⟩
theorem Two.set1 {w : World} {b : Nat} {x y : Int} (h : Two w b x y) (z : Int) : Two (w.setCell ⟨b, 1, none⟩ (.int .u64 z)) b x z :=
  ⟨(World.cell?_setCell_other w _ _ _ (by simp)).trans h.1, World.cell?_setCell_same' _ _ _ (by rw [h.2.1]; rfl), (World.frozen?_setCell ..).trans h.2.2.1, (World.frozen?_setCell ..).trans h.2.2.2⟩
theorem Two.far {w : World} {b : Nat} {x y : Int} (h : Two w b x y) (p : Addr) (hp : p.block ≠ b) (v : Value) : Two (w.setCell p v) b x y :=
  ⟨(World.cell?_setCell_other w _ _ _ (by rintro rfl; exact hp rfl)).trans h.1, (World.cell?_setCell_other w _ _ _ (by rintro rfl; exact hp rfl)).trans h.2.1, (World.frozen?_setCell ..).trans h.2.2.1, (World.frozen?_setCell ..).trans h.2.2.2⟩
theorem Two.below {w w' : World} {B b : Nat} {x y : Int} (h : Two w b x y) (hB : Below B w w') (hb : b < B) : Two w' b x y :=
  ⟨(hB.cell (p := ⟨b, 0, none⟩) hb).trans h.1, (hB.cell (p := ⟨b, 1, none⟩) hb).trans h.2.1, (hB.frozen (p := ⟨b, 0, none⟩) hb).trans h.2.2.1, (hB.frozen (p := ⟨b, 1, none⟩) hb).trans h.2.2.2⟩
theorem Two.fresh (w : World) (x y : Int) (T : TypeId) : Two (w.alloc (.cells #[.int .u64 x, .int .u64 y] T)) w.heap.size x y := by
  refine ⟨?_, ?_, ?_, ?_⟩ <;> simp
theorem Two.alloc {w : World} {b : Nat} {x y : Int} (h : Two w b x y) (hb : b < w.heap.size) (o : Obj) : Two (w.alloc o) b x y :=
  h.below (((Below.refl w.heap.size w).alloc (Nat.le_refl _) o)) hb

def lo (s : ByteArray) (k : Nat) : Nat := val ((s.data.toList.take k).take 16)
def hi (s : ByteArray) (k : Nat) : Nat := val ((s.data.toList.take k).drop 16)
theorem at_k (s : ByteArray) (k : Nat) (h : k < s.size) : s.data.toList.take (k + 1) = s.data.toList.take k ++ [s[k]] := by
  rw [List.take_succ_eq_append_getElem (by simpa using h)]; rfl
theorem mem_k (s : ByteArray) (k : Nat) (h : k < s.size) : s[k] ∈ s.data.toList := by
  have : s[k] = s.data[k] := rfl
  rw [this]; simp
theorem lo_low (s : ByteArray) (k : Nat) (h : k < s.size) (hk : k < 16) : lo s (k + 1) = lo s k * 16 + (dg s[k]).toNat ∧ hi s (k + 1) = hi s k := by
  unfold lo hi
  have hl : (s.data.toList.take k).length ≤ k := List.length_take_le _ _
  rw [at_k s k h]
  constructor
  · rw [List.take_of_length_le (l := s.data.toList.take k ++ [s[k]]) (by simp; omega), List.take_of_length_le (l := s.data.toList.take k) (by omega), val_snoc]
  · rw [List.drop_of_length_le (l := s.data.toList.take k ++ [s[k]]) (by simp; omega), List.drop_of_length_le (l := s.data.toList.take k) (by omega)]
theorem lo_high (s : ByteArray) (k : Nat) (h : k < s.size) (hk : 16 ≤ k) : lo s (k + 1) = lo s k ∧ hi s (k + 1) = hi s k * 16 + (dg s[k]).toNat := by
  unfold lo hi
  have hl : (s.data.toList.take k).length = k := by rw [List.length_take]; simp; omega
  rw [at_k s k h]
  constructor
  · rw [List.take_append_of_le_length (by omega)]
  · rw [List.drop_append_of_le_length (by omega), val_snoc]
theorem lo_lt (s : ByteArray) (k : Nat) (hh : ∀ c ∈ s.data.toList.take k, 0 ≤ dg c) (hk : k < 16) : lo s k < 2 ^ 60 := by
  have := val_lt ((s.data.toList.take k).take 16) (fun c hc => hh c (List.mem_of_mem_take hc))
  unfold lo
  refine Nat.lt_of_lt_of_le this ?_
  have hl : ((s.data.toList.take k).take 16).length ≤ 15 := by rw [List.length_take, List.length_take]; omega
  exact Nat.le_trans (Nat.pow_le_pow_right (by decide) hl) (by decide)
theorem hi_lt (s : ByteArray) (k : Nat) (hh : ∀ c ∈ s.data.toList.take k, 0 ≤ dg c) (hk : k < 32) : hi s k < 2 ^ 60 := by
  have := val_lt ((s.data.toList.take k).drop 16) (fun c hc => hh c (List.mem_of_mem_drop hc))
  unfold hi
  refine Nat.lt_of_lt_of_le this ?_
  have hl : ((s.data.toList.take k).drop 16).length ≤ 15 := by rw [List.length_drop, List.length_take]; omega
  exact Nat.le_trans (Nat.pow_le_pow_right (by decide) hl) (by decide)
/-- What the text's digit makes of a number, as the walk writes it. -/
theorem push_digit (n : Nat) (d : Int) (hn : n < 2 ^ 60) (h0 : 0 ≤ d) (h1 : d < 16) :
    bits BinOp.or IntKind.u64 (IntKind.u64.wrap ((n : Int) * 16)) d = ((n * 16 + d.toNat : Nat) : Int) := by
  obtain ⟨m, rfl⟩ := Int.eq_ofNat_of_zero_le h0
  rw [wraps_u64 _ (by omega) (by omega), u64_or4 n m hn (by omega)]
  simp

set_option maxHeartbeats 1000000 in
theorem parse_ok (s : ByteArray) (w : World) (hn : s.size = 32) (hh : ∀ c ∈ s.data.toList, 0 ≤ dg c) :
    Calls Try.prog 17 #[.string s] w fun e w' => e = .returned (.tuple #[.agg #[.int .u64 (lo s 32), .int .u64 (hi s 32)], .int .i64 0]) ∧ Below w.heap.size w w' := by
  have h32 : ((s.size : Int) != 32) = false := by simp [hn]
  have hn1 : s.size ≤ 32 := by omega
  have hn2 : 32 ≤ s.size := by omega
  clear hn
  have HH := Lib.hid hh
  clear hh
  go_enter Try.func17, Try.ntmps17
  go_wp2
  go_loopw [13] (fun i wr => ∃ k : Nat, k ≤ s.size ∧ i = .int .i64 k ∧  Two wr w.heap.size 0 0 ∧ Two wr (w.heap.size + 1) (lo s k) (hi s k) ∧ Below w.heap.size w wr) (fun i _ => s.size - (intOf i).toNat)
  case atStart =>
    refine ⟨0, Nat.zero_le _, rfl, (Two.fresh w 0 0 24).alloc (by simp) _, ?_, ((Below.refl _ _).alloc (Nat.le_refl _) _).alloc (by simp) _⟩
    have := Two.fresh (w.alloc (.cells #[.int .u64 0, .int .u64 0] 24)) 0 0 24
    rw [World.size_alloc] at this
    simpa [lo, hi, val] using this
  case round =>
    obtain ⟨k, hk, rfl, ht, hu, hB⟩ := hrel
    obtain ⟨a0, a1, f0, f1⟩ := ht
    obtain ⟨b0, b1, g0, g1⟩ := hu
    have ht : Two wr w.heap.size 0 0 := ⟨a0, a1, f0, f1⟩
    have hu : Two wr (w.heap.size + 1) (lo s k) (hi s k) := ⟨b0, b1, g0, g1⟩
    by_cases hlt : k < s.size
    · have hd : 0 ≤ dg s[k] := HH.out _ (mem_k s k hlt)
      have hd2 : dg s[k] < 16 := by have := (hx_dg s[k] hd).2; omega
      by_cases h16 : k < 16
      · have hq : (k : Int) / 16 = 0 := by omega
        have hp := push_digit (lo s k) (dg s[k]) (lo_lt s k (fun c hc => HH.out c (List.mem_of_mem_take hc)) h16) hd hd2
        obtain ⟨e1, e2⟩ := lo_low s k hlt h16
        have HP := Lib.hid hp
        have E1 := Lib.hid e1
        have E2 := Lib.hid e2
        clear hp e1 e2
        go_wp2_with (go_at_call 37; refine (idx_any _ _).mono ?_; rintro e w' ⟨rfl, rfl⟩)
        go_roundw
        case rel =>
          refine ⟨k + 1, by omega, by go_num, ht.far ⟨w.heap.size + 1, 0, none⟩ (by simp) _, ?_, hB.setCell (p := ⟨w.heap.size + 1, 0, none⟩) (by simp) _⟩
          rw [E1.out, E2.out, HP.out]
          exact hu.set0 _
        case measure => simp [intOf]; omega
      · have hq : (k : Int) / 16 = 1 := by omega
        have hp := push_digit (hi s k) (dg s[k]) (hi_lt s k (fun c hc => HH.out c (List.mem_of_mem_take hc)) (by omega)) hd hd2
        obtain ⟨e1, e2⟩ := lo_high s k hlt (by omega)
        have HP := Lib.hid hp
        have E1 := Lib.hid e1
        have E2 := Lib.hid e2
        clear hp e1 e2
        go_wp2_with (go_at_call 37; refine (idx_any _ _).mono ?_; rintro e w' ⟨rfl, rfl⟩)
        go_roundw
        case rel =>
          refine ⟨k + 1, by omega, by go_num, ht.far ⟨w.heap.size + 1, 1, none⟩ (by simp) _, ?_, hB.setCell (p := ⟨w.heap.size + 1, 1, none⟩) (by simp) _⟩
          rw [E1.out, E2.out, HP.out]
          exact hu.set1 _
        case measure => simp [intOf]; omega
    · have hks : k = 32 := by omega
      have HK := Lib.hid hks
      clear hks
      go_wp2
      refine bodyPost_ret (v := .tuple #[.agg #[.int .u64 (lo s k), .int .u64 (hi s k)], .int .i64 0]) ?_ rfl ⟨by rw [HK.out], ?_⟩
      · have r := ((ht.set0 (lo s k)).set1 (hi s k))
        obtain ⟨r0, r1, _, _⟩ := r
        simp [results, Try.results17, go_sem, r0, r1]
      · exact (hB.setCell (p := ⟨w.heap.size, 0, none⟩) (Nat.le_refl _) _).setCell (p := ⟨w.heap.size, 1, none⟩) (Nat.le_refl _) _

set_option maxHeartbeats 1000000 in
theorem parse_no (s : ByteArray) (w : World) (hn : s.size = 32) (hh : ¬ ∀ c ∈ s.data.toList, 0 ≤ dg c) :
    Calls Try.prog 17 #[.string s] w fun e w' => e = .returned (.tuple #[.agg #[.int .u64 0, .int .u64 0], .int .i64 3]) ∧ Below w.heap.size w w' := by
  have h32 : ((s.size : Int) != 32) = false := by simp [hn]
  have hn1 : s.size ≤ 32 := by omega
  have hn2 : 32 ≤ s.size := by omega
  clear hn
  have HH := Lib.hid hh
  clear hh
  go_enter Try.func17, Try.ntmps17
  go_wp2
  go_loopw [13] (fun i wr => ∃ k : Nat, k ≤ s.size ∧ i = .int .i64 k ∧ (∀ c ∈ s.data.toList.take k, 0 ≤ dg c) ∧ Two wr w.heap.size 0 0 ∧ Two wr (w.heap.size + 1) (lo s k) (hi s k) ∧ Below w.heap.size w wr) (fun i _ => s.size - (intOf i).toNat)
  case atStart =>
    refine ⟨0, Nat.zero_le _, rfl, by simp, (Two.fresh w 0 0 24).alloc (by simp) _, ?_, ((Below.refl _ _).alloc (Nat.le_refl _) _).alloc (by simp) _⟩
    have := Two.fresh (w.alloc (.cells #[.int .u64 0, .int .u64 0] 24)) 0 0 24
    rw [World.size_alloc] at this
    simpa [lo, hi, val] using this
  case round =>
    obtain ⟨k, hk, rfl, hpre, ht, hu, hB⟩ := hrel
    have HPre := Lib.hid hpre
    clear hpre
    obtain ⟨a0, a1, f0, f1⟩ := ht
    obtain ⟨b0, b1, g0, g1⟩ := hu
    have ht : Two wr w.heap.size 0 0 := ⟨a0, a1, f0, f1⟩
    have hu : Two wr (w.heap.size + 1) (lo s k) (hi s k) := ⟨b0, b1, g0, g1⟩
    by_cases hlt : k < s.size
    · by_cases hd : 0 ≤ dg s[k]
      · have hd2 : dg s[k] < 16 := by have := (hx_dg s[k] hd).2; omega
        have HN : Hid (∀ c ∈ s.data.toList.take (k + 1), 0 ≤ dg c) := by
          refine Lib.hid ?_
          intro c hc
          rw [at_k s k hlt, List.mem_append, List.mem_singleton] at hc
          rcases hc with hc | rfl
          · exact HPre.out c hc
          · exact hd
        by_cases h16 : k < 16
        · have hq : (k : Int) / 16 = 0 := by omega
          have hp := push_digit (lo s k) (dg s[k]) (lo_lt s k HPre.out h16) hd hd2
          obtain ⟨e1, e2⟩ := lo_low s k hlt h16
          have HP := Lib.hid hp
          have E1 := Lib.hid e1
          have E2 := Lib.hid e2
          clear hp e1 e2
          go_wp2_with (go_at_call 37; refine (idx_any _ _).mono ?_; rintro e w' ⟨rfl, rfl⟩)
          go_roundw
          case rel =>
            refine ⟨k + 1, by omega, by go_num, HN.out, ht.far ⟨w.heap.size + 1, 0, none⟩ (by simp) _, ?_, hB.setCell (p := ⟨w.heap.size + 1, 0, none⟩) (by simp) _⟩
            rw [E1.out, E2.out, HP.out]
            exact hu.set0 _
          case measure => simp [intOf]; omega
        · have hq : (k : Int) / 16 = 1 := by omega
          have hp := push_digit (hi s k) (dg s[k]) (hi_lt s k HPre.out (by omega)) hd hd2
          obtain ⟨e1, e2⟩ := lo_high s k hlt (by omega)
          have HP := Lib.hid hp
          have E1 := Lib.hid e1
          have E2 := Lib.hid e2
          clear hp e1 e2
          go_wp2_with (go_at_call 37; refine (idx_any _ _).mono ?_; rintro e w' ⟨rfl, rfl⟩)
          go_roundw
          case rel =>
            refine ⟨k + 1, by omega, by go_num, HN.out, ht.far ⟨w.heap.size + 1, 1, none⟩ (by simp) _, ?_, hB.setCell (p := ⟨w.heap.size + 1, 1, none⟩) (by simp) _⟩
            rw [E1.out, E2.out, HP.out]
            exact hu.set1 _
          case measure => simp [intOf]; omega
      · have hd3 : dg s[k] < 0 := by omega
        go_wp2_with (go_at_call 37; refine (idx_any _ _).mono ?_; rintro e w' ⟨rfl, rfl⟩)
        refine bodyPost_ret (v := .tuple #[.agg #[.int .u64 0, .int .u64 0], .int .i64 3]) ?_ rfl ⟨rfl, ?_⟩
        · have r := ((ht.set0 0).set1 0)
          obtain ⟨r0, r1, _, _⟩ := r
          simp [results, Try.results17, go_sem, r0, r1]
        · exact (hB.setCell (p := ⟨w.heap.size, 0, none⟩) (Nat.le_refl _) _).setCell (p := ⟨w.heap.size, 1, none⟩) (Nat.le_refl _) _
    · exact absurd (fun c hc => HPre.out c (by rw [List.take_of_length_le (by simp; omega)]; exact hc)) HH.out

set_option maxHeartbeats 400000 in
theorem parse_short (s : ByteArray) (w : World) (hn : s.size ≠ 32) :
    Calls Try.prog 17 #[.string s] w fun e w' => e = .returned (.tuple #[.agg #[.int .u64 0, .int .u64 0], .int .i64 3]) ∧ Below w.heap.size w w' := by
  have h32 : ((s.size : Int) != 32) = true := by rw [bne_iff_ne]; omega
  clear hn
  go_enter Try.func17, Try.ntmps17
  go_wp2
  refine bodyPost_ret (v := .tuple #[.agg #[.int .u64 0, .int .u64 0], .int .i64 3]) ?_ rfl ⟨rfl, ?_⟩
  · simp [results, Try.results17, go_sem]
  · exact (Below.refl _ _).alloc (Nat.le_refl _) _
end Go.Proofs.Ytamhokedekhocaa
