/- digest.Of: two hashes of a string, at this translation; and the two examples of the chapter (awake). -/
import Derived.Test.YtamhokedekhocaaParse
namespace Go.Proofs.Ytamhokedekhocaa
open Go.RowKit

def g1 (h b : Int) : Int := IntKind.u64.wrap (bits BinOp.xor IntKind.u64 h b * 1099511628211)
def g2 (h b : Int) : Int := bits BinOp.xor IntKind.u64 (IntKind.u64.wrap (h * 1099511628211)) b
def start : Int := 14695981039346656037

theorem step1_any (h b : Int) (w : World) :
    Calls Try.prog 31 #[.int .u64 h, .int .u64 b] w fun e w' => e = .returned (.int .u64 (g1 h b)) ∧ w = w' := by
  go_enter Try.func31, Try.ntmps31
  go_wp2
  go_ret
  exact ⟨rfl, rfl⟩
theorem step2_any (h b : Int) (w : World) :
    Calls Try.prog 32 #[.int .u64 h, .int .u64 b] w fun e w' => e = .returned (.int .u64 (g2 h b)) ∧ w = w' := by
  go_enter Try.func32, Try.ntmps32
  go_wp2
  go_ret
  exact ⟨rfl, rfl⟩

def hs (g : Int → Int → Int) (l : List UInt8) : Int := l.foldl (fun h c => g h (IntKind.u64.wrap (c.toNat : Int))) start

theorem hs_snoc (g : Int → Int → Int) (l : List UInt8) (c : UInt8) : hs g (l ++ [c]) = g (hs g l) (IntKind.u64.wrap (c.toNat : Int)) := by
  simp [hs]

theorem take_snoc (s : ByteArray) (k : Nat) (h : k < s.size) : s.data.toList.take (k + 1) = s.data.toList.take k ++ [s[k]] := by
  rw [List.take_succ_eq_append_getElem (by simpa using h)]; rfl

theorem ret_int {k : IntKind} {a b : Int} (h : a = b) : Ending.returned (.int k a) = .returned (.int k b) := by rw [h]

set_option maxHeartbeats 400000 in
theorem hash1_any (s : ByteArray) (w : World) (hs0 : s.size ≤ maxLen) :
    Calls Try.prog 30 #[.string s, .func (.func 31) #[] #[]] w fun e w' => e = .returned (.int .u64 (hs g1 s.data.toList)) ∧ w = w' := by
  unfold maxLen at hs0
  go_enter Try.func30, Try.ntmps30
  go_wp2
  go_loop [5, 9] (fun h i => ∃ k : Nat, k ≤ s.size ∧ i = .int .i64 k ∧ h = .int .u64 (hs g1 (s.data.toList.take k))) (fun _ i => s.size - (intOf i).toNat)
  case atStart => exact ⟨0, Nat.zero_le _, rfl, rfl⟩
  case round =>
    obtain ⟨k, hk, rfl, rfl⟩ := hrel
    by_cases hlt : k < s.size
    · have hsn := hs_snoc g1 (s.data.toList.take k) s[k]
      rw [← take_snoc s k hlt] at hsn
      have HS := Lib.hid hsn
      clear hsn
      go_wp2_with (go_at_call 31; refine (step1_any _ _ _).mono ?_; rintro e w' ⟨rfl, rfl⟩)
      go_round
      case rel => exact ⟨k + 1, by omega, by go_num, by rw [HS.out]⟩
      case measure => simp [intOf]; omega
    · go_wp2
      go_ret
      exact ⟨ret_int (by rw [List.take_of_length_le (by simp; omega)]), rfl⟩

set_option maxHeartbeats 400000 in
theorem hash2_any (s : ByteArray) (w : World) (hs0 : s.size ≤ maxLen) :
    Calls Try.prog 30 #[.string s, .func (.func 32) #[] #[]] w fun e w' => e = .returned (.int .u64 (hs g2 s.data.toList)) ∧ w = w' := by
  unfold maxLen at hs0
  go_enter Try.func30, Try.ntmps30
  go_wp2
  go_loop [5, 9] (fun h i => ∃ k : Nat, k ≤ s.size ∧ i = .int .i64 k ∧ h = .int .u64 (hs g2 (s.data.toList.take k))) (fun _ i => s.size - (intOf i).toNat)
  case atStart => exact ⟨0, Nat.zero_le _, rfl, rfl⟩
  case round =>
    obtain ⟨k, hk, rfl, rfl⟩ := hrel
    by_cases hlt : k < s.size
    · have hsn := hs_snoc g2 (s.data.toList.take k) s[k]
      rw [← take_snoc s k hlt] at hsn
      have HS := Lib.hid hsn
      clear hsn
      go_wp2_with (go_at_call 32; refine (step2_any _ _ _).mono ?_; rintro e w' ⟨rfl, rfl⟩)
      go_round
      case rel => exact ⟨k + 1, by omega, by go_num, by rw [HS.out]⟩
      case measure => simp [intOf]; omega
    · go_wp2
      go_ret
      exact ⟨ret_int (by rw [List.take_of_length_le (by simp; omega)]), rfl⟩

/-- Two digests are compared number by number. -/
theorem eq_arr (a b c d : Int) (w : World) : (Op.equalIn 10000 24 (.agg #[.int .u64 a, .int .u64 b]) (.agg #[.int .u64 c, .int .u64 d])).run Try.prog w = .ok (a == c && b == d) w := by
  have hi := fun (n : Nat) (x y : Int) (w : World) => run_equalIn_int (P := Try.prog) w n 22 .u64 .u64 x y Try.underlying22
  show (Op.equalIn (9998 + 1 + 1) 24 _ _).run Try.prog w = _
  generalize 9998 = n
  unfold Op.equalIn
  simp [go_sem, run_underlying Try.underlying24, Try.sizeOf22]
  rw [show List.range' 0 2 = [0, 1] from rfl]
  simp only [List.forIn_cons, List.forIn_nil]
  cases h1 : (a == c) <;> cases h2 : (b == d) <;> simp [go_sem, Try.isAgg22, hi, h1, h2]
attribute [local go_sem] eq_arr

def of0 (l : List UInt8) : Int := hs g1 l
def of1 (l : List UInt8) : Int := if hs g1 l = 0 ∧ hs g2 l = 0 then 1 else hs g2 l

set_option maxHeartbeats 400000 in
theorem of_any (s : ByteArray) (w : World) (hs0 : s.size ≤ maxLen) :
    Calls Try.prog 11 #[.string s] w fun e w' => e = .returned (.agg #[.int .u64 (of0 s.data.toList), .int .u64 (of1 s.data.toList)]) ∧ Below w.heap.size w w' := by
  by_cases hz : hs g1 s.data.toList = 0 ∧ hs g2 s.data.toList = 0
  · have e0 : of0 s.data.toList = hs g1 s.data.toList := rfl
    have e1 : of1 s.data.toList = 1 := by unfold of1; rw [if_pos hz]
    have ht : (hs g1 s.data.toList == 0 && hs g2 s.data.toList == 0) = true := by simp [hz.1, hz.2]
    rw [e0, e1]
    clear e0 e1 hz
    go_enter Try.func11, Try.ntmps11
    go_wp2_with fail
    refine (hash1_any _ _ hs0).mono ?_
    rintro e w' ⟨rfl, rfl⟩
    go_wp2_with fail
    refine (hash2_any _ _ hs0).mono ?_
    rintro e w' ⟨rfl, rfl⟩
    go_wp2
    exact bodyPost_ret (v := .agg #[.int .u64 (hs g1 s.data.toList), .int .u64 1]) (by simp [results, Try.results11, go_sem]) rfl ⟨rfl, ((Below.refl _ _).alloc (Nat.le_refl _) _).alloc (by simp) _⟩
  · have e0 : of0 s.data.toList = hs g1 s.data.toList := rfl
    have e1 : of1 s.data.toList = hs g2 s.data.toList := by unfold of1; rw [if_neg hz]
    have ht : (hs g1 s.data.toList == 0 && hs g2 s.data.toList == 0) = false := by simpa using hz
    rw [e0, e1]
    clear e0 e1 hz
    go_enter Try.func11, Try.ntmps11
    go_wp2_with fail
    refine (hash1_any _ _ hs0).mono ?_
    rintro e w' ⟨rfl, rfl⟩
    go_wp2_with fail
    refine (hash2_any _ _ hs0).mono ?_
    rintro e w' ⟨rfl, rfl⟩
    go_wp2
    exact bodyPost_ret (v := .agg #[.int .u64 (hs g1 s.data.toList), .int .u64 (hs g2 s.data.toList)]) (by simp [results, Try.results11, go_sem]) rfl ⟨rfl, ((Below.refl _ _).alloc (Nat.le_refl _) _).alloc (by simp) _⟩

theorem of_nil : of0 [] = 14695981039346656037 ∧ of1 [] = 14695981039346656037 := by decide +kernel
theorem of_a : of0 [97] = 12638187200555641996 ∧ of1 [97] = 12638153115695167422 := by decide +kernel
theorem of_empty (w : World) : Calls Try.prog 11 #[.string ⟨#[]⟩] w fun e w' => e = .returned (.agg #[.int .u64 14695981039346656037, .int .u64 14695981039346656037]) ∧ Below w.heap.size w w' := by
  refine (of_any ⟨#[]⟩ w (Nat.zero_le _)).mono ?_
  rintro e w' ⟨rfl, hB⟩
  exact ⟨by rw [show (ByteArray.mk #[]).data.toList = [] from rfl, of_nil.1, of_nil.2], hB⟩
theorem of_letter (w : World) : Calls Try.prog 11 #[.string ⟨#[97]⟩] w fun e w' => e = .returned (.agg #[.int .u64 12638187200555641996, .int .u64 12638153115695167422]) ∧ Below w.heap.size w w' := by
  refine (of_any ⟨#[97]⟩ w (by decide)).mono ?_
  rintro e w' ⟨rfl, hB⟩
  exact ⟨by rw [show (ByteArray.mk #[97]).data.toList = [97] from rfl, of_a.1, of_a.2], hB⟩

set_option maxHeartbeats 400000 in
theorem awake_any (w : World) : Calls Try.prog 10 #[] w fun e w' => e = .returned (.bool true) ∧ Below w.heap.size w w' := by
  go_enter Try.func10, Try.ntmps10
  go_wp2_with fail
  refine (of_empty _).mono ?_
  rintro e w1 ⟨rfl, h1⟩
  go_wp2_with fail
  refine (of_letter _).mono ?_
  rintro e w2 ⟨rfl, h2⟩
  go_wp2
  go_ret
  exact ⟨rfl, h1.trans (h2.mono h1.size)⟩
end Go.Proofs.Ytamhokedekhocaa
