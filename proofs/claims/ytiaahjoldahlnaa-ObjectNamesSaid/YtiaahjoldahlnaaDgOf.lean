/- digest.Of and the reference's Of, at this translation. -/
import Derived.Test.YtiaahjoldahlnaaProg
import Derived.Below
import Derived.LoopTactic
import Derived.Lib.Hide
import Derived.WalkKit
namespace Go.Proofs.Ytiaahjoldahlnaa.Dg
open Go.RowKit

def dg1 (h b : Int) : Int := IntKind.u64.wrap (bits BinOp.xor IntKind.u64 h b * 1099511628211)
def dg2 (h b : Int) : Int := bits BinOp.xor IntKind.u64 (IntKind.u64.wrap (h * 1099511628211)) b
def dstart : Int := 14695981039346656037

theorem step1_any (h b : Int) (w : World) :
    Calls Try.prog 39 #[.int .u64 h, .int .u64 b] w fun e w' => e = .returned (.int .u64 (dg1 h b)) ∧ w = w' := by
  go_enter Try.func39, Try.ntmps39
  go_wp2
  go_ret
  exact ⟨rfl, rfl⟩
theorem step2_any (h b : Int) (w : World) :
    Calls Try.prog 40 #[.int .u64 h, .int .u64 b] w fun e w' => e = .returned (.int .u64 (dg2 h b)) ∧ w = w' := by
  go_enter Try.func40, Try.ntmps40
  go_wp2
  go_ret
  exact ⟨rfl, rfl⟩

def dg (g : Int → Int → Int) (l : List UInt8) : Int := l.foldl (fun h c => g h (IntKind.u64.wrap (c.toNat : Int))) dstart

theorem dg_snoc (g : Int → Int → Int) (l : List UInt8) (c : UInt8) : dg g (l ++ [c]) = g (dg g l) (IntKind.u64.wrap (c.toNat : Int)) := by
  simp [dg]

theorem dtake_snoc (s : ByteArray) (k : Nat) (h : k < s.size) : s.data.toList.take (k + 1) = s.data.toList.take k ++ [s[k]] := by
  rw [List.take_succ_eq_append_getElem (by simpa using h)]; rfl

theorem ret_int {k : IntKind} {a b : Int} (h : a = b) : Ending.returned (.int k a) = .returned (.int k b) := by rw [h]

set_option maxHeartbeats 400000 in
theorem hash1_any (s : ByteArray) (w : World) (hz0 : s.size ≤ maxLen) :
    Calls Try.prog 38 #[.string s, .func (.func 39) #[] #[]] w fun e w' => e = .returned (.int .u64 (dg dg1 s.data.toList)) ∧ w = w' := by
  unfold maxLen at hz0
  go_enter Try.func38, Try.ntmps38
  go_wp2
  go_loop [5, 9] (fun h i => ∃ k : Nat, k ≤ s.size ∧ i = .int .i64 k ∧ h = .int .u64 (dg dg1 (s.data.toList.take k))) (fun _ i => s.size - (intOf i).toNat)
  case atStart => exact ⟨0, Nat.zero_le _, rfl, rfl⟩
  case round =>
    obtain ⟨k, hk, rfl, rfl⟩ := hrel
    by_cases hlt : k < s.size
    · have hsn := dg_snoc dg1 (s.data.toList.take k) s[k]
      rw [← dtake_snoc s k hlt] at hsn
      have HS := Lib.hid hsn
      clear hsn
      go_wp2_with (go_at_call 39; refine (step1_any _ _ _).mono ?_; rintro e w' ⟨rfl, rfl⟩)
      go_round
      case rel => exact ⟨k + 1, by omega, by go_num, by rw [HS.out]⟩
      case measure => simp [intOf]; omega
    · go_wp2
      go_ret
      exact ⟨ret_int (by rw [List.take_of_length_le (by simp; omega)]), rfl⟩

set_option maxHeartbeats 400000 in
theorem hash2_any (s : ByteArray) (w : World) (hz0 : s.size ≤ maxLen) :
    Calls Try.prog 38 #[.string s, .func (.func 40) #[] #[]] w fun e w' => e = .returned (.int .u64 (dg dg2 s.data.toList)) ∧ w = w' := by
  unfold maxLen at hz0
  go_enter Try.func38, Try.ntmps38
  go_wp2
  go_loop [5, 9] (fun h i => ∃ k : Nat, k ≤ s.size ∧ i = .int .i64 k ∧ h = .int .u64 (dg dg2 (s.data.toList.take k))) (fun _ i => s.size - (intOf i).toNat)
  case atStart => exact ⟨0, Nat.zero_le _, rfl, rfl⟩
  case round =>
    obtain ⟨k, hk, rfl, rfl⟩ := hrel
    by_cases hlt : k < s.size
    · have hsn := dg_snoc dg2 (s.data.toList.take k) s[k]
      rw [← dtake_snoc s k hlt] at hsn
      have HS := Lib.hid hsn
      clear hsn
      go_wp2_with (go_at_call 40; refine (step2_any _ _ _).mono ?_; rintro e w' ⟨rfl, rfl⟩)
      go_round
      case rel => exact ⟨k + 1, by omega, by go_num, by rw [HS.out]⟩
      case measure => simp [intOf]; omega
    · go_wp2
      go_ret
      exact ⟨ret_int (by rw [List.take_of_length_le (by simp; omega)]), rfl⟩

/-- Two digests are compared number by number. -/
theorem eq_arr (a b c d : Int) (w : World) : (Op.equalIn 10000 25 (.agg #[.int .u64 a, .int .u64 b]) (.agg #[.int .u64 c, .int .u64 d])).run Try.prog w = .ok (a == c && b == d) w := by
  have hi := fun (n : Nat) (x y : Int) (w : World) => run_equalIn_int (P := Try.prog) w n 23 .u64 .u64 x y Try.underlying23
  show (Op.equalIn (9998 + 1 + 1) 25 _ _).run Try.prog w = _
  generalize 9998 = n
  unfold Op.equalIn
  simp [go_sem, run_underlying Try.underlying25, Try.sizeOf23]
  rw [show List.range' 0 2 = [0, 1] from rfl]
  simp only [List.forIn_cons, List.forIn_nil]
  cases h1 : (a == c) <;> cases h2 : (b == d) <;> simp [go_sem, Try.isAgg23, hi, h1, h2]
attribute [local go_sem] eq_arr

def of0 (l : List UInt8) : Int := dg dg1 l
def of1 (l : List UInt8) : Int := if dg dg1 l = 0 ∧ dg dg2 l = 0 then 1 else dg dg2 l

set_option maxHeartbeats 400000 in
theorem of_any (s : ByteArray) (w : World) (hz0 : s.size ≤ maxLen) :
    Calls Try.prog 24 #[.string s] w fun e w' => e = .returned (.agg #[.int .u64 (of0 s.data.toList), .int .u64 (of1 s.data.toList)]) ∧ Below w.heap.size w w' := by
  by_cases hz : dg dg1 s.data.toList = 0 ∧ dg dg2 s.data.toList = 0
  · have e0 : of0 s.data.toList = dg dg1 s.data.toList := rfl
    have e1 : of1 s.data.toList = 1 := by unfold of1; rw [if_pos hz]
    have ht : (dg dg1 s.data.toList == 0 && dg dg2 s.data.toList == 0) = true := by simp [hz.1, hz.2]
    rw [e0, e1]
    clear e0 e1 hz
    go_enter Try.func24, Try.ntmps24
    go_wp2_with fail
    refine (hash1_any _ _ hz0).mono ?_
    rintro e w' ⟨rfl, rfl⟩
    go_wp2_with fail
    refine (hash2_any _ _ hz0).mono ?_
    rintro e w' ⟨rfl, rfl⟩
    go_wp2
    exact bodyPost_ret (v := .agg #[.int .u64 (dg dg1 s.data.toList), .int .u64 1]) (by simp [results, Try.results24, go_sem]) rfl ⟨rfl, ((Below.refl _ _).alloc (Nat.le_refl _) _).alloc (by simp) _⟩
  · have e0 : of0 s.data.toList = dg dg1 s.data.toList := rfl
    have e1 : of1 s.data.toList = dg dg2 s.data.toList := by unfold of1; rw [if_neg hz]
    have ht : (dg dg1 s.data.toList == 0 && dg dg2 s.data.toList == 0) = false := by simpa using hz
    rw [e0, e1]
    clear e0 e1 hz
    go_enter Try.func24, Try.ntmps24
    go_wp2_with fail
    refine (hash1_any _ _ hz0).mono ?_
    rintro e w' ⟨rfl, rfl⟩
    go_wp2_with fail
    refine (hash2_any _ _ hz0).mono ?_
    rintro e w' ⟨rfl, rfl⟩
    go_wp2
    exact bodyPost_ret (v := .agg #[.int .u64 (dg dg1 s.data.toList), .int .u64 (dg dg2 s.data.toList)]) (by simp [results, Try.results24, go_sem]) rfl ⟨rfl, ((Below.refl _ _).alloc (Nat.le_refl _) _).alloc (by simp) _⟩

set_option maxHeartbeats 400000 in
theorem refOf_any (s : ByteArray) (w : World) (hz0 : s.size ≤ maxLen) :
    Calls Try.prog 30 #[.string s] w fun e w' => e = .returned (.agg #[.int .u64 (of0 s.data.toList), .int .u64 (of1 s.data.toList)]) ∧ Below w.heap.size w w' := by
  unfold maxLen at hz0
  go_enter Try.func30, Try.ntmps30
  go_wp2
  go_loop [3, 4, 5] (fun a b i => ∃ k : Nat, k ≤ s.size ∧ i = .int .i64 k ∧ a = .int .u64 (dg dg1 (s.data.toList.take k)) ∧ b = .int .u64 (dg dg2 (s.data.toList.take k))) (fun _ _ i => s.size - (intOf i).toNat)
  case atStart => exact ⟨0, Nat.zero_le _, rfl, rfl, rfl⟩
  case round =>
    obtain ⟨k, hk, rfl, rfl, rfl⟩ := hrel
    by_cases hlt : k < s.size
    · have h1 := dg_snoc dg1 (s.data.toList.take k) s[k]
      have h2 := dg_snoc dg2 (s.data.toList.take k) s[k]
      rw [← dtake_snoc s k hlt] at h1 h2
      have H1 := Lib.hid h1
      have H2 := Lib.hid h2
      clear h1 h2
      go_wp2
      go_round
      case rel => exact ⟨k + 1, by omega, by go_num, by rw [H1.out]; rfl, by rw [H2.out]; rfl⟩
      case measure => simp [intOf]; omega
    · have hks : s.data.toList.take k = s.data.toList := List.take_of_length_le (by simp; omega)
      rw [hks]
      clear hks
      by_cases hz : dg dg1 s.data.toList = 0 ∧ dg dg2 s.data.toList = 0
      · have e1 : of1 s.data.toList = 1 := by unfold of1; rw [if_pos hz]
        have t1 : (dg dg1 s.data.toList == 0) = true := by simp [hz.1]
        have t2 : (dg dg2 s.data.toList == 0) = true := by simp [hz.2]
        have E1 := Lib.hid e1
        clear e1 hz
        go_wp2
        exact bodyPost_ret (v := .agg #[.int .u64 (dg dg1 s.data.toList), .int .u64 1]) (by simp [results, Try.results30, go_sem]) rfl ⟨by rw [E1.out]; rfl, (Below.refl _ _).alloc (Nat.le_refl _) _⟩
      · have e1 : of1 s.data.toList = dg dg2 s.data.toList := by unfold of1; rw [if_neg hz]
        have E1 := Lib.hid e1
        clear e1
        cases t1 : (dg dg1 s.data.toList == 0)
        · clear hz
          go_wp2
          exact bodyPost_ret (v := .agg #[.int .u64 (dg dg1 s.data.toList), .int .u64 (dg dg2 s.data.toList)]) (by simp [results, Try.results30, go_sem]) rfl ⟨by rw [E1.out]; rfl, (Below.refl _ _).alloc (Nat.le_refl _) _⟩
        · have t2 : (dg dg2 s.data.toList == 0) = false := by
            have : dg dg1 s.data.toList = 0 := by simpa using t1
            simpa [this] using hz
          clear hz
          go_wp2
          exact bodyPost_ret (v := .agg #[.int .u64 (dg dg1 s.data.toList), .int .u64 (dg dg2 s.data.toList)]) (by simp [results, Try.results30, go_sem]) rfl ⟨by rw [E1.out]; rfl, (Below.refl _ _).alloc (Nat.le_refl _) _⟩

end Go.Proofs.Ytiaahjoldahlnaa.Dg
