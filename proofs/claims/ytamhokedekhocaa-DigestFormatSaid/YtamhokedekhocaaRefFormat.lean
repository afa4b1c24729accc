/- The reference's Format, at this translation. -/
import Derived.Test.YtamhokedekhocaaRefParse
import Derived.BigQuiet
namespace Go.Proofs.Ytamhokedekhocaa
open Go.RowKit
attribute [local go_sem] eq_arr

def hexOf (l : List UInt8) : List UInt8 := l.flatMap fun c => [hx (c.toNat / 16), hx (c.toNat % 16)]
theorem hexOf_snoc (l : List UInt8) (c : UInt8) : hexOf (l ++ [c]) = hexOf l ++ [hx (c.toNat / 16)] ++ [hx (c.toNat % 16)] := by simp [hexOf]
theorem hexOf_append (l m : List UInt8) : hexOf (l ++ m) = hexOf l ++ hexOf m := by simp [hexOf]
theorem hexOf_byW (w n : Nat) : hexOf (byW w n) = fmtW (2 * w) n := by
  induction w generalizing n with
  | zero => rfl
  | succ w ih =>
    rw [byW, hexOf_snoc, ih, show 2 * (w + 1) = 2 * w + 1 + 1 from by omega, fmtW, fmtW]
    have e : (UInt8.ofNat (n % 256)).toNat = n % 256 := by rw [UInt8.toNat_ofNat']; omega
    rw [e, Nat.div_div_eq_div_mul, show n % 256 / 16 = n / 16 % 16 from by omega, show n % 256 % 16 = n % 16 from by omega]

def hxS (q : Nat) : ByteArray := ⟨#[hx q]⟩
theorem lit_cut : ∀ q : Fin 16, (ByteArray.mk #[48, 49, 50, 51, 52, 53, 54, 55, 56, 57, 97, 98, 99, 100, 101, 102]).extract q.val (q.val + 1) = hxS q.val := by decide +kernel
theorem cut_lit (q : Nat) (h : q < 16) (w : World) :
    (Instr.slice 9 (.string (ByteArray.mk #[48, 49, 50, 51, 52, 53, 54, 55, 56, 57, 97, 98, 99, 100, 101, 102])) (some (.int .u8 (q : Int))) (some (.int .u8 ((q : Int) + 1))) none).run Try.prog w = .ok (.string (hxS q)) w := by
  have hz : ((ByteArray.mk #[48, 49, 50, 51, 52, 53, 54, 55, 56, 57, 97, 98, 99, 100, 101, 102]).size : Int) = 16 := rfl
  rw [run_slice_string w 9 _ .u8 .u8 (q : Int) ((q : Int) + 1) Try.underlying9 (by omega) (by omega) (by rw [hz]; omega)]
  rw [show ((q : Int)).toNat = q from by omega, show ((q : Int) + 1).toNat = q + 1 from by omega, lit_cut ⟨q, h⟩]
theorem hxS_size (q : Nat) : (hxS q).size = 1 := rfl

set_option maxHeartbeats 1000000 in
theorem refFormat_any (n0 n1 : Nat) (w : World) :
    Calls Try.prog 20 #[.agg #[.int .u64 n0, .int .u64 n1]] w fun e w' => e = .returned (.string (fmtS n0 n1)) ∧ Below w.heap.size w w' := by
  have z0 := byS_size n0 n1
  have zl : 16 ≤ (byS n0 n1).size := by omega
  have zu : (byS n0 n1).size ≤ 16 := by omega
  clear z0
  go_enter Try.func20, Try.ntmps20
  go_wp2_with fail
  refine (byS_ref n0 n1 _).mono ?_
  rintro e w1 ⟨rfl, hb1⟩
  have hB1 := bl (bla (Below.refl _ w) _) hb1
  clear hb1
  go_wp2
  go_loopw [3, 5] (fun o i wr => ∃ (k : Nat) (S : ByteArray), k ≤ (byS n0 n1).size ∧ i = .int .i64 k ∧ o = .string S ∧ S.data.toList = hexOf ((byS n0 n1).data.toList.take k) ∧ S.size ≤ 2 * k ∧ Below w.heap.size w wr) (fun _ i _ => (byS n0 n1).size - (intOf i).toNat)
  case atStart => exact ⟨0, ByteArray.empty, by omega, rfl, rfl, by simp [hexOf], by decide, hB1⟩
  case round =>
    obtain ⟨k, S, hk, rfl, rfl, hS, hsz, hB⟩ := hrel
    have HS := Lib.hid hS
    clear hS
    by_cases hlt : k < (byS n0 n1).size
    · generalize hbs : byS n0 n1 = bs at *
      have HBS := Lib.hid hbs
      clear hbs
      have c1 : bs[k].toNat < 256 := bs[k].toNat_lt
      obtain ⟨q, hq⟩ : ∃ q : Nat, bs[k].toNat / 16 = q := ⟨_, rfl⟩
      obtain ⟨r, hr⟩ : ∃ r : Nat, bs[k].toNat % 16 = r := ⟨_, rfl⟩
      have hq2 : q < 16 := by omega
      have hr2 : r < 16 := by omega
      have eq1 : (bs[k].toNat : Int) / 16 = (q : Int) := by omega
      have er1 : (bs[k].toNat : Int) % 16 = (r : Int) := by omega
      have er2 : (bs[k].toNat : Int).tmod 16 = (r : Int) := by rw [Int.tmod_eq_emod_of_nonneg (by omega)]; omega
      have HQ := Lib.hid hq
      have HR := Lib.hid hr
      clear hq hr
      have wq : IntKind.u8.wrap (q : Int) = (q : Int) := by rw [IntKind.wrap_u8]; omega
      have wq1 : IntKind.u8.wrap ((q : Int) + 1) = (q : Int) + 1 := by rw [IntKind.wrap_u8]; omega
      have wr' : IntKind.u8.wrap (r : Int) = (r : Int) := by rw [IntKind.wrap_u8]; omega
      have wr1 : IntKind.u8.wrap ((r : Int) + 1) = (r : Int) + 1 := by rw [IntKind.wrap_u8]; omega
      have cq := fun w => cut_lit q hq2 w
      have cr := fun w => cut_lit r hr2 w
      have zq := hxS_size q
      have zr := hxS_size r
      go_wp2
      go_quiet (fail)
      go_wp2
      go_roundw
      case rel =>
        refine ⟨k + 1, S ++ hxS q ++ hxS r, by omega, by go_num, rfl, ?_, ?_, blN hB _⟩
        · rw [at_k bs k hlt, hexOf_snoc, ← HS.out, HQ.out, HR.out]
          simp [hxS]
        · rw [ByteArray.size_append, ByteArray.size_append, hxS_size, hxS_size]; omega
      case measure => simp [intOf]; omega
    · have hfin : S = fmtS n0 n1 := by
        have e := HS.out
        rw [List.take_of_length_le (by simp; omega)] at e
        have e2 : (byS n0 n1).data.toList = byW 8 n0 ++ byW 8 n1 := rfl
        rw [e2, hexOf_append, hexOf_byW, hexOf_byW] at e
        unfold fmtS
        rw [← e]
      have HF := Lib.hid hfin
      clear hfin
      go_wp2
      go_ret
      exact ⟨congrArg (fun x => Ending.returned (Value.string x)) HF.out, hB⟩
end Go.Proofs.Ytamhokedekhocaa
