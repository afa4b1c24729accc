/- The bytes of a number, as codec's iterator yields them, at this translation. -/
import Derived.Test.YtiaahjoldahlnaaCdRange
import Derived.Test.YtiaahjoldahlnaaCdMath
import Derived.Test.YtiaahjoldahlnaaChecked
import Derived.Lib.Hide
import Derived.KernelRfl
import Derived.Maps.AppendAt
import Derived.OneCell
namespace Go.Proofs.Ytiaahjoldahlnaa.Cd
open Go.RowKit Go.Shelf
attribute [local go_sem] Oper.semAt_some

/-- What a round is handed: a byte. -/
abbrev encB : Nat → Array Value := fun d => #[Value.int .u8 (d : Int)]
/-- What a round keeps: the iterator's box. -/
def KpB (Bx : Nat) (A B : World) : Prop := B.heap[Bx]? = A.heap[Bx]?
/-- What the iterator does: it writes its box. -/
def RelB (Bx : Nat) (A B : World) : Prop := ∃ v, B = A.setCell ⟨Bx, 0, none⟩ v

set_option maxRecDepth 100000 in
set_option maxHeartbeats 2000000 in
theorem digits1_in (F : Fence) (n : Nat) (hF : F.fn 86) (hro : F.round = none) (hn : 1 ≤ n) (Bx m N : Nat) (hm : m ≤ 1099511627776) (hN : (enc7 m).length ≤ N) (w : World) (hb : Boxed w Bx 3 (.int .i64 m)) :
    SeqR F n Try.prog 86 #[.pointer (some ⟨Bx, 0, none⟩)] encB (KpB Bx) (RelB Bx) (fun xs => xs = enc7 m) (fun _ => True) N w := by
  intro l J Jx W hW hJ hJx hY h0
  have hbW : Boxed W Bx 3 (.int .i64 m) := (hW.block Bx hb.lt).trans hb
  refine callsIn_of_wp Try.func86 rfl hF ?_ hro
  simp only [Try.ntmps86, List.size_toArray, List.length_cons, List.length_nil, Nat.reduceAdd, Nat.reduceSub, Array.replicate_succ, Array.replicate_zero, List.push_toArray, List.append_toArray, List.nil_append, List.cons_append]
  gi_wp2
  gi_loopw [3] (fun _ wr => ∃ (q : Nat) (pre : List Nat), q ≤ 1099511627776 ∧ Hid (pre ++ enc7 q = enc7 m) ∧ Boxed wr Bx 3 (.int .i64 q) ∧ J pre wr)
    (fun _ wr => (intOf ((wr.cell? ⟨Bx, 0, none⟩).getD undef)).toNat)
  case atStart => exact ⟨m, [], hm, rfl, hbW, h0⟩
  case round =>
    obtain ⟨q, pre, hq, hE, hbx, hJs⟩ := hrel
    have c1 := hbx.cell
    have hEl : pre.length + (enc7 q).length = (enc7 m).length := by
      have := congrArg List.length (show pre ++ enc7 q = enc7 m from hE); simpa using this
    have hpre : pre.length < N := by have := enc7_pos q; omega
    clear hEl
    by_cases hlt : 128 ≤ q
    · obtain ⟨fn, tmps, assign, body, hy, hR⟩ := hY pre (q % 128 + 128) wr hJs hpre
      have e1 : (((q % 128 + 128 : Nat)) : Int) = (q : Int) % 128 + 128 := by omega
      simp only [encB, e1] at hy
      have HE : Hid (pre ++ [q % 128 + 128] ++ enc7 (q / 128) = enc7 m) := by
        have := hE; rw [enc7_big q hlt] at this; simpa using this
      clear hE e1
      gi_wp2
      refine hR.mono ?_
      rintro e W3 (⟨rfl, hJ3, hk3⟩ | ⟨rfl, hJx3⟩)
      · have hb3 : Boxed W3 Bx 3 (.int .i64 q) := hk3.trans hbx
        have c3 := hb3.cell
        have f3 := hb3.frozen
        gi_wp2
        go_roundw
        case rel =>
          refine ⟨q / 128, _, by omega, HE, ?_, hJ _ _ _ hJ3 ⟨_, rfl⟩⟩
          simpa using hb3.set (.int .i64 ((q : Int) / 128))
        case measure =>
          have c4 := (hb3.set (.int .i64 ((q : Int) / 128))).cell
          simp [c1, c4, intOf]; omega
      · gi_wp2
        refine bodyPost_ret (results_none rfl _ _ _) rfl ?_
        exact ⟨⟨_, rfl⟩, .inr ⟨_, trivial, hJx3⟩⟩
    · obtain ⟨fn, tmps, assign, body, hy, hR⟩ := hY pre q wr hJs hpre
      have HE : Hid (pre ++ [q] = enc7 m) := by
        have := hE; rw [enc7_small q (by omega)] at this; exact this
      clear hE
      simp only [encB] at hy
      gi_wp2
      refine hR.mono ?_
      rintro e W3 (⟨rfl, hJ3, hk3⟩ | ⟨rfl, hJx3⟩)
      · gi_wp2
        go_end0
        exact ⟨⟨_, rfl⟩, .inl ⟨_, HE, hJ3⟩⟩
      · gi_wp2
        go_end0
        exact ⟨⟨_, rfl⟩, .inr ⟨_, trivial, hJx3⟩⟩
end Go.Proofs.Ytiaahjoldahlnaa.Cd
