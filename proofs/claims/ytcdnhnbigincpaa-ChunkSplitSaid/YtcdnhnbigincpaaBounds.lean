/- chunk.ends, Check, checkAll and Bounds, at this translation. -/
import Derived.Test.YtcdnhnbigincpaaEnds
namespace Go.Proofs.Ytcdnhnbigincpaa
open Go.RowKit Go.Shelf
attribute [local go_sem] Oper.semAt_some

set_option maxHeartbeats 2000000 in
theorem ends_in (n : Nat) (s : ByteArray) (p : Pm) (hp : p.Ok) (w : World) :
    CallsIn Fence.wide n Try.prog 27 #[.string s, pv p.least p.most p.window p.bits] w fun e w' =>
      e = .returned (.func (.func 34) #[] #[.pointer (some ⟨w.heap.size, 0, none⟩), .pointer (some ⟨w.heap.size + 1, 0, none⟩), .pointer (some ⟨w.heap.size + 2, 0, none⟩)]) ∧
      Boxed w' w.heap.size 9 (.string s) ∧ PBox w' (w.heap.size + 1) p.least p.most p.window p.bits ∧ Boxed w' (w.heap.size + 2) 63 (.int .u32 (Fc ^ p.window % Md)) ∧ Below w.heap.size w w' ∧ w'.heap.size = w.heap.size + 3 := by
  have pw := hp.w1
  have pm := hp.m
  have pl := hp.lw
  have pml := hp.ml
  refine callsIn_of_wp Try.func27 rfl trivial ?_ rfl
  simp only [Try.ntmps27, List.size_toArray, List.length_cons, List.length_nil, Nat.reduceAdd, Nat.reduceSub, Array.replicate_succ, Array.replicate_zero, List.push_toArray, List.append_toArray, List.nil_append, List.cons_append]
  have b0 := ((Boxed.new w 9 (.string s)).alloc (.cells #[.int .i64 p.least, .int .i64 p.most, .int .i64 p.window, .int .i64 p.bits] 23)).alloc (.cells #[.int .u32 1] 63)
  have b1 := PBox.new (w.alloc (.cells #[.string s] 9)) p.least p.most p.window p.bits
  have b2 := Boxed.new ((w.alloc (.cells #[.string s] 9)).alloc (.cells #[.int .i64 p.least, .int .i64 p.most, .int .i64 p.window, .int .i64 p.bits] 23)) 63 (.int .u32 1)
  have hB := (((Below.refl w.heap.size w).alloc (Nat.le_refl _) (.cells #[.string s] 9)).alloc (by simp) (.cells #[.int .i64 p.least, .int .i64 p.most, .int .i64 p.window, .int .i64 p.bits] 23)).alloc (by simp; omega) (.cells #[.int .u32 1] 63)
  rw [World.size_alloc] at b1
  rw [World.size_alloc, World.size_alloc] at b2
  have b1' : PBox (((w.alloc (.cells #[.string s] 9)).alloc (.cells #[.int .i64 p.least, .int .i64 p.most, .int .i64 p.window, .int .i64 p.bits] 23)).alloc (.cells #[.int .u32 1] 63)) (w.heap.size + 1) p.least p.most p.window p.bits :=
    (Below.heap_alloc _ _ _ (by simp)).trans b1
  have hz : (((w.alloc (.cells #[.string s] 9)).alloc (.cells #[.int .i64 p.least, .int .i64 p.most, .int .i64 p.window, .int .i64 p.bits] 23)).alloc (.cells #[.int .u32 1] 63)).heap.size = w.heap.size + 3 := by simp
  have p2 := b1'.c2
  gi_wp2
  clear b1 p2
  gi_loopw [8] (fun s8 wr => ∃ (j : Nat), j ≤ p.window ∧ s8 = .int .i64 j ∧ Boxed wr w.heap.size 9 (.string s) ∧ PBox wr (w.heap.size + 1) p.least p.most p.window p.bits ∧ (∃ v, v = Fc ^ j % Md ∧ Boxed wr (w.heap.size + 2) 63 (.int .u32 v)) ∧ Below w.heap.size w wr ∧ wr.heap.size = w.heap.size + 3)
    (fun i _ => p.window - (intOf i).toNat)
  case atStart => exact ⟨0, Nat.zero_le _, rfl, b0, b1', ⟨1, by decide, b2⟩, hB, hz⟩
  case round =>
    obtain ⟨j, hj, rfl, q0, q1, ⟨v, hv, q2⟩, hBr, hzr⟩ := hrel
    have c2 := q2.cell
    have f2 := q2.frozen
    have HV := Lib.hid hv
    clear hv
    by_cases hlt : j < p.window
    · gi_wp2
      go_roundw
      case rel =>
        refine ⟨j + 1, by omega, by go_num, ?_, ?_, ⟨v * 16777619 % 4294967296, ?_, ?_⟩, hBr.setCell (p := ⟨w.heap.size + 2, 0, none⟩) (by simp) _, by simpa [World.setCell] using hzr⟩
        · exact (Below.heap_setCell wr _ _ _ (by simp; omega)).trans q0
        · exact (Below.heap_setCell wr _ _ _ (by simp)).trans q1
        · rw [HV.out, Int.pow_succ]
          simp only [Fc, Md]
          generalize (16777619 : Int) ^ j = y
          omega
        · exact q2.set _
      case measure => simp [intOf]; omega
    · obtain rfl : j = p.window := by omega
      gi_wp2
      go_ret
      exact ⟨rfl, q0, q1, by rw [← HV.out]; exact q2, hBr, hzr⟩

/-- What Check answers. -/
def chkP (a b c d : Int) : Int := if c < 1 ∨ a < c ∨ b < a ∨ 65536 < b ∨ d < 0 ∨ 16 < d then 2 else 0

set_option maxHeartbeats 2000000 in
theorem check_in (n : Nat) (a b c d : Int) (r : Int) (hr : chkP a b c d = r) (w : World) :
    CallsIn Fence.wide n Try.prog 16 #[pv a b c d] w fun e w' => e = .returned (.int .i64 r) ∧ Below w.heap.size w w' := by
  have hB := (Below.refl w.heap.size w).alloc (Nat.le_refl _) (.cells #[.int .i64 a, .int .i64 b, .int .i64 c, .int .i64 d] 23)
  have x := PBox.new w a b c d
  have c0 := x.c0
  have c1 := x.c1
  have c2 := x.c2
  have c3 := x.c3
  clear x
  have HR := Lib.hid hr
  clear hr
  refine callsIn_of_wp Try.func16 rfl trivial ?_ rfl
  simp only [Try.ntmps16, List.size_toArray, List.length_cons, List.length_nil, Nat.reduceAdd, Nat.reduceSub, Array.replicate_succ, Array.replicate_zero, List.push_toArray, List.append_toArray, List.nil_append, List.cons_append]
  by_cases h : c < 1 ∨ a < c ∨ b < a ∨ 65536 < b ∨ d < 0 ∨ 16 < d
  · have e := HR.out
    rw [chkP, if_pos h] at e
    subst e
    gi_wp2
    all_goals first
      | (go_ret; exact ⟨rfl, hB⟩)
      | (exfalso; omega)
  · have e := HR.out
    rw [chkP, if_neg h] at e
    subst e
    gi_wp2
    all_goals first
      | (exfalso; omega)
      | (go_ret; exact ⟨rfl, hB⟩)
end Go.Proofs.Ytcdnhnbigincpaa
