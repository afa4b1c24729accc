/- sprt's product of a long number by a small one, at this translation. -/
import Derived.Test.YtldpdoakfacdbaaChecked
import Derived.Test.YtldpdoakfacdbaaMath
import Derived.WalkKit
import Derived.LoopTactic
import Derived.RangeFuncBox
import Derived.OneCell
import Derived.Maps.AppendAt
import Derived.Lib.Hide
import Derived.KernelRfl
namespace Go.Proofs.Ytldpdoakfacdbaa
open Go.RowKit

def ints (L : List Nat) : List Value := L.map fun n : Nat => .int .i64 (n : Int)
theorem ints_snoc (L : List Nat) (n : Nat) : ints (L ++ [n]) = ints L ++ [.int .i64 (n : Int)] := by simp [ints]
theorem ints_length (L : List Nat) : (ints L).length = L.length := by simp [ints]

theorem info3 : (Try.prog.info? 3).map (fun i => (i.zero, i.size, i.bytes)) = some (some (.int .i64 0), 1, 8) := by kernel_rfl

theorem boxed_other {W : World} {B : Nat} {t : TypeId} {v : Value} (h : Boxed W B t v) {b : Nat} (hne : B ≠ b) (u : Value) : Boxed (W.setCell ⟨b, 0, none⟩ u) B t v :=
  (Below.heap_setCell W ⟨b, 0, none⟩ u B hne).trans h
theorem boxed_below {W W' : World} {n B : Nat} {t : TypeId} {v : Value} (h : Boxed W B t v) (hB : Below n W W') (hn : B < n) : Boxed W' B t v := (hB.block B hn).trans h

/-- Behind 'y = append(y, d)', where y's box lies below the rows that the call may own: the box holds the longer row, other boxes and all below are as they were. -/
theorem box_appended {W w1 : World} {base yb : Nat} {t e : TypeId} {k m : Nat} {v v' : Value} {xs ys : List Value} {tmp : Obj} (hy : Boxed W yb t v) (ho : W.ownsRow base e 1 v k xs) (hyb : yb < base) (hz : base ≤ W.heap.size)
    (hown' : w1.ownsRow base e 1 v' m ys) (hgrow : (W.alloc tmp).grownBy w1 v.ownBlock) :
    Boxed w1 yb t v ∧ (∀ j, j < base → w1.heap[j]? = W.heap[j]?) ∧ Boxed (w1.setCell ⟨yb, 0, none⟩ v') yb t v' ∧ (w1.setCell ⟨yb, 0, none⟩ v').ownsRow base e 1 v' m ys ∧
      (∀ j, j < base → j ≠ yb → (w1.setCell ⟨yb, 0, none⟩ v').heap[j]? = W.heap[j]?) ∧ Below yb W (w1.setCell ⟨yb, 0, none⟩ v') ∧ base ≤ (w1.setCell ⟨yb, 0, none⟩ v').heap.size := by
  have h1 : ∀ j, j < base → w1.heap[j]? = W.heap[j]? := fun j hj => by
    rw [hgrow.block j (by rw [World.size_alloc]; omega) ?_]
    · exact Below.heap_alloc W tmp j (by omega)
    · intro e
      have := (ho.lt j e.symm).1
      omega
  have h2 : Boxed w1 yb t v := (h1 yb hyb).trans hy
  refine ⟨h2, h1, h2.set v', ownsRow_setCell_below hown' hyb v', fun j hj hne => (Below.heap_setCell w1 _ v' j hne).trans (h1 j hj), ?_, ?_⟩
  · refine (((Below.refl yb W).alloc (by omega) tmp).grown hgrow (by simp; omega) fun j ej => ?_).setCell (p := ⟨yb, 0, none⟩) (Nat.le_refl _) v'
    have := (ho.lt j ej).1
    omega
  · have h3 := ((((Below.refl yb W).alloc (by omega) tmp).grown hgrow (by simp; omega) fun j ej => by have := (ho.lt j ej).1; omega).setCell (p := ⟨yb, 0, none⟩) (Nat.le_refl _) v').size
    omega

/-- What 'put' leaves: the digits are one more, the carry is the rest. -/
def Put (yb cb base k : Nat) (xs : List Value) (d : Nat) (w : World) (w' : World) : Prop :=
  ∃ v', Boxed w' yb 55 v' ∧ Boxed w' cb 3 (.int .i64 (d / 1000000000 : Nat)) ∧ w'.ownsRow base 3 1 v' (k + 1) (xs ++ [.int .i64 (d % 1000000000 : Nat)]) ∧ Below yb w w' ∧ base ≤ w'.heap.size

set_option maxHeartbeats 400000 in
theorem put_any (z : Int) (yb cb base k d c : Nat) (hzd : z = d) (v : Value) (xs : List Value) (w : World) (hy : Boxed w yb 55 v) (hc : Boxed w cb 3 (.int .i64 c)) (ho : w.ownsRow base 3 1 v k xs)
    (h1 : yb < cb) (h2 : cb < base) (hz : base ≤ w.heap.size) (hk : k ≤ 100000) (hd : d ≤ 1000000000000) :
    Calls Try.prog 37 #[.int .i64 z, .pointer (some ⟨yb, 0, none⟩), .pointer (some ⟨cb, 0, none⟩)] w fun e w' => e = .returned (.tuple #[]) ∧ Put yb cb base k xs d w w' := by
  subst hzd
  obtain ⟨i0, hi, hz0, hz1, hz2⟩ := info_parts info3
  have hy1 := hy.cell
  have hy2 := hy.frozen
  go_enter Try.func37, Try.ntmps37
  go_wp2_with (at_builtin; refine wpList_append_own _ rfl _ _ 55 rfl base 3 i0 (.int .i64 0) 1 8 Try.underlying55 hi hz0 hz1 hz2 rfl (by decide) _ _ _ rfl (ho.alloc _) ⟨w.heap.size, 0, none⟩ 1 1 [.int .i64 ((d : Int) % 1000000000)] rfl rfl (cell_one_new _ _ _) (by intro u hu; simp at hu; subst hu; rfl) (by unfold maxLen; omega) (by omega) (by simp; omega) ?_; intro v' w1 hown' hgrow _; obtain ⟨g', cap', rfl⟩ := ownsRow_succ hown'; have A := Lib.hid (box_appended (t := 55) hy ho (by omega) hz hown' hgrow); have q1 := A.out.1.cell; have q2 := A.out.1.frozen; have q3 : Boxed _ cb 3 _ := (A.out.2.2.2.2.1 cb h2 (by omega)).trans hc; have q4 := q3.cell; have q5 := q3.frozen)
  go_end0
  obtain ⟨a1, a2, a3, a4, a5, a6, a7⟩ := A.out
  refine ⟨rfl, _, boxed_other a3 (by omega) _, q3.set _, ownsRow_setCell_below a4 h2 _, a6.setCell (p := ⟨cb, 0, none⟩) (show yb ≤ cb by omega) _, ?_⟩
  exact Nat.le_trans a7 (KeepsWalks.setCell _ _ _).size

/-- A slice whose cells are these numbers. -/
def IsLong (w : World) (v : Value) (L : List Nat) : Prop :=
  ∃ b cap, v = .slice (some ⟨b, 0, none⟩) L.length cap ∧ b < w.heap.size ∧ L.length ≤ cap ∧ ∀ j (h : j < L.length), w.cell? ⟨b, j, none⟩ = some (.int .i64 (L[j] : Nat))
theorem IsLong.below {w w' : World} {v : Value} {L : List Nat} {B : Nat} (h : IsLong w v L) (hB : Below B w w') (hz : w.heap.size ≤ B) : IsLong w' v L := by
  obtain ⟨b, cap, e, hb, hc, hj⟩ := h
  exact ⟨b, cap, e, Nat.lt_of_lt_of_le hb hB.size, hc, fun j h => (hB.cell (p := ⟨b, j, none⟩) (show b < B by omega)).trans (hj j h)⟩
theorem isLong_own {w : World} {v : Value} {L : List Nat} {base : Nat} (h : w.ownsRow base 3 1 v L.length (ints L)) (hL : L ≠ []) : IsLong w v L := by
  have hl : 0 < L.length := List.length_pos_iff.2 hL
  rcases h.2 with ⟨_, h0⟩ | ⟨g, cap, cur, rfl, hg, hh, r⟩
  · omega
  · refine ⟨g, cap, rfl, (h.lt g rfl).2, ?_, fun j hj => ?_⟩
    · exact r.1
    · have := h.cells (g := g) rfl j (.int .i64 (L[j] : Nat)) (by simp [ints, hj])
      rcases Nat.eq_zero_or_pos j with rfl | h0
      · simpa [Addr.add] using this
      · simpa [Addr.add, show j ≠ 0 by omega] using this

/-- What the variables of 'times' hold when k digits are made. -/
structure Tim (w wr : World) (P : List Nat) (c : Nat) (v : Value) : Prop where
  hy : Boxed wr w.heap.size 55 v
  hc : Boxed wr (w.heap.size + 1) 3 (.int .i64 c)
  ho : wr.ownsRow (w.heap.size + 2) 3 1 v P.length (ints P)
  hb : Below w.heap.size w wr
  hz : w.heap.size + 2 ≤ wr.heap.size

abbrev B9 : Nat := 1000000000

theorem mul_bound (d n : Nat) (h : d < 1000000000) (hn : n ≤ 400) : d * n ≤ 400000000000 := by
  have := Nat.mul_le_mul (Nat.le_of_lt h) hn
  omega

set_option maxHeartbeats 1000000 in
theorem times_any (m n : Nat) (v : Value) (w : World) (hm : 1 ≤ m) (hn : 1 ≤ n) (hn' : n ≤ 400) (hl : (digs B9 m).length ≤ 1000) (hv : IsLong w v (digs B9 m)) :
    Calls Try.prog 31 #[v, .int .i64 n] w fun e w' => ∃ v', e = .returned v' ∧ IsLong w' v' (digs B9 (m * n)) ∧ Below w.heap.size w w' := by
  have hM := mulC_digs B9 n m 0 (by decide) hn (show n < 1000000000 by omega) hn
  have hD := digs_lt B9 m (by decide)
  have hE : digs B9 (m * n) ≠ [] := by
    rw [digs_pos B9 _ (by decide) (Nat.mul_pos hm hn)]; simp
  rw [Nat.add_zero] at hM
  generalize digs B9 (m * n) = E at hM hE ⊢
  generalize digs B9 m = L at hM hD hl hv
  obtain ⟨b, cap, rfl, hb, hcap, hc⟩ := hv
  have HM := Lib.hid hM
  have HD := Lib.hid hD
  have HE := Lib.hid hE
  have HC := Lib.hid hc
  clear hM hD hE hc
  go_enter Try.func31, Try.ntmps31
  go_wp2
  go_loopw [13] (fun i wr => ∃ (c : Nat) (P : List Nat) (v' : Value), P.length ≤ L.length ∧ i = .int .i64 P.length ∧ c < n ∧ Hid (P ++ mulC B9 n (L.drop P.length) c = E) ∧ Tim w wr P c v') (fun i _ => L.length - (intOf i).toNat)
  case atStart =>
    refine ⟨0, [], .slice none 0 0, by simp, rfl, by omega, by simpa [Hid] using HM.out, ?_⟩
    exact ⟨(Boxed.new w _ _).alloc _, by simpa using Boxed.new (w.alloc _) 3 (.int .i64 0), World.ownsRow_nil _ _ _ _, ((Below.refl _ _).alloc (Nat.le_refl _) _).alloc (by simp) _, by simp⟩
  case round =>
    obtain ⟨c, P, v', hP, rfl, hcn, hQ, T⟩ := hrel
    by_cases hlt : P.length < L.length
    · have hdb : L[P.length] < 1000000000 := HD.out _ (List.getElem_mem hlt)
      have hcell : wr.cell? ⟨b, P.length, none⟩ = some (.int .i64 (L[P.length] : Nat)) := (T.hb.cell (p := ⟨b, P.length, none⟩) hb).trans (HC.out _ hlt)
      have hQ' : P ++ mulC B9 n (L.drop P.length) c = E := hQ
      rw [List.drop_eq_getElem_cons hlt, mulC] at hQ'
      have hQ2 := Lib.hid hQ'
      clear hQ' hQ
      generalize L[P.length] = d at hdb hcell hQ2
      have hp1 := mul_bound d n hdb hn'
      have hc2 := T.hc.cell
      obtain ⟨q, hq⟩ : ∃ q : Nat, q = d * n := ⟨_, rfl⟩
      have hq2 : (d : Int) * (n : Int) = (q : Int) := by rw [hq]; simp
      rw [← hq] at hp1
      rw [← hq] at hQ2
      have HQ := Lib.hid hq
      clear hq
      go_wp2_with fail
      ((with_reducible refine (put_any _ w.heap.size (w.heap.size + 1) (w.heap.size + 2) P.length (q + c) c (by omega) v' (ints P) wr T.hy T.hc T.ho (by omega) (by omega) T.hz (by omega) (by omega)).mono ?_); rintro e w2 ⟨rfl, v2, b1, b2, b3, b4, b5⟩)
      go_wp2
      go_roundw
      case rel =>
        refine ⟨(q + c) / 1000000000, P ++ [(q + c) % 1000000000], v2, by simp; omega, by simp, ?_, ?_, ⟨b1, b2, ?_, T.hb.trans b4, b5⟩⟩
        · have := HQ.out
          have : d * n ≤ (1000000000 - 1) * n := Nat.mul_le_mul_right _ (by omega)
          rw [Nat.sub_mul] at this
          omega
        · have := hQ2.out
          show _ = E
          rw [List.length_append, List.length_singleton, List.append_assoc]
          exact this
        · rw [ints_snoc]; simpa using b3
      case measure => simp [intOf]; omega
    · have hPL : P.length = L.length := by omega
      have hQ' : P ++ mulC B9 n (L.drop P.length) c = E := hQ
      rw [List.drop_eq_nil_of_le (by omega), mulC] at hQ'
      have hQ2 := Lib.hid hQ'
      have hPL2 : P.length ≤ 1000 := by omega
      clear hQ' hQ hPL
      go_wp2
      go_loopw [25] (fun _ wr => ∃ (c : Nat) (P : List Nat) (v' : Value), P.length ≤ 1000 + (if c = 0 then 1 else 0) ∧ c < n ∧ Hid (P ++ (if c = 0 then [] else [c]) = E) ∧ Tim w wr P c v') (fun _ wr => (intOf ((wr.cell? ⟨w.heap.size + 1, 0, none⟩).getD undef)).toNat)
      case atStart => exact ⟨c, P, v', by omega, hcn, hQ2, T⟩
      case round =>
        clear hQ2 T hPL2 hlt hP
        obtain ⟨c, R, v', hR, hcn, hQ2, T⟩ := hrel
        have hc2 := T.hc.cell
        by_cases hc0 : c = 0
        · subst hc0
          have hy2 := T.hy.cell
          go_wp2
          go_ret
          have hQ3 : R ++ [] = E := hQ2.out
          rw [List.append_nil] at hQ3
          subst hQ3
          exact ⟨_, rfl, isLong_own T.ho HE.out, T.hb⟩
        · have hpos : (0 : Int) < (c : Int) := by omega
          go_wp2_with fail
          ((with_reducible refine (put_any _ w.heap.size (w.heap.size + 1) (w.heap.size + 2) R.length c c rfl v' (ints R) _ T.hy T.hc T.ho (by omega) (by omega) T.hz (by rw [if_neg hc0] at hR; omega) (by omega)).mono ?_); rintro e w2 ⟨rfl, v2, b1, b2, b3, b4, b5⟩)
          have e1 : c / 1000000000 = 0 := by omega
          have e2 : c % 1000000000 = c := by omega
          rw [e1] at b2
          rw [e2] at b3
          have hc3 := b2.cell
          go_wp2
          go_roundw
          case rel =>
            refine ⟨0, R ++ [c], v2, ?_, by omega, ?_, ⟨b1, b2, ?_, T.hb.trans b4, b5⟩⟩
            · rw [if_neg hc0] at hR; simp; omega
            · have := hQ2.out
              rw [if_neg hc0] at this
              show _ ++ [] = E
              rw [List.append_nil]
              exact this
            · rw [ints_snoc]; simpa using b3
          case measure => simp [intOf, hc3, hc2]; omega
end Go.Proofs.Ytldpdoakfacdbaa
