/- disk.Read of a valid disk, at this translation. -/
import Derived.Test.YtgdfdelggihceaaSmall
import Derived.RangeFuncNested
import Derived.RangeFuncBound
import Derived.RangeFuncCalls
import Derived.RangeFuncLeaves
import Derived.Shelf.Abstract
import Derived.Shelf.RegionOpen
import Derived.OwnWalkIn
import Derived.TacticsInMore
import Derived.LoopNIn
import Derived.LoopIn
namespace Go.Proofs.Ytgdfdelggihceaa
open Go.RowKit Go.Shelf
attribute [local go_sem] Oper.semAt_some

/-- The places of a list from its end, as many as k. -/
def down (n : Nat) : Nat → List (Fin n)
  | 0 => []
  | k + 1 => if h : k < n then down n k ++ [⟨n - 1 - k, by omega⟩] else down n k
theorem down_succ (n k : Nat) (h : k < n) : down n (k + 1) = down n k ++ [⟨n - 1 - k, by omega⟩] := by rw [down, dif_pos h]
theorem down_length (n : Nat) : ∀ k, k ≤ n → (down n k).length = k
  | 0, _ => rfl
  | k + 1, h => by rw [down_succ n k h, List.length_append, down_length n k (by omega)]; rfl
theorem mem_down (n : Nat) (j : Fin n) : ∀ k, k ≤ n → n - k ≤ j.val → j ∈ down n k
  | 0, _, h2 => by have := j.isLt; omega
  | k + 1, h, h2 => by
    rw [down_succ n k h]
    rcases Nat.lt_or_ge j.val (n - k) with h3 | h3
    · have : j = ⟨n - 1 - k, by omega⟩ := Fin.ext (by simp; omega)
      rw [this]; simp
    · exact List.mem_append_left _ (mem_down n j k (by omega) h3)

/-- What a round is handed: the place and the write there. -/
abbrev encs (n : Nat) (f : Nat → Int) (g : Nat → ByteArray) : Fin n → Array Value := fun j => #[Value.int .i64 (j.val : Int), .agg #[.int .i64 (f j.val), .string (g j.val)]]
/-- Where the writes lie. -/
def Lie (a : Option Addr) (len n₀ : Nat) (f : Nat → Int) (g : Nat → ByteArray) (W : World) : Prop :=
  len = 0 ∨ ∃ b off, a = some ⟨b, off, none⟩ ∧ b < n₀ ∧ ∀ j, j < len → W.cell? ⟨b, off + j * 2, none⟩ = some (.int .i64 (f j)) ∧ W.cell? ⟨b, off + j * 2 + 1, none⟩ = some (.string (g j))
theorem Lie.below {a : Option Addr} {len n₀ : Nat} {f : Nat → Int} {g : Nat → ByteArray} {W W' : World} (h : Lie a len n₀ f g W) (hB : Below n₀ W W') : Lie a len n₀ f g W' := by
  refine h.imp id ?_
  rintro ⟨b, off, rfl, hb, hc⟩
  exact ⟨b, off, rfl, hb, fun j hj => ⟨(hB.cell (p := ⟨b, off + j * 2, none⟩) hb).trans (hc j hj).1, (hB.cell (p := ⟨b, off + j * 2 + 1, none⟩) hb).trans (hc j hj).2⟩⟩

set_option maxRecDepth 100000 in
set_option maxHeartbeats 2000000 in
theorem backward1_in (F : Fence) (n : Nat) (h8 : F.fn 47) (hro : F.round = none) (hn : 1 ≤ n) (l Bs n₀ len cap : Nat) (a : Option Addr) (f : Nat → Int) (g : Nat → ByteArray) (hreach : len ≤ 9223372036854775807) (J Jx : List (Fin len) → World → Prop)
    (hY : ∀ pre x W, J pre W → pre.length < len → YieldAt F (n - 1) Try.prog l (encs len f g x) W fun e W' =>
      (e = .returned (.bool true) ∧ J (pre ++ [x]) W' ∧ Below n₀ W W') ∨ (e = .returned (.bool false) ∧ Jx (pre ++ [x]) W'))
    (W : World) (hBs : W.cell? ⟨Bs, 0, none⟩ = some (.slice a len cap)) (hBn : Bs < n₀) (hc : Lie a len n₀ f g W) (h0 : J [] W) :
    CallsIn F n Try.prog 47 #[.func (.yield l) #[] #[], .pointer (some ⟨Bs, 0, none⟩)] W fun e W' => (∃ v, e = .returned v) ∧
      ((∃ ys, ys = down len len ∧ J ys W') ∨ (∃ pre, (∃ k, k ≤ len ∧ pre = down len k) ∧ Jx pre W')) := by
  have HC := Lib.hid hc
  clear hc
  refine callsIn_of_wp Try.func47 rfl h8 ?_ hro
  simp only [Try.ntmps47, List.size_toArray, List.length_cons, List.length_nil, Nat.reduceAdd, Nat.reduceSub, Array.replicate_succ, Array.replicate_zero, List.push_toArray, List.append_toArray, List.nil_append, List.cons_append]
  gi_wp2
  gi_loopw [3] (fun i wr => ∃ (k : Nat) (z : Int), k ≤ len ∧ z + 1 + k = len ∧ i = .int .i64 z ∧ J (down len k) wr ∧ Below n₀ W wr)
    (fun i _ => (intOf i + 1).toNat)
  case atStart => exact ⟨0, (len : Int) - 1, Nat.zero_le _, by omega, rfl, h0, Below.refl _ _⟩
  case round =>
    obtain ⟨k, z, hk, hz, rfl, hJs, hnx⟩ := hrel
    by_cases hlt : k < len
    · obtain ⟨r, hr⟩ : ∃ r : Nat, z = r := ⟨len - 1 - k, by omega⟩
      subst hr
      have hrl : r < len := by omega
      obtain ⟨b, off, rfl, hb, hcc⟩ := (HC.out.below hnx).resolve_left (by omega)
      obtain ⟨hc1, hc2⟩ := hcc r hrl
      have hbx : wr.cell? ⟨Bs, 0, none⟩ = some (.slice (some ⟨b, off, none⟩) len cap) := (hnx.cell (p := ⟨Bs, 0, none⟩) hBn).trans hBs
      have er : down len (k + 1) = down len k ++ [⟨r, hrl⟩] := by
        rw [down_succ len k hlt]; congr 2; exact Fin.ext (by simp; omega)
      have HE := Lib.hid er
      have HZ := Lib.hid hz
      clear er hz hcc
      obtain ⟨fn, tmps, assign, body, hy, hR⟩ := hY _ ⟨r, hrl⟩ wr hJs (by rw [down_length len k hk]; exact hlt)
      simp only [encs] at hy
      gi_wp2
      refine hR.mono ?_
      rintro e W3 (⟨rfl, hJ3, hk3⟩ | ⟨rfl, hJx3⟩)
      · gi_wp2
        go_roundw
        case rel => exact ⟨k + 1, (r : Int) - 1, by omega, by have := HZ.out; omega, rfl, by rw [HE.out]; exact hJ3, hnx.trans hk3⟩
        case measure => simp [intOf]
      · gi_wp2
        refine bodyPost_ret (results_none rfl _ _ _) rfl ?_
        exact ⟨⟨_, rfl⟩, .inr ⟨_, ⟨k + 1, by omega, HE.out.symm⟩, hJx3⟩⟩
    · obtain rfl : z = -1 := by omega
      obtain rfl : k = len := by omega
      clear hz
      gi_wp2
      go_end0
      exact ⟨⟨_, rfl⟩, .inl ⟨_, rfl, hJs⟩⟩

set_option maxHeartbeats 1000000 in
theorem backward_in (F : Fence) (n : Nat) (h5 : F.fn 31) (hro : F.round = none) (a : Option Addr) (len cap : Nat) (w : World) :
    CallsIn F n Try.prog 31 #[.slice a len cap] w fun e w' => e = .returned (.func (.func 47) #[] #[.pointer (some ⟨w.heap.size, 0, none⟩)]) ∧ w' = w.alloc (.cells #[.slice a len cap] 24) := by
  refine callsIn_of_wp Try.func31 rfl h5 ?_ hro
  simp only [Try.ntmps31, List.size_toArray, List.length_cons, List.length_nil, Nat.reduceAdd, Nat.reduceSub, Array.replicate_succ, Array.replicate_zero, List.push_toArray, List.append_toArray, List.nil_append, List.cons_append]
  gi_wp2
  go_ret
  exact ⟨rfl, rfl⟩

theorem backward_stops (F : Fence) (n : Nat) (h8 : F.fn 47) (hro : F.round = none) (hn : 1 ≤ n) (Bs n₀ len cap : Nat) (a : Option Addr) (f : Nat → Int) (g : Nat → ByteArray) (hreach : len ≤ 9223372036854775807) (w : World) (hBn : Bs < n₀) (hn₀ : n₀ ≤ w.heap.size)
    (hBs : w.cell? ⟨Bs, 0, none⟩ = some (.slice a len cap)) (hc : Lie a len n₀ f g w) :
    SeqStopsK F n Try.prog 47 #[.pointer (some ⟨Bs, 0, none⟩)] (encs len f g) (Below n₀) (fun ys => ys = down len len) (fun pre => ∃ k, k ≤ len ∧ pre = down len k) len w := fun l J Jx W hW _ _ hY h0 => by
  have hW2 := hW.mono hn₀
  exact backward1_in F n h8 hro hn l Bs n₀ len cap a f g hreach J Jx hY W ((hW2.cell (p := ⟨Bs, 0, none⟩) hBn).trans hBs) hBn (hc.below hW2) h0

theorem curAt_none (i : Int) (x : ByteArray) (l : List (Int × ByteArray)) (h : ∀ p ∈ l, p.1 ≠ i) : curAt i x l = x := by
  induction l generalizing x with
  | nil => rfl
  | cons p l ih =>
    show curAt i (if p.1 = i then p.2 else x) l = x
    rw [if_neg (h p List.mem_cons_self)]
    exact ih x fun q hq => h q (List.mem_cons_of_mem _ hq)
theorem curAt_at (i : Int) (x : ByteArray) (l : List (Int × ByteArray)) (k : Nat) (hk : k < l.length) (h : l[k].1 = i) (h2 : ∀ j (hj : j < l.length), k < j → l[j].1 ≠ i) : curAt i x l = l[k].2 := by
  have e : l = l.take k ++ (l[k] :: l.drop (k + 1)) := by rw [List.getElem_cons_drop]; exact (List.take_append_drop k l).symm
  have e2 : curAt i x (l.take k ++ (l[k] :: l.drop (k + 1))) = curAt i (curAt i x (l.take k)) (l[k] :: l.drop (k + 1)) := List.foldl_append ..
  rw [← e] at e2
  rw [e2]
  show curAt i (if l[k].1 = i then l[k].2 else _) _ = _
  rw [if_pos h]
  refine curAt_none _ _ _ fun p hp => ?_
  obtain ⟨m, hm, rfl⟩ := List.mem_iff_getElem.1 hp
  rw [List.getElem_drop]
  exact h2 _ (by rw [List.length_drop] at hm; omega) (by omega)
abbrev fP (l : List (Int × ByteArray)) (j : Nat) : Int := (l[j]?.getD (0, ByteArray.empty)).1
abbrev gP (l : List (Int × ByteArray)) (j : Nat) : ByteArray := (l[j]?.getD (0, ByteArray.empty)).2
theorem fP_at (l : List (Int × ByteArray)) (j : Nat) (h : j < l.length) : fP l j = l[j].1 := by simp [fP, h]
theorem gP_at (l : List (Int × ByteArray)) (j : Nat) (h : j < l.length) : gP l j = l[j].2 := by simp [gP, h]

/-- What Read holds while it looks: the sectors, the number, both results. -/
structure Rs (N : Nat) (vs : Value) (i : Int) (W : World) : Prop where
  c1 : W.cell? ⟨N, 1, none⟩ = some vs
  ci : W.cell? ⟨N + 1, 0, none⟩ = some (.int .i64 i)
  r0 : W.cell? ⟨N + 1 + 1, 0, none⟩ = some (.string ⟨#[]⟩)
  f0 : W.frozen? ⟨N + 1 + 1, 0, none⟩ = false
  r1 : W.cell? ⟨N + 1 + 1 + 1, 0, none⟩ = some (.int .i64 0)
  f1 : W.frozen? ⟨N + 1 + 1 + 1, 0, none⟩ = false

set_option maxRecDepth 100000 in
set_option maxHeartbeats 2000000 in
theorem read_in (F : Fence) (n : Nat) (h3 : F.fn 16) (h5 : F.fn 31) (h6 : F.fn 47) (h7 : F.fn 22) (hro : F.round = none) (hn : 5 ≤ n) (D : Dk) (_hf : D.Fit) (_hok : D.Ok) (v : Value) (w : World) (hv : IsDisk w v D) (i : Nat) (hi : i < D.secs.length)
    (hchk : ∀ (m : Nat) (v : Value) (W : World), IsDisk W v D → CallsIn F m Try.prog 22 #[v] W fun e w' => e = .returned (.int .i64 0) ∧ Below W.heap.size W w') :
    CallsIn F n Try.prog 16 #[v, .int .i64 i] w fun e W' => e = .returned (.tuple #[.string (curAt i D.secs[i] D.pend), .int .i64 0]) ∧ Below w.heap.size w W' := by
  have h1 : 1 ≤ n := by omega
  have hv0 := Lib.hid hv
  obtain ⟨_, _, rfl, ⟨a, cap, rfl, hln, hcap, hc⟩, ⟨b, cap2, rfl, hm, hcap2, hc2⟩⟩ := hv
  unfold maxLen at hln hm
  have hB := ((((Below.refl w.heap.size w).alloc (Nat.le_refl _) (.cells #[.int .i64 D.size, .slice a D.secs.length cap, .slice b D.pend.length cap2, .int .i64 D.left] 26)).alloc (by simp) (.cells #[.int .i64 i] 3)).alloc (by simp; omega) (.cells #[.string ⟨#[]⟩] 9)).alloc (by simp; omega) (.cells #[.int .i64 0] 27)
  have HC := Lib.hid hc
  have HC2 := Lib.hid hc2
  clear hc hc2
  refine callsIn_of_wp_marks Try.func16 rfl h3 ?_ hro
  simp only [Try.ntmps16, List.size_toArray, List.length_cons, List.length_nil, Nat.reduceAdd, Nat.reduceSub, Array.replicate_succ, Array.replicate_zero, List.push_toArray, List.append_toArray, List.nil_append, List.cons_append]
  have hi0 : ¬ (i : Int) < 0 := by omega
  have hi1 : ¬ (D.secs.length : Int) ≤ (i : Int) := by omega
  have x0 := (((Bx.fresh D.size (.slice a D.secs.length cap) (.slice b D.pend.length cap2) D.left w).alloc (.cells #[.int .i64 i] 3)).alloc (.cells #[.string ⟨#[]⟩] 9)).alloc (.cells #[.int .i64 0] 27)
  have x1 := ((Boxed.new (w.alloc (.cells #[.int .i64 D.size, .slice a D.secs.length cap, .slice b D.pend.length cap2, .int .i64 D.left] 26)) 3 (.int .i64 i)).alloc (.cells #[.string ⟨#[]⟩] 9)).alloc (.cells #[.int .i64 0] 27)
  have x2 := (Boxed.new ((w.alloc (.cells #[.int .i64 D.size, .slice a D.secs.length cap, .slice b D.pend.length cap2, .int .i64 D.left] 26)).alloc (.cells #[.int .i64 i] 3)) 9 (.string ⟨#[]⟩)).alloc (.cells #[.int .i64 0] 27)
  have x3 := Boxed.new (((w.alloc (.cells #[.int .i64 D.size, .slice a D.secs.length cap, .slice b D.pend.length cap2, .int .i64 D.left] 26)).alloc (.cells #[.int .i64 i] 3)).alloc (.cells #[.string ⟨#[]⟩] 9)) 27 (.int .i64 0)
  simp only [World.size_alloc] at x0 x1 x2 x3
  have hd0 : decide ((i : Int) < 0) = false := by simp
  gi_wp2_with fail
  ((with_reducible refine (hchk (n - 1) _ _ (hv0.out.below hB (Nat.le_refl _))).mono ?_); rintro e w1 ⟨rfl, hb1⟩)
  have y0 := x0.below hb1 x0.lt
  have y1 : Boxed w1 (w.heap.size + 1) 3 (.int .i64 i) := (hb1.block _ x1.lt).trans x1
  have y2 : Boxed w1 (w.heap.size + 1 + 1) 9 (.string ⟨#[]⟩) := (hb1.block _ x2.lt).trans x2
  have y3 : Boxed w1 (w.heap.size + 1 + 1 + 1) 27 (.int .i64 0) := (hb1.block _ x3.lt).trans x3
  have B1 := hB.trans (hb1.mono hB.size)
  have rs : Rs w.heap.size (.slice a D.secs.length cap) i w1 := ⟨y0.c1, y1.cell, y2.cell, y2.frozen, y3.cell, y3.frozen⟩
  have z2 := y0.c2
  have sz1 : w.heap.size + 4 ≤ w1.heap.size := by have := hb1.size; simp at this; omega
  have RS := Lib.hid rs
  clear x0 x1 x2 x3 y0 y2 y3 hb1 hB rs hln
  have y1c := y1.cell
  obtain ⟨y1c1, _⟩ := And.intro RS.out.c1 trivial
  clear y1
  gi_wp2_with (gi_at_call 31; refine (backward_in F (n - 1) h5 hro _ _ _ _).mono ?_; rintro e w' ⟨rfl, rfl⟩)
  have lie : Lie b D.pend.length (w1.heap.size + 1) (fP D.pend) (gP D.pend) (w1.alloc (.cells #[.slice b D.pend.length cap2] 24)) := by
    rcases HC2.out with h | ⟨b1, off, e, hb, hcc⟩
    · exact .inl (by rw [h]; rfl)
    · refine .inr ⟨b1, off, e, by omega, fun j hj => ?_⟩
      rw [fP_at _ _ hj, gP_at _ _ hj]
      have Bz := B1.alloc B1.size (.cells #[.slice b D.pend.length cap2] 24)
      exact ⟨(Bz.cell (p := ⟨b1, off + j * 2, none⟩) hb).trans (hcc j hj).1, (Bz.cell (p := ⟨b1, off + j * 2 + 1, none⟩) hb).trans (hcc j hj).2⟩
  have B2 := B1.alloc B1.size (.cells #[.slice b D.pend.length cap2] 24)
  have rs2 : Rs w.heap.size (.slice a D.secs.length cap) i (w1.alloc (.cells #[.slice b D.pend.length cap2] 24)) := by
    have k := fun (p : Addr) (h : p.block < w1.heap.size) => ((Below.refl _ w1).alloc (Nat.le_refl _) (.cells #[.slice b D.pend.length cap2] 24)).cell (p := p) h
    have k2 := fun (p : Addr) (h : p.block < w1.heap.size) => ((Below.refl _ w1).alloc (Nat.le_refl _) (.cells #[.slice b D.pend.length cap2] 24)).frozen (p := p) h
    exact ⟨(k _ (by simp; omega)).trans RS.out.c1, (k _ (by simp; omega)).trans RS.out.ci, (k _ (by simp; omega)).trans RS.out.r0, (k2 _ (by simp; omega)).trans RS.out.f0, (k _ (by simp; omega)).trans RS.out.r1, (k2 _ (by simp; omega)).trans RS.out.f1⟩
  have hs2 : (w1.alloc (.cells #[.slice b D.pend.length cap2] 24)).heap.size = w1.heap.size + 1 := World.size_alloc _ _
  have hcs : (w1.alloc (.cells #[.slice b D.pend.length cap2] 24)).cell? ⟨w1.heap.size, 0, none⟩ = some (.slice b D.pend.length cap2) := (Boxed.new w1 24 (.slice b D.pend.length cap2)).cell
  generalize w1.alloc (.cells #[.slice b D.pend.length cap2] 24) = w2 at lie B2 rs2 hs2 hcs ⊢
  have HS2 := Lib.hid hs2
  have LE2 : w1.heap.size + 1 ≤ w2.heap.size := by omega
  clear hs2 RS y1c y1c1 z2 B1
  refine wpIn_rangeFunc_ownH hro h1 (gf := 47) (lb := #[.pointer (some ⟨w1.heap.size, 0, none⟩)]) rfl h6 (enters_of Try.func47 (by kernel_rfl) rfl)
    (backward_stops F (n - 1) h6 hro (by omega) w1.heap.size (w1.heap.size + 1) D.pend.length cap2 b (fP D.pend) (gP D.pend) (by omega) w2 (by omega) LE2 hcs lie) belowK_t (belowK_b LE2) (Below.refl _ _) (fun _ => rfl)
    (fun pre W => (Rs w.heap.size (.slice a D.secs.length cap) i W ∧ Hid (∀ p ∈ pre, fP D.pend p.val ≠ i) ∧ w1.heap.size + 1 ≤ W.heap.size) ∧ Below w.heap.size w W)
    (fun c pre W => (c = .ret ∧ ∃ ini last, pre = ini ++ [last] ∧ (∀ p ∈ ini, fP D.pend p.val ≠ i) ∧ fP D.pend last.val = i ∧ W.cell? ⟨w.heap.size + 1 + 1, 0, none⟩ = some (.string (gP D.pend last.val)) ∧ W.cell? ⟨w.heap.size + 1 + 1 + 1, 0, none⟩ = some (.int .i64 0)) ∧ Below w.heap.size w W)
    (OwnFrom.and (Own.from (fun s A B row hs hg hr => ⟨⟨cell_kept hs.1.c1 hg hr, cell_kept hs.1.ci hg hr, cell_kept hs.1.r0 hg hr, (frozen_kept hs.1.r0 hg hr).trans hs.1.f0, cell_kept hs.1.r1 hg hr, (frozen_kept hs.1.r1 hg hr).trans hs.1.f1⟩, hs.2.1, Nat.le_trans hs.2.2 hg.size⟩) _) (ownFrom_below (Nat.le_refl _) (by omega)))
    (fun c => OwnFrom.and (Own.from (fun s A B row hs hg hr => by obtain ⟨hc, ini, last, e1, e2, e3, e4, e5⟩ := hs; exact ⟨hc, ini, last, e1, e2, e3, cell_kept e4 hg hr, cell_kept e5 hg hr⟩) _) (ownFrom_below (Nat.le_refl _) (by omega)))
    ⟨⟨rs2, Lib.hid (by simp), LE2⟩, B2⟩
    (fun x a' W => ∃ Bx, (W.cell? ⟨Bx, 0, none⟩ = some (.int .i64 (fP D.pend x.val)) ∧ W.cell? ⟨Bx, 1, none⟩ = some (.string (gP D.pend x.val))) ∧ a' =
      { tmps := #[dv D.size (Value.slice a D.secs.length cap) (Value.slice b D.pend.length cap2) D.left,
          Value.int IntKind.i64 ↑i, Value.pointer (some { block := w.heap.size, off := 0 }),
          Value.pointer (some { block := w.heap.size + 1, off := 0 }),
          Value.pointer (some { block := w.heap.size + 1 + 1, off := 0 }),
          Value.pointer (some { block := w.heap.size + 1 + 1 + 1, off := 0 }), undef, Value.pointer (some { block := Bx, off := 0 }),
          Value.agg
            #[Value.int IntKind.i64 D.size, Value.slice a D.secs.length cap, Value.slice b D.pend.length cap2,
              Value.int IntKind.i64 D.left],
          Value.int IntKind.i64 0, Value.bool false, Value.int IntKind.i64 ↑i, Value.bool false,
          Value.bool false, Value.int IntKind.i64 ↑i,
          Value.pointer (some { block := w.heap.size, off := 1 }), Value.slice a D.secs.length cap,
          Value.int IntKind.i64 ↑D.secs.length, Value.bool false, Value.bool false,
          Value.pointer (some { block := w.heap.size, off := 2 }), Value.slice b D.pend.length cap2,
          Value.func (Fn.func 47) #[] #[Value.pointer (some { block := w1.heap.size, off := 0 })], .int .i64 (x.val : Int), .agg #[.int .i64 (fP D.pend x.val), .string (gP D.pend x.val)], undef,
          undef, undef, undef, undef, undef, undef, undef, undef, undef, undef], defers := [] })
    (fun x a' => Own.from (fun s A B row hs hg hr => by obtain ⟨Bx, ⟨h1, h2⟩, e⟩ := hs; exact ⟨Bx, ⟨cell_kept h1 hg hr, cell_kept h2 hg hr⟩, e⟩) _)
    ?assign ?body ?done ?stop
  case assign =>
    rintro l pre x W K ⟨⟨hR, hp, hz⟩, hBW⟩ hK
    gi_wp2
    refine hK _ _ ((KeepsOthers.alloc W (.cells #[.int .i64 (fP D.pend x.val), .string (gP D.pend x.val)] 44)).from _) ((Below.refl _ W).alloc hz _) ?_ ?_
    · have k := fun (p : Addr) (h : p.block < W.heap.size) => ((Below.refl _ W).alloc (Nat.le_refl _) (.cells #[.int .i64 (fP D.pend x.val), .string (gP D.pend x.val)] 44)).cell (p := p) h
      have k2 := fun (p : Addr) (h : p.block < W.heap.size) => ((Below.refl _ W).alloc (Nat.le_refl _) (.cells #[.int .i64 (fP D.pend x.val), .string (gP D.pend x.val)] 44)).frozen (p := p) h
      exact ⟨⟨⟨(k _ (by simp; omega)).trans hR.c1, (k _ (by simp; omega)).trans hR.ci, (k _ (by simp; omega)).trans hR.r0, (k2 _ (by simp; omega)).trans hR.f0, (k _ (by simp; omega)).trans hR.r1, (k2 _ (by simp; omega)).trans hR.f1⟩, hp, by simp; omega⟩, hBW.alloc hBW.size _⟩
    · exact ⟨W.heap.size, ⟨by simp [World.cell?_alloc_new], by simp [World.cell?_alloc_new]⟩, rfl⟩
  case body =>
    rintro l pre x a' W hl hloop ⟨⟨hR, hp, hz⟩, hBW⟩ ⟨Bx, ⟨cx0, cx1⟩, rfl⟩ hlt
    have HR := Lib.hid hR
    obtain ⟨q1, q2, q3, q4, q5, q6⟩ := hR
    by_cases hxi : fP D.pend x.val = i
    · have hq : (fP D.pend x.val == (i : Int)) = true := by simpa using hxi
      have HX := Lib.hid hxi
      have HP := Lib.hid hp
      clear hxi hp
      generalize hgx : gP D.pend x.val = gx at cx1
      have HGX := Lib.hid hgx
      generalize hfx : fP D.pend x.val = fx at cx0 hq
      have HFX := Lib.hid hfx
      clear hgx hfx
      gi_wp2
      refine ⟨((KeepsOthers.setCell _ _ _).trans (KeepsOthers.setCell _ _ _)).from _, ⟨rfl, pre, x, rfl, HP.out.out, HX.out, ?_, ?_⟩, (hBW.setCell (p := ⟨w.heap.size + 1 + 1, 0, none⟩) (by simp; omega) _).setCell (p := ⟨w.heap.size + 1 + 1 + 1, 0, none⟩) (by simp; omega) _⟩
      · rw [HGX.out]; simp [World.cell?_setCell_other, World.cell?_setCell_same', q3]
      · simp [World.cell?_setCell_other, World.cell?_setCell_same', q5]
    · have hq : (fP D.pend x.val == (i : Int)) = false := by simpa using hxi
      have HX := Lib.hid hxi
      have HP := Lib.hid hp
      clear hxi hp
      generalize hfx : fP D.pend x.val = fx at cx0 hq
      have HFX := Lib.hid hfx
      clear hfx
      gi_wp2
      exact ⟨KeepsFrom.refl _ _, Below.refl _ _, ⟨HR.out, Lib.hid fun p hp' => (List.mem_append.1 hp').elim (HP.out.out p) (fun e => by simp at e; subst e; exact HX.out), hz⟩, hBW⟩
  case done =>
    rintro E zs W hE rfl ⟨⟨hR, hp, hz⟩, hBW⟩ hK
    obtain ⟨q1, q2, q3, q4, q5, q6⟩ := hR
    obtain ⟨b1, o1, rfl, hb1, hcc⟩ := HC.out.resolve_left (by intro e; rw [e] at hi; simp at hi)
    have hcx := (hBW.cell (p := ⟨b1, o1 + i, none⟩) hb1).trans (hcc i hi)
    have hcur : curAt i D.secs[i] D.pend = D.secs[i] := curAt_none _ _ _ fun p hp' => by
      obtain ⟨m, hm', rfl⟩ := List.mem_iff_getElem.1 hp'
      rw [← fP_at _ _ hm']
      exact hp.out ⟨m, hm'⟩ (mem_down D.pend.length ⟨m, hm'⟩ D.pend.length (Nat.le_refl _) (by simp))
    have HCUR := Lib.hid hcur
    generalize hx : D.secs[i] = x at hcx
    have HX := Lib.hid hx
    clear hp hcc hcur hx
    gi_wp2
    have hK' := ((KeepsOthers.setCell W ⟨w.heap.size + 1 + 1, 0, none⟩ (.string x)).trans (KeepsOthers.setCell _ ⟨w.heap.size + 1 + 1 + 1, 0, none⟩ (.int .i64 0))).same E _ hK rfl
    refine ⟨by simp, .inl ⟨_, _, rfl, run_takeDeferred hK', ?_⟩⟩
    have c5 : ((W.setCell ⟨w.heap.size + 1 + 1, 0, none⟩ (.string x)).setCell ⟨w.heap.size + 1 + 1 + 1, 0, none⟩ (.int .i64 0)).cell? ⟨w.heap.size + 1 + 1, 0, none⟩ = some (.string x) := by simp [World.cell?_setCell_other, World.cell?_setCell_same', q3]
    have c6 : ((W.setCell ⟨w.heap.size + 1 + 1, 0, none⟩ (.string x)).setCell ⟨w.heap.size + 1 + 1 + 1, 0, none⟩ (.int .i64 0)).cell? ⟨w.heap.size + 1 + 1 + 1, 0, none⟩ = some (.int .i64 0) := by simp [World.cell?_setCell_other, World.cell?_setCell_same', q5]
    have hc5 := cell_kept c5 (grownBy_putObj' _ E (.deferred none)) (fun r e => by cases e; exact ⟨_, hK', rfl⟩)
    have hc6 := cell_kept c6 (grownBy_putObj' _ E (.deferred none)) (fun r e => by cases e; exact ⟨_, hK', rfl⟩)
    refine ⟨.tuple #[.string x, .int .i64 0], ?_, by rw [HCUR.out, HX.out], ((hBW.setCell (p := ⟨w.heap.size + 1 + 1, 0, none⟩) (by simp; omega) _).setCell (p := ⟨w.heap.size + 1 + 1 + 1, 0, none⟩) (by simp; omega) _).trans (belowK_b (w := w) (Nat.le_refl _) _ E _ _ (by omega) hK' rfl rfl)⟩
    simp [results, Try.f16, go_sem, hc5, hc6]
  case stop =>
    rintro E c pre W hE ⟨k, hk, rfl⟩ ⟨⟨rfl, ini, last, e1, e2, e3, e4, e5⟩, hBW⟩ hK
    obtain ⟨k', rfl⟩ : ∃ k', k = k' + 1 := by
      cases k with
      | zero => simp [down] at e1
      | succ k' => exact ⟨k', rfl⟩
    have hk2 : D.pend.length - 1 - k' < D.pend.length := by omega
    rw [down_succ D.pend.length k' (by omega)] at e1
    obtain ⟨rfl, e6⟩ := List.append_inj' e1 rfl
    obtain rfl : (⟨D.pend.length - 1 - k', hk2⟩ : Fin D.pend.length) = last := by simpa using e6
    have hcur : curAt i D.secs[i] D.pend = gP D.pend (D.pend.length - 1 - k') := by
      rw [gP_at _ _ (show D.pend.length - 1 - k' < D.pend.length by omega)]
      refine curAt_at _ _ _ _ (by omega) ?_ fun j hj hkj => ?_
      · rw [← fP_at]; exact e3
      · rw [← fP_at _ _ hj]
        exact e2 ⟨j, hj⟩ (mem_down D.pend.length ⟨j, hj⟩ k' (by omega) (by simp; omega))
    have HCUR := Lib.hid hcur
    generalize gP D.pend (D.pend.length - 1 - k') = gx at e4 HCUR
    clear e1 e6 e2 e3 hcur
    gi_wp2
    refine ⟨by simp, .inl ⟨_, _, rfl, run_takeDeferred hK, ?_⟩⟩
    have hc5 := cell_kept e4 (grownBy_putObj' _ E (.deferred none)) (fun r e => by cases e; exact ⟨_, hK, rfl⟩)
    have hc6 := cell_kept e5 (grownBy_putObj' _ E (.deferred none)) (fun r e => by cases e; exact ⟨_, hK, rfl⟩)
    refine ⟨.tuple #[.string gx, .int .i64 0], ?_, by rw [HCUR.out], hBW.trans (belowK_b (w := w) (Nat.le_refl _) W E _ _ (by omega) hK rfl rfl)⟩
    simp [results, Try.f16, go_sem, hc5, hc6]

theorem read_good (D : Dk) (hf : D.Fit) (hok : D.Ok) (v : Value) (w : World) (hv : IsDisk w v D) (z : Int) (i : Nat) (hz : z = i) (hi : i < D.secs.length) (x : ByteArray) (hx : curAt i D.secs[i] D.pend = x) :
    Calls Try.prog 16 #[v, .int .i64 z] w fun e W' => e = .returned (.tuple #[.string x, .int .i64 0]) ∧ Below w.heap.size w W' := by
  subst hz hx
  exact (callsIn_wide (n := 5)).1 (read_in Fence.wide 5 trivial trivial trivial trivial rfl (by omega) D hf hok v w hv i hi (fun m v W h => callsIn_wide.2 (check_any D hf v W h 0 ((chk_zero D).2 hok))))
end Go.Proofs.Ytgdfdelggihceaa
