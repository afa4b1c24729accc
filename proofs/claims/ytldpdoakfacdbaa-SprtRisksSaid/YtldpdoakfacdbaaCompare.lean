/- sprt.compare: two long numbers are compared, at this translation. -/
import Derived.Test.YtldpdoakfacdbaaPower
import Derived.RangeFuncNested
import Derived.RangeFuncBound
import Derived.RangeFuncCalls
import Derived.RangeFuncLeaves
import Derived.Shelf.Abstract
import Derived.Shelf.RegionOpen
import Derived.OwnWalkIn
import Derived.TacticsInMore
import Derived.LoopNIn
import Derived.LoopIn
namespace Go.Proofs.Ytldpdoakfacdbaa
open Go.RowKit Go.Shelf
attribute [local go_sem] Oper.semAt_some

/-- The places of a list from its end, as many as k. -/
def down (n : Nat) : Nat → List (Fin n)
  | 0 => []
  | k + 1 => if h : k < n then down n k ++ [⟨n - 1 - k, by omega⟩] else down n k
theorem down_succ (n k : Nat) (h : k < n) : down n (k + 1) = down n k ++ [⟨n - 1 - k, by omega⟩] := by rw [down, dif_pos h]
theorem down_length (n : Nat) : ∀ k, k ≤ n → (down n k).length = k
  | 0, _ => rfl
  | k + 1, h => by rw [down_succ n k h, List.length_append, down_length n k (by omega)]; rfl
theorem mem_down (n : Nat) (j : Fin n) : ∀ k, k ≤ n → n - k ≤ j.val → j ∈ down n k
  | 0, _, h2 => by have := j.isLt; omega
  | k + 1, h, h2 => by
    rw [down_succ n k h]
    rcases Nat.lt_or_ge j.val (n - k) with h3 | h3
    · have : j = ⟨n - 1 - k, by omega⟩ := Fin.ext (by simp; omega)
      rw [this]; simp
    · exact List.mem_append_left _ (mem_down n j k (by omega) h3)

/-- What a round is handed: the place and the number there. -/
abbrev encs (n : Nat) (zs : Nat → Nat) : Fin n → Array Value := fun j => #[Value.int .i64 (j.val : Int), Value.int .i64 (zs j.val : Int)]

set_option maxRecDepth 100000 in
set_option maxHeartbeats 2000000 in
theorem backward1_in (F : Fence) (n : Nat) (h8 : F.fn 39) (hro : F.round = none) (hn : 1 ≤ n) (l Bs n₀ b len cap : Nat) (zs : Nat → Nat) (hreach : len ≤ 1000) (hb : b < n₀) (J Jx : List (Fin len) → World → Prop)
    (hY : ∀ pre x W, J pre W → pre.length < len → YieldAt F (n - 1) Try.prog l (encs len zs x) W fun e W' =>
      (e = .returned (.bool true) ∧ J (pre ++ [x]) W' ∧ Below n₀ W W') ∨ (e = .returned (.bool false) ∧ Jx (pre ++ [x]) W'))
    (W : World) (hBs : W.cell? ⟨Bs, 0, none⟩ = some (.slice (some ⟨b, 0, none⟩) len cap)) (hBn : Bs < n₀) (hc : ∀ j, j < len → W.cell? ⟨b, j, none⟩ = some (.int .i64 (zs j : Int))) (h0 : J [] W) :
    CallsIn F n Try.prog 39 #[.func (.yield l) #[] #[], .pointer (some ⟨Bs, 0, none⟩)] W fun e W' => (∃ v, e = .returned v) ∧
      ((∃ ys, ys = down len len ∧ J ys W') ∨ (∃ pre, (∃ k, k ≤ len ∧ pre = down len k) ∧ Jx pre W')) := by
  refine callsIn_of_wp Try.func39 rfl h8 ?_ hro
  simp only [Try.ntmps39, List.size_toArray, List.length_cons, List.length_nil, Nat.reduceAdd, Nat.reduceSub, Array.replicate_succ, Array.replicate_zero, List.push_toArray, List.append_toArray, List.nil_append, List.cons_append]
  gi_wp2
  gi_loopw [3] (fun i wr => ∃ (k : Nat) (z : Int), k ≤ len ∧ z + 1 + k = len ∧ i = .int .i64 z ∧ J (down len k) wr ∧ Below n₀ W wr)
    (fun i _ => (intOf i + 1).toNat)
  case atStart => exact ⟨0, (len : Int) - 1, Nat.zero_le _, by omega, rfl, h0, Below.refl _ _⟩
  case round =>
    obtain ⟨k, z, hk, hz, rfl, hJs, hnx⟩ := hrel
    by_cases hlt : k < len
    · obtain ⟨r, hr⟩ : ∃ r : Nat, z = r := ⟨len - 1 - k, by omega⟩
      subst hr
      have hrl : r < len := by omega
      have hcx : wr.cell? ⟨b, r, none⟩ = some (.int .i64 (zs r : Int)) := (hnx.cell (p := ⟨b, r, none⟩) hb).trans (hc r hrl)
      have hbx : wr.cell? ⟨Bs, 0, none⟩ = some (.slice (some ⟨b, 0, none⟩) len cap) := (hnx.cell (p := ⟨Bs, 0, none⟩) hBn).trans hBs
      have er : down len (k + 1) = down len k ++ [⟨r, hrl⟩] := by
        rw [down_succ len k hlt]; congr 2; exact Fin.ext (by simp; omega)
      have HE := Lib.hid er
      have HZ := Lib.hid hz
      clear er hz
      obtain ⟨fn, tmps, assign, body, hy, hR⟩ := hY _ ⟨r, hrl⟩ wr hJs (by rw [down_length len k hk]; exact hlt)
      simp only [encs] at hy
      gi_wp2
      refine hR.mono ?_
      rintro e W3 (⟨rfl, hJ3, hk3⟩ | ⟨rfl, hJx3⟩)
      · gi_wp2
        go_roundw
        case rel => exact ⟨k + 1, (r : Int) - 1, by omega, by have := HZ.out; omega, rfl, by rw [HE.out]; exact hJ3, hnx.trans hk3⟩
        case measure => simp [intOf]
      · gi_wp2
        refine bodyPost_ret (results_none rfl _ _ _) rfl ?_
        exact ⟨⟨_, rfl⟩, .inr ⟨_, ⟨k + 1, by omega, HE.out.symm⟩, hJx3⟩⟩
    · obtain rfl : z = -1 := by omega
      obtain rfl : k = len := by omega
      clear hz
      gi_wp2
      go_end0
      exact ⟨⟨_, rfl⟩, .inl ⟨_, rfl, hJs⟩⟩

set_option maxHeartbeats 1000000 in
theorem backward_in (F : Fence) (n : Nat) (h5 : F.fn 36) (hro : F.round = none) (a : Option Addr) (len cap : Nat) (w : World) :
    CallsIn F n Try.prog 36 #[.slice a len cap] w fun e w' => e = .returned (.func (.func 39) #[] #[.pointer (some ⟨w.heap.size, 0, none⟩)]) ∧ w' = w.alloc (.cells #[.slice a len cap] 55) := by
  refine callsIn_of_wp Try.func36 rfl h5 ?_ hro
  simp only [Try.ntmps36, List.size_toArray, List.length_cons, List.length_nil, Nat.reduceAdd, Nat.reduceSub, Array.replicate_succ, Array.replicate_zero, List.push_toArray, List.append_toArray, List.nil_append, List.cons_append]
  gi_wp2
  go_ret
  exact ⟨rfl, rfl⟩

theorem backward_stops (F : Fence) (n : Nat) (h8 : F.fn 39) (hro : F.round = none) (hn : 1 ≤ n) (Bs n₀ b len cap : Nat) (zs : Nat → Nat) (hreach : len ≤ 1000) (hb : b < n₀) (w : World) (hBn : Bs < n₀) (hn₀ : n₀ ≤ w.heap.size)
    (hBs : w.cell? ⟨Bs, 0, none⟩ = some (.slice (some ⟨b, 0, none⟩) len cap)) (hc : ∀ j, j < len → w.cell? ⟨b, j, none⟩ = some (.int .i64 (zs j : Int))) :
    SeqStopsK F n Try.prog 39 #[.pointer (some ⟨Bs, 0, none⟩)] (encs len zs) (Below n₀) (fun ys => ys = down len len) (fun pre => ∃ k, k ≤ len ∧ pre = down len k) len w := fun l J Jx W hW _ _ hY h0 => by
  have hW2 := hW.mono hn₀
  exact backward1_in F n h8 hro hn l Bs n₀ b len cap zs hreach hb J Jx hY W ((hW2.cell (p := ⟨Bs, 0, none⟩) hBn).trans hBs) hBn (fun j hj => (hW2.cell (p := ⟨b, j, none⟩) hb).trans (hc j hj)) h0

set_option maxRecDepth 100000 in
set_option maxHeartbeats 2000000 in
theorem compareEq_in (F : Fence) (n : Nat) (h3 : F.fn 30) (h5 : F.fn 36) (h6 : F.fn 39) (h7 : F.fn 35) (hro : F.round = none) (hn : 4 ≤ n) (b1 b2 len cap1 cap2 : Nat) (xs ys : Nat → Nat) (hreach : len ≤ 1000) (w : World) (hb1 : b1 < w.heap.size) (hb2 : b2 < w.heap.size)
    (hc1 : ∀ j, j < len → w.cell? ⟨b1, j, none⟩ = some (.int .i64 (xs j : Int))) (hc2 : ∀ j, j < len → w.cell? ⟨b2, j, none⟩ = some (.int .i64 (ys j : Int)))
    (hcmp : ∀ (m : Nat) (a b : Int) W, CallsIn F m Try.prog 35 #[.int .i64 a, .int .i64 b] W fun e w' => e = .returned (.int .i64 (cmpZ a b)) ∧ W = w') :
    CallsIn F n Try.prog 30 #[.slice (some ⟨b1, 0, none⟩) len cap1, .slice (some ⟨b2, 0, none⟩) len cap2] w fun e W' => 
      ((e = .returned (.int .i64 0) ∧ ∀ j, j < len → xs j = ys j) ∨ (∃ k, k < len ∧ e = .returned (.int .i64 (cmpZ (xs k) (ys k))) ∧ xs k ≠ ys k ∧ ∀ j, k < j → j < len → xs j = ys j)) ∧ Below w.heap.size w W' := by
  have h1 : 1 ≤ n := by omega
  refine callsIn_of_wp_marks Try.func30 rfl h3 ?_ hro
  simp only [Try.ntmps30, List.size_toArray, List.length_cons, List.length_nil, Nat.reduceAdd, Nat.reduceSub, Array.replicate_succ, Array.replicate_zero, List.push_toArray, List.append_toArray, List.nil_append, List.cons_append]
  gi_wp2_with (gi_at_call 36; refine (backward_in F (n - 1) h5 hro _ _ _ _).mono ?_; rintro e w' ⟨rfl, rfl⟩)
  have bY := ((Boxed.new w 55 (.slice (some ⟨b2, 0, none⟩) len cap2)).alloc (.cells #[.int .i64 0] 3)).alloc (.cells #[.slice (some ⟨b1, 0, none⟩) len cap1] 55)
  have bR := (Boxed.new (w.alloc (.cells #[.slice (some ⟨b2, 0, none⟩) len cap2] 55)) 3 (.int .i64 0)).alloc (.cells #[.slice (some ⟨b1, 0, none⟩) len cap1] 55)
  have bN := Boxed.new ((w.alloc (.cells #[.slice (some ⟨b2, 0, none⟩) len cap2] 55)).alloc (.cells #[.int .i64 0] 3)) 55 (.slice (some ⟨b1, 0, none⟩) len cap1)
  rw [World.size_alloc] at bR
  rw [World.size_alloc, World.size_alloc] at bN
  have hB0 : Below w.heap.size w (((w.alloc (.cells #[.slice (some ⟨b2, 0, none⟩) len cap2] 55)).alloc (.cells #[.int .i64 0] 3)).alloc (.cells #[.slice (some ⟨b1, 0, none⟩) len cap1] 55)) := (((Below.refl _ w).alloc (Nat.le_refl _) _).alloc (by simp) _).alloc (by simp; omega) _
  refine wpIn_rangeFunc_ownG hro h1 (gf := 39) (lb := #[.pointer (some ⟨w.heap.size + 1 + 1, 0, none⟩)]) rfl h6 (enters_of Try.func39 (by kernel_rfl) rfl)
    (backward_stops F (n - 1) h6 hro (by omega) (w.heap.size + 1 + 1) (w.heap.size + 3) b1 len cap1 xs hreach (by omega) _ (by omega) (by simp) bN.cell (fun j hj => (hB0.cell (p := ⟨b1, j, none⟩) hb1).trans (hc1 j hj))) belowK_t (belowK_b (by simp)) (Below.refl _ _) (fun _ => rfl)
    (fun pre W => ((∀ p ∈ pre, xs p.val = ys p.val) ∧ W.cell? ⟨w.heap.size, 0, none⟩ = some (.slice (some ⟨b2, 0, none⟩) len cap2) ∧ W.cell? ⟨w.heap.size + 1, 0, none⟩ = some (.int .i64 0) ∧ W.frozen? ⟨w.heap.size + 1, 0, none⟩ = false) ∧ Below w.heap.size w W)
    (fun c pre W => (c = .ret ∧ ∃ ini last, pre = ini ++ [last] ∧ (∀ p ∈ ini, xs p.val = ys p.val) ∧ xs last.val ≠ ys last.val ∧ W.cell? ⟨w.heap.size + 1, 0, none⟩ = some (.int .i64 (cmpZ (xs last.val) (ys last.val)))) ∧ Below w.heap.size w W)
    (OwnFrom.and (Own.from (fun s A B row hs hg hr => ⟨hs.1, cell_kept hs.2.1 hg hr, cell_kept hs.2.2.1 hg hr, (frozen_kept hs.2.2.1 hg hr).trans hs.2.2.2⟩) _) (ownFrom_below (Nat.le_refl _) (by simp; omega)))
    (fun c => OwnFrom.and (Own.from (fun s A B row hs hg hr => by obtain ⟨hc, ini, last, e1, e2, e3, e4⟩ := hs; exact ⟨hc, ini, last, e1, e2, e3, cell_kept e4 hg hr⟩) _) (ownFrom_below (Nat.le_refl _) (by simp; omega)))
    ⟨⟨by simp, bY.cell, bR.cell, bR.frozen⟩, hB0⟩
    (fun x => { tmps := #[Value.slice (some { block := b1, off := 0 }) len cap1, Value.slice (some { block := b2, off := 0 }) len cap2,
          undef, Value.pointer (some { block := w.heap.size, off := 0 }),
          Value.pointer (some { block := w.heap.size + 1, off := 0 }), .int .i64 (x.val : Int), .int .i64 (xs x.val : Int),
          Value.slice (some { block := b1, off := 0 }) len cap1, Value.int IntKind.i64 ↑len,
          Value.slice (some { block := b2, off := 0 }) len cap2, Value.int IntKind.i64 ↑len, Value.bool false, undef,
          undef, undef, undef, undef, Value.slice (some { block := b1, off := 0 }) len cap1,
          Value.func (Fn.func 39) #[] #[Value.pointer (some { block := w.heap.size + 1 + 1, off := 0 })], .int .i64 (x.val : Int), .int .i64 (xs x.val : Int),
          undef, undef, undef, undef, undef, undef, undef, undef, undef, undef, undef, undef], defers := [] }) ?assign ?body ?done ?stop
  case assign =>
    intro l x W K hK
    gi_wp2
    exact hK
  case body =>
    rintro l pre x W ⟨⟨hp, hy, hcr, hfr⟩, hB⟩ _
    have hcy : W.cell? ⟨b2, x.val, none⟩ = some (.int .i64 (ys x.val : Int)) := (hB.cell (p := ⟨b2, x.val, none⟩) hb2).trans (hc2 _ x.isLt)
    have hxl : x.val < len := x.isLt
    by_cases hxy : xs x.val = ys x.val
    · have hHp := Lib.hid hp
      have hq : ((xs x.val : Int) == (ys x.val : Int)) = true := by simp [hxy]
      have hq2 : ((xs x.val : Int) != (ys x.val : Int)) = false := by simp [hxy]
      have hHq := Lib.hid hxy
      clear hp hxy
      gi_wp2
      exact ⟨KeepsFrom.refl _ _, Below.refl _ _, ⟨fun p hp' => (List.mem_append.1 hp').elim (hHp.out p) (fun e => by simp at e; subst e; exact hHq.out), hy, hcr, hfr⟩, hB⟩
    · have hHp := Lib.hid hp
      have hq : ((xs x.val : Int) == (ys x.val : Int)) = false := by simp; omega
      have hq2 : ((xs x.val : Int) != (ys x.val : Int)) = true := by simp; omega
      have hHq := Lib.hid hxy
      have hd : 1 ≤ n - 1 - 1 := by omega
      have hd2 : 1 ≤ n - 1 - 1 - 1 := by omega
      clear hp hxy
      gi_wp2_with (gi_at_call 35; refine (CallsIn.inRound l (hcmp _ _ _ _)).mono ?_; rintro e w' ⟨rfl, rfl⟩)
      exact ⟨(KeepsOthers.setCell _ _ _).from _, ⟨rfl, pre, x, rfl, hHp.out, hHq.out, World.cell?_setCell_same' _ _ _ (by rw [hcr]; rfl)⟩, hB.setCell (p := ⟨w.heap.size + 1, 0, none⟩) (by simp) _⟩
  case done =>
    rintro D zs W hD rfl ⟨⟨hne, hy, hcr, hfr⟩, hB⟩ hK
    have hHn := Lib.hid hne
    clear hne
    gi_wp2
    have hK' := (KeepsOthers.setCell W ⟨w.heap.size + 1, 0, none⟩ (.int .i64 0)).same D _ hK rfl
    refine ⟨by simp, .inl ⟨_, _, rfl, run_takeDeferred hK', ?_⟩⟩
    have hc5 := cell_kept (World.cell?_setCell_same' W ⟨w.heap.size + 1, 0, none⟩ (.int .i64 0) (by rw [hcr]; rfl)) (grownBy_putObj' _ D (.deferred none)) (fun r e => by cases e; exact ⟨_, hK', rfl⟩)
    refine ⟨.int .i64 0, ?_, .inl ⟨rfl, fun j hj => hHn.out ⟨j, hj⟩ (mem_down len ⟨j, hj⟩ len (Nat.le_refl _) (by simp))⟩, (hB.setCell (p := ⟨w.heap.size + 1, 0, none⟩) (by simp) _).trans (belowK_b (w := w) (Nat.le_refl _) _ D _ _ (by simp at hD; omega) hK' rfl rfl)⟩
    simp [results, Try.f30, go_sem, hc5]
  case stop =>
    rintro D c pre W hD ⟨k, hk, rfl⟩ ⟨⟨rfl, ini, last, e1, e2, e3, hcr⟩, hB⟩ hK
    have H1 := Lib.hid e1
    have H2 := Lib.hid e2
    clear e1 e2
    gi_wp2
    refine ⟨by simp, .inl ⟨_, _, rfl, run_takeDeferred hK, ?_⟩⟩
    have hc5 := cell_kept hcr (grownBy_putObj' _ D (.deferred none)) (fun r e => by cases e; exact ⟨_, hK, rfl⟩)
    have e1 := H1.out
    obtain ⟨k', rfl⟩ : ∃ k', k = k' + 1 := by
      cases k with
      | zero => simp [down] at e1
      | succ k' => exact ⟨k', rfl⟩
    rw [down_succ len k' (by omega)] at e1
    obtain ⟨rfl, e5⟩ := List.append_inj' e1 rfl
    obtain rfl : (⟨len - 1 - k', by omega⟩ : Fin len) = last := by simpa using e5
    refine ⟨.int .i64 (cmpZ (xs (len - 1 - k')) (ys (len - 1 - k'))), ?_, .inr ⟨len - 1 - k', by omega, rfl, e3, fun j hj hj2 => H2.out ⟨j, hj2⟩ (mem_down len ⟨j, hj2⟩ k' (by omega) (by simp; omega))⟩, hB.trans (belowK_b (w := w) (Nat.le_refl _) W D _ _ (by simp at hD; omega) hK rfl rfl)⟩
    simp [results, Try.f30, go_sem, hc5]

set_option maxRecDepth 100000 in
set_option maxHeartbeats 2000000 in
theorem compareNe_in (F : Fence) (n : Nat) (h3 : F.fn 30) (h7 : F.fn 35) (hro : F.round = none) (hn : 3 ≤ n) (a1 a2 : Option Addr) (len1 len2 cap1 cap2 : Nat) (hne : len1 ≠ len2) (w : World)
    (hcmp : ∀ (m : Nat) (a b : Int) W, CallsIn F m Try.prog 35 #[.int .i64 a, .int .i64 b] W fun e w' => e = .returned (.int .i64 (cmpZ a b)) ∧ W = w') :
    CallsIn F n Try.prog 30 #[.slice a1 len1 cap1, .slice a2 len2 cap2] w fun e W' => e = .returned (.int .i64 (cmpZ len1 len2)) ∧ Below w.heap.size w W' := by
  have h1 : 1 ≤ n := by omega
  have hq : ((len1 : Int) == (len2 : Int)) = false := by simp; omega
  have hq2 : ((len1 : Int) != (len2 : Int)) = true := by simp; omega
  clear hne
  refine callsIn_of_wp_marks Try.func30 rfl h3 ?_ hro
  simp only [Try.ntmps30, List.size_toArray, List.length_cons, List.length_nil, Nat.reduceAdd, Nat.reduceSub, Array.replicate_succ, Array.replicate_zero, List.push_toArray, List.append_toArray, List.nil_append, List.cons_append]
  gi_wp2_with (gi_at_call 35; refine (hcmp _ _ _ _).mono ?_; rintro e w' ⟨rfl, rfl⟩)
  exact ⟨.int .i64 (cmpZ len1 len2), by simp [results, Try.f30, go_sem], rfl, ((Below.refl _ w).alloc (Nat.le_refl _) _).alloc (by simp) _⟩

theorem val_getElem_top (B : Nat) (hB : 2 ≤ B) (a b k : Nat) (hk : k < (digs B a).length) (hl : (digs B a).length = (digs B b).length)
    (hne : (digs B a)[k] ≠ (digs B b)[k]'(hl ▸ hk)) (heq : ∀ j (h : j < (digs B a).length), k < j → (digs B a)[j] = (digs B b)[j]'(hl ▸ h)) :
    cmpZ ((digs B a)[k] : Nat) ((digs B b)[k]'(hl ▸ hk) : Nat) = cmpZ a b := by
  have hd : (digs B a).drop (k + 1) = (digs B b).drop (k + 1) := by
    apply List.ext_getElem
    · simp [hl]
    · intro i h1 h2
      simp only [List.getElem_drop]
      exact heq _ _ (by omega)
  have va := val_digs B a hB
  have vb := val_digs B b hB
  unfold cmpZ
  rcases Nat.lt_or_gt_of_ne hne with h | h
  · have := val_lt_of_top B (digs B a) (digs B b) k (digs_lt B a hB) hk (hl ▸ hk) hd h
    rw [va, vb] at this
    rw [if_pos (by omega), if_pos (by omega)]
  · have := val_lt_of_top B (digs B b) (digs B a) k (digs_lt B b hB) (hl ▸ hk) hk hd.symm h
    rw [va, vb] at this
    rw [if_neg (by omega), if_neg (by omega), if_neg (by omega), if_neg (by omega)]

/-- sprt.compare of two long numbers is the comparison of the numbers. -/
theorem compare_long (a b : Nat) (v1 v2 : Value) (w : World) (hl : (digs B9 a).length ≤ 1000) (h1 : IsLong w v1 (digs B9 a)) (h2 : IsLong w v2 (digs B9 b)) :
    Calls Try.prog 30 #[v1, v2] w fun e w' => e = .returned (.int .i64 (cmpZ a b)) ∧ Below w.heap.size w w' := by
  obtain ⟨b1, cap1, rfl, hb1, _, hc1⟩ := h1
  obtain ⟨b2, cap2, rfl, hb2, _, hc2⟩ := h2
  refine (callsIn_wide (n := 4)).1 ?_
  by_cases hne : (digs B9 a).length = (digs B9 b).length
  · have hx : ∀ j, j < (digs B9 a).length → w.cell? ⟨b1, j, none⟩ = some (.int .i64 (((digs B9 a)[j]?.getD 0 : Nat) : Int)) := fun j hj => by
      rw [hc1 j hj, List.getElem?_eq_getElem hj]; rfl
    have hy : ∀ j, j < (digs B9 a).length → w.cell? ⟨b2, j, none⟩ = some (.int .i64 (((digs B9 b)[j]?.getD 0 : Nat) : Int)) := fun j hj => by
      rw [hc2 j (hne ▸ hj), List.getElem?_eq_getElem (hne ▸ hj)]; rfl
    have key := compareEq_in Fence.wide 4 trivial trivial trivial trivial rfl (by omega) b1 b2 _ cap1 cap2 (fun j => (digs B9 a)[j]?.getD 0) (fun j => (digs B9 b)[j]?.getD 0) hl w hb1 hb2 hx hy (fun m a b W => callsIn_wide.2 (compare_any a b W))
    rw [← hne]
    refine key.mono ?_
    rintro e W' ⟨⟨rfl, hall⟩ | ⟨k, hk, rfl, hk2, hk3⟩, hB⟩
    · refine ⟨?_, hB⟩
      have : digs B9 a = digs B9 b := List.ext_getElem hne fun j h1 h2 => by
        have := hall j h1
        simpa [h1, h2] using this
      have e : a = b := by rw [← val_digs B9 a (by decide), this, val_digs B9 b (by decide)]
      subst e
      simp [cmpZ]
    · refine ⟨?_, hB⟩
      have hkb : k < (digs B9 b).length := hne ▸ hk
      have e1 : (digs B9 a)[k]?.getD 0 = (digs B9 a)[k] := by simp [hk]
      have e2 : (digs B9 b)[k]?.getD 0 = (digs B9 b)[k] := by simp [hkb]
      rw [e1, e2] at hk2
      rw [e1, e2, val_getElem_top B9 (by decide) a b k hk hne hk2 (fun j hj hkj => by
        have := hk3 j hkj hj
        simpa [hj, hne ▸ hj] using this)]
  · refine (compareNe_in Fence.wide 4 trivial trivial rfl (by omega) _ _ _ _ cap1 cap2 hne w (fun m a b W => callsIn_wide.2 (compare_any a b W))).mono ?_
    rintro e W' ⟨rfl, hB⟩
    refine ⟨?_, hB⟩
    have : cmpZ ((digs B9 a).length : Nat) ((digs B9 b).length : Nat) = cmpZ a b := by
      unfold cmpZ
      rcases Nat.lt_or_gt_of_ne hne with h | h
      · have := lt_of_len B9 a b (by decide) h
        rw [if_pos (by omega), if_pos (by omega)]
      · have := lt_of_len B9 b a (by decide) h
        rw [if_neg (by omega), if_neg (by omega), if_neg (by omega), if_neg (by omega)]
    rw [this]
end Go.Proofs.Ytldpdoakfacdbaa
