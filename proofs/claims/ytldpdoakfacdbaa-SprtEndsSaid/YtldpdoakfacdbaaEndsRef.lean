/- The reference's Ends of a valid trial, at this translation. -/
import Derived.Test.YtldpdoakfacdbaaEndsW
import Derived.Laws.MakeOwn
namespace Go.Proofs.Ytldpdoakfacdbaa
open Go.RowKit Go.Shelf Go.Great

/-- The cells of a slice of numbers. -/
def rowN (m : Nat) (r : Nat → Nat) : Array Value := ((List.range m).map fun j => Value.int .i64 (r j)).toArray
theorem rowN_size (m : Nat) (r : Nat → Nat) : (rowN m r).size = m := by simp [rowN]
theorem rowN_get (m : Nat) (r : Nat → Nat) (j : Nat) (h : j < m) : (rowN m r)[j]? = some (.int .i64 (r j)) := by simp [rowN, h]
theorem rowN_none (m : Nat) (r : Nat → Nat) (j : Nat) (h : ¬ j < m) : (rowN m r)[j]? = none := by rw [Array.getElem?_eq_none]; rw [rowN_size]; omega
theorem rowN_set (m : Nat) (r : Nat → Nat) (j x : Nat) : (rowN m r).setIfInBounds j (.int .i64 x) = rowN m fun i => if i = j then x else r i := by
  apply Array.ext_getElem?
  intro i
  rw [Array.getElem?_setIfInBounds]
  by_cases hm : i < m
  · rw [rowN_get _ _ i hm, rowN_get _ _ i hm]
    by_cases h : j = i
    · subst h; rw [if_pos rfl, if_pos (by rw [rowN_size]; exact hm), if_pos rfl]
    · rw [if_neg h, if_neg (fun e => h e.symm)]
  · rw [rowN_none _ _ i hm, rowN_none _ _ i hm]
    by_cases h : j = i
    · subst h; rw [if_pos rfl, if_neg (by rw [rowN_size]; exact hm)]
    · rw [if_neg h]
theorem rowN_ext (m : Nat) (r r' : Nat → Nat) (e : ∀ j, j < m → r j = r' j) : rowN m r = rowN m r' := by
  apply Array.ext
  · simp [rowN]
  · intro i h1 h2
    simp only [rowN, List.getElem_toArray, List.getElem_map, List.getElem_range]
    rw [e i (by simpa [rowN] using h1)]
/-- The block G is a slice's row of m numbers. -/
def IsNs (W : World) (G m : Nat) (r : Nat → Nat) : Prop := W.heap[G]? = some (.cells (rowN m r) 3 (0, 0))
theorem IsNs.lt {W : World} {G m : Nat} {r : Nat → Nat} (h : IsNs W G m r) : G < W.heap.size := (Array.getElem?_eq_some_iff.1 h).1
theorem IsNs.cell {W : World} {G m : Nat} {r : Nat → Nat} (h : IsNs W G m r) (j : Nat) (hj : j < m) : W.cell? ⟨G, j, none⟩ = some (.int .i64 (r j)) := by
  unfold IsNs at h
  simp only [World.cell?, h]
  exact rowN_get m r j hj
theorem IsNs.free {W : World} {G m : Nat} {r : Nat → Nat} (h : IsNs W G m r) (j : Nat) : W.frozen? ⟨G, j, none⟩ = false := by
  unfold IsNs at h
  simp [World.frozen?, h]
theorem IsNs.below {W W' : World} {G B m : Nat} {r : Nat → Nat} (h : IsNs W G m r) (hB : Below B W W') (hG : G < B) : IsNs W' G m r := (hB.block G hG).trans h
theorem IsNs.alloc {W : World} {G m : Nat} {r : Nat → Nat} (h : IsNs W G m r) (o : Obj) : IsNs (W.alloc o) G m r := (Below.heap_alloc W o G h.lt).trans h
theorem IsNs.set {W : World} {G m : Nat} {r : Nat → Nat} (h : IsNs W G m r) (j x : Nat) : IsNs (W.setCell ⟨G, j, none⟩ (.int .i64 x)) G m (fun i => if i = j then x else r i) := by
  unfold IsNs at h ⊢
  rw [setCell_eq_setRow W G j (rowN m r) 3 (0, 0) _ h, rowN_set]
  exact setRow_heap W G (rowN m r) _ 3 _ h
theorem IsNs.other {W : World} {G m : Nat} {r : Nat → Nat} (h : IsNs W G m r) {g : Nat} (hne : G ≠ g) (o : Nat) (v : Value) : IsNs (W.setCell ⟨g, o, none⟩ v) G m r := (Below.heap_setCell W ⟨g, o, none⟩ v G hne).trans h
theorem IsNs.grown {W W' : World} {G m : Nat} {r : Nat → Nat} {row : Option Nat} (h : IsNs W G m r) (hg : W.grownBy W' row) (hne : some G ≠ row) : IsNs W' G m r := (hg.block G h.lt hne).trans h
theorem isNs_made (W : World) (m : Nat) (r : Nat → Nat) : IsNs (W.alloc (.cells (rowN m r) 3)) W.heap.size m r := heap_alloc_new _ _
theorem IsNs.ext {W : World} {G m : Nat} {r r' : Nat → Nat} (h : IsNs W G m r) (e : ∀ j, j < m → r j = r' j) : IsNs W G m r' := by
  unfold IsNs at h ⊢
  rw [← rowN_ext m r r' e]; exact h
theorem own_ns_ne {W : World} {B : Nat} {v : Value} {m : Nat} {xs : List Value} (h : W.ownsRow B 44 4 v m xs) {N k : Nat} {r : Nat → Nat} (hr : IsNs W N k r) {g : Nat} (hg : v.ownBlock = some g) : g ≠ N := by
  rintro rfl
  rcases h.2 with ⟨rfl, _⟩ | ⟨g', cap, cur, rfl, _, hh, _⟩
  · simp [Value.ownBlock] at hg
  · simp [Value.ownBlock] at hg
    subst hg
    unfold IsNs at hr
    rw [hr] at hh
    simp at hh
theorem madeN (m : Nat) : madeCells (Value.int .i64 0).cells m = rowN m fun _ => 0 := by
  apply Array.ext
  · simp [madeCells, rowN]
  · intro i h1 h2
    simp [madeCells, rowN, Value.cells, Nat.mod_one]
theorem run_mk54 (W : World) (m : Nat) (hm : m ≤ 1000) : (Instr.makeSlice 54 (.int .i64 (m : Int)) (.int .i64 (m : Int))).run Try.prog W = .ok (.slice (some ⟨W.heap.size, 0, none⟩) m m) (W.alloc (.cells (rowN m fun _ => 0) 3)) := by
  obtain ⟨i0, hi, hz0, hz1, hz2⟩ := info_parts info3
  have h := run_make (P := Try.prog) W 54 3 i0 (.int .i64 0) Try.underlying54 hi hz0 .i64 .i64 m m (by omega) (Int.le_refl _) (by rw [hz2]; omega) (by omega)
  rw [hz1, Nat.mul_one, madeN] at h
  simpa using h

set_option maxRecDepth 100000 in
set_option maxHeartbeats 2000000 in
theorem refEnds_good (t : Tr) (ht : t.Ok) (n : Nat) (hn : n ≤ 30) (w : World) :
    Calls Try.prog 20 #[trialV t.gn t.gd t.bn t.bd t.an t.ad t.en t.ed, .int .i64 n] w fun e w' => ∃ v, e = .returned (.tuple #[v, .int .i64 0]) ∧ IsEnds w' v (outsE t.dec n (n + 1)) ∧ Below w.heap.size w w' := by
  have HK := Lib.hid (chk_ok ht)
  obtain ⟨i0, hi, hz0, hz1, hz2⟩ := info_parts info44
  have k0 := L8.fresh t.gn t.gd t.bn t.bd t.an t.ad t.en t.ed w 25
  have hB := (Below.refl w.heap.size w).alloc (Nat.le_refl _) (.cells #[.int .i64 t.gn, .int .i64 t.gd, .int .i64 t.bn, .int .i64 t.bd, .int .i64 t.an, .int .i64 t.ad, .int .i64 t.en, .int .i64 t.ed] 25)
  go_enter Try.func20, Try.ntmps20
  go_wp2_with fail
  ((with_reducible refine (refCheck_any _ _ _ _ _ _ _ _ _).mono ?_); rintro e w1 ⟨he, hb1⟩)
  rw [HK.out] at he
  subst he
  have k1 := k0.below hb1 k0.lt
  have B1 := hB.trans (hb1.mono hB.size)
  have r1 := isNs_made w1 1 (rowE t.dec n 0)
  have k2 := k1.allocE (.cells #[.int .i64 1] 3)
  have B2 := B1.alloc B1.size (.cells #[.int .i64 1] 3)
  have R2 : Hid (IsNs (w1.alloc (.cells #[.int .i64 1] 3)) w1.heap.size 1 (rowE t.dec n 0)) := Lib.hid r1
  have K2 := Lib.hid k2
  have lt1 := k1.lt
  obtain ⟨B0, leB, gtB⟩ : ∃ b, b ≤ w1.heap.size + 1 ∧ w1.heap.size < b := ⟨w1.heap.size + 1, Nat.le_refl _, Nat.lt_succ_self _⟩
  clear k0 k1 k2 hb1 hB B1 r1
  go_wp2
  go_loopw [7, 8, 9] (fun s7 s8 s9 wr => ∃ (k m G : Nat) (v : Value), k ≤ n + 1 ∧ s9 = .int .i64 k ∧ v = s7 ∧ s8 = .slice (some ⟨G, 0, none⟩) (k + 1) (k + 1) ∧ w.heap.size < G ∧ Hid (wr.ownsRow B0 44 4 v m (endCells (outsE t.dec n k))) ∧ Hid (m = (outsE t.dec n k).length) ∧ Hid (IsNs wr G (k + 1) (rowE t.dec n k)) ∧ Hid (L8 t.gn t.gd t.bn t.bd t.an t.ad t.en t.ed w.heap.size wr) ∧ B0 ≤ wr.heap.size ∧ Below w.heap.size w wr) (fun _ _ s9 _ => n + 1 - (intOf s9).toNat)
  case atStart => exact ⟨0, 0, _, _, by omega, rfl, rfl, rfl, lt1, Lib.hid (World.ownsRow_nil _ _ _ _), rfl, R2, K2, by simpa using leB, B2⟩
  case round =>
    obtain ⟨k, m, G, v, hk, rfl, rfl, rfl, gG, hown, hm, hr, hl, hsz, hB⟩ := hrel
    by_cases hlt : k < n + 1
    · have hle : k ≤ n := by omega
      have hmk := run_mk54 wr (k + 2) (by omega)
      have hc2 : ((k + 2 : Nat) : Int) = (k : Int) + 2 := by omega
      rw [hc2] at hmk
      have O3 := Lib.hid (ownE_kept hown.out ((Below.refl _ wr).alloc (Nat.le_refl _) (.cells (rowN (k + 2) fun _ => 0) 3)))
      have R3 := Lib.hid (hr.out.alloc (.cells (rowN (k + 2) fun _ => 0) 3))
      have K3 := Lib.hid (hl.out.allocE (.cells (rowN (k + 2) fun _ => 0) 3))
      have N3 := Lib.hid ((isNs_made wr (k + 2) fun _ => 0).ext (r' := nextE t.dec n k (rowE t.dec n k) 0) fun j _ => (nextE_zero _ _ _ _ _).symm)
      have B3 := hB.alloc hB.size (.cells (rowN (k + 2) fun _ => 0) 3)
      have M3 : Hid (m = (outsE t.dec n k ++ outE t.dec n k (rowE t.dec n k) 0).length) := Lib.hid (by rw [hm.out]; simp [outE])
      have O4 : Hid ((wr.alloc (.cells (rowN (k + 2) fun _ => 0) 3)).ownsRow B0 44 4 v m (endCells (outsE t.dec n k ++ outE t.dec n k (rowE t.dec n k) 0))) := Lib.hid (by have := O3.out; simpa [outE] using this)
      have gN : w.heap.size < wr.heap.size := Nat.lt_of_lt_of_le gG (Nat.le_of_lt hr.out.lt)
      have neN : G ≠ wr.heap.size := Nat.ne_of_lt hr.out.lt
      have szN : wr.heap.size < (wr.alloc (.cells (rowN (k + 2) fun _ => 0) 3)).heap.size := by simp
      obtain ⟨N, hN⟩ : ∃ N, N = wr.heap.size := ⟨_, rfl⟩
      have HN := Lib.hid hN
      have NG : Hid (G ≠ N) := Lib.hid (by rw [hN]; exact neN)
      have gN' : w.heap.size < N := by omega
      have szN' : N < (wr.alloc (.cells (rowN (k + 2) fun _ => 0) 3)).heap.size := by rw [hN]; exact szN
      have bsz : B0 ≤ (wr.alloc (.cells (rowN (k + 2) fun _ => 0) 3)).heap.size := by simp; omega
      rw [← hN] at N3 hmk
      generalize hW3 : wr.alloc (.cells (rowN (k + 2) fun _ => 0) 3) = w3 at hmk O4 R3 K3 N3 B3 szN' bsz
      clear hown hr hl O3 hm hc2 hB hsz gN neN szN hN hW3
      go_wp2
      go_loopw [7, 11] (fun s7 s11 wr => ∃ (p m' : Nat) (v' : Value), p ≤ k + 1 ∧ s11 = .int .i64 p ∧ v' = s7 ∧ Hid (wr.ownsRow B0 44 4 v' m' (endCells (outsE t.dec n k ++ outE t.dec n k (rowE t.dec n k) p))) ∧ Hid (m' = (outsE t.dec n k ++ outE t.dec n k (rowE t.dec n k) p).length) ∧ Hid (IsNs wr G (k + 1) (rowE t.dec n k)) ∧ Hid (IsNs wr N (k + 2) (nextE t.dec n k (rowE t.dec n k) p)) ∧ Hid (L8 t.gn t.gd t.bn t.bd t.an t.ad t.en t.ed w.heap.size wr) ∧ B0 ≤ wr.heap.size ∧ N < wr.heap.size ∧ Below w.heap.size w wr) (fun _ s11 _ => k + 1 - (intOf s11).toNat)
      case atStart => exact ⟨0, m, v, by omega, rfl, rfl, O4, M3, R3, N3, K3, bsz, szN', B3⟩
      case round =>
        obtain ⟨p, m', v', hp, rfl, rfl, ho, hm', hrw, hnx, hl8, hsi, hni, hBi⟩ := hrel
        by_cases hpk : p < k + 1
        · have hpk' : p ≤ k := by omega
          have hpk2 : p < k + 2 := by omega
          have hpk3 : p + 1 < k + 2 := by omega
          have c0 := hrw.out.cell p (by omega)
          by_cases h0 : rowE t.dec n k p = 0
          · rw [h0] at c0
            have O5 : Hid (wr.ownsRow B0 44 4 v' m' (endCells (outsE t.dec n k ++ outE t.dec n k (rowE t.dec n k) (p + 1)))) := Lib.hid (by rw [outE, if_pos h0, List.append_nil]; exact ho.out)
            have M5 : Hid (m' = (outsE t.dec n k ++ outE t.dec n k (rowE t.dec n k) (p + 1)).length) := Lib.hid (by rw [outE, if_pos h0, List.append_nil]; exact hm'.out)
            have N5 : Hid (IsNs wr N (k + 2) (nextE t.dec n k (rowE t.dec n k) (p + 1))) := Lib.hid (hnx.out.ext fun j _ => (nextE_skip _ _ _ _ _ _ (by unfold keepE; rw [h0]; simp)).symm)
            clear ho hm' hnx
            go_wp2
            go_roundw
            case rel => exact ⟨p + 1, m', _, by omega, by go_num, rfl, O5, M5, hrw, N5, hl8, hsi, hni, hBi⟩
            case measure => simp [intOf]; omega
          · obtain ⟨x, hx⟩ : ∃ x, rowE t.dec n k p = x := ⟨_, rfl⟩
            obtain ⟨d, hd⟩ : ∃ d, t.dec p (k - p) = d := ⟨_, rfl⟩
            rw [hx] at c0 h0
            have HX := Lib.hid hx
            have HD := Lib.hid hd
            have hx0 : 0 < x := by omega
            have hxb : x ≤ 2147483648 := by rw [← hx]; exact Nat.le_trans (rowE_le t.dec n k p) (Nat.pow_le_pow_right (by omega) (by omega : k ≤ 31))
            have hml := hm'.out
            have hmb : m' ≤ 2000 := by
              rw [hml, List.length_append]
              have h1 := outsE_len t.dec n k
              have h2 := outE_len t.dec n k (rowE t.dec n k) p
              have h3 := Nat.mul_le_mul (show k ≤ 30 by omega) (show k + 1 ≤ 31 by omega)
              omega
            clear hx hd h0 hml
            obtain ⟨d0, d1, d2, d3, d4, d5, d6, d7, dlt⟩ := hl8.out
            go_wp2_with fail
            ((with_reducible refine (refDecide_any t ht _ _ p (k - p) (by omega) (by omega) (by omega) (by omega) d HD.out _).mono ?_); rintro e w5 ⟨rfl, hb5⟩)
            clear d0 d1 d2 d3 d4 d5 d6 d7 dlt c0
            have o5 := Lib.hid (ownE_kept ho.out hb5)
            have r5 := Lib.hid (hrw.out.below hb5 hrw.out.lt)
            have n5 := Lib.hid (hnx.out.below hb5 hnx.out.lt)
            have k5 := Lib.hid (hl8.out.below hb5 hl8.out.lt)
            have B5 := hBi.trans (hb5.mono hBi.size)
            have s5 := hb5.size
            have c5 := r5.out.cell p (by omega)
            rw [HX.out] at c5
            clear ho hrw hnx hl8 hb5
            by_cases hd0 : d = 0
            · subst hd0
              by_cases hkn : k = n
              · subst hkn
                have OE : outE t.dec k k (rowE t.dec k k) (p + 1) = outE t.dec k k (rowE t.dec k k) p ++ [⟨p, k - p, 0, x⟩] := by rw [outE, HX.out, HD.out, if_neg (by omega), if_pos (.inr rfl)]
                have NE : ∀ j, nextE t.dec k k (rowE t.dec k k) p j = nextE t.dec k k (rowE t.dec k k) (p + 1) j := fun j => (nextE_skip _ _ _ _ _ _ (by unfold keepE; rw [HD.out, if_pos (.inr rfl)])).symm
                have HOE := Lib.hid OE
                have HNE := Lib.hid NE
                clear OE NE
                go_wp2_with (at_builtin; refine wpList_append_own _ rfl _ _ 37 rfl B0 44 i0 (.agg #[.int .i64 0, .int .i64 0, .int .i64 0, .int .i64 0]) 4 32 Try.underlying37 hi hz0 hz1 hz2 rfl (by decide) _ m' _ rfl (o5.out.alloc _) ⟨w5.heap.size, 0, none⟩ 1 1 [.int .i64 p, .int .i64 ((k : Int) - p), .int .i64 0, .int .i64 x] rfl rfl ?_ ?_ ?_ ?_ ?_ ?_)
                all_goals try exact cell_four_new _ _ _ _ _ _
                all_goals try (intro u hu; simp at hu; rcases hu with rfl | rfl | rfl | rfl <;> rfl)
                all_goals try (unfold maxLen; omega)
                all_goals try omega
                all_goals try (simp; omega)
                all_goals intro v2 w6 hown' hgrow _
                all_goals have o6 := Lib.hid hown'
                all_goals have r6 := Lib.hid ((r5.out.alloc _).grown hgrow (fun e => own_ns_ne o5.out r5.out e.symm rfl))
                all_goals have n6 := Lib.hid ((n5.out.alloc _).grown hgrow (fun e => own_ns_ne o5.out n5.out e.symm rfl))
                all_goals have B6 := (B5.alloc B5.size _).grown hgrow (by have := B5.size; simp; omega) (fun k hk => by have := (o5.out.lt k hk).1; omega)
                all_goals have k6 := Lib.hid ((k5.out.allocE _).grownE hgrow (fun e => by have := (o5.out.lt _ e.symm).1; omega))
                all_goals have g6 : w5.heap.size + 1 ≤ w6.heap.size := by have := hgrow.size; simpa using this
                all_goals clear hgrow hown'
                have hc : ((k : Int) - p) = ((k - p : Nat) : Int) := by omega
                have O7 : Hid (w6.ownsRow B0 44 4 v2 (m' + 1) (endCells (outsE t.dec k k ++ outE t.dec k k (rowE t.dec k k) (p + 1)))) := Lib.hid (by
                  have h := o6.out
                  rw [hc] at h
                  rw [HOE.out, ← List.append_assoc, endCells_append]
                  exact h)
                have M7 : Hid (m' + 1 = (outsE t.dec k k ++ outE t.dec k k (rowE t.dec k k) (p + 1)).length) := Lib.hid (by
                  rw [HOE.out, ← List.append_assoc, List.length_append, ← hm'.out]; rfl)
                have N7 := Lib.hid (n6.out.ext fun j _ => HNE.out j)
                clear o6 n6 hc o5 r5 n5 k5 c5
                go_wp2
                go_roundw
                case rel => exact ⟨p + 1, m' + 1, _, by omega, by go_num, rfl, O7, M7, r6, N7, k6, by omega, by omega, B6⟩
                case measure => simp [intOf]; omega
              · obtain ⟨a, ha⟩ : ∃ a, nextE t.dec n k (rowE t.dec n k) p p = a := ⟨_, rfl⟩
                obtain ⟨b, hb⟩ : ∃ b, nextE t.dec n k (rowE t.dec n k) p (p + 1) = b := ⟨_, rfl⟩
                have pow31 : 2 ^ (k + 1) ≤ 2147483648 := Nat.pow_le_pow_right (by omega) (by omega : k + 1 ≤ 31)
                have ab : a ≤ 2147483648 := by rw [← ha]; exact Nat.le_trans (nextE_le t.dec n k p p) pow31
                have bb : b ≤ 2147483648 := by rw [← hb]; exact Nat.le_trans (nextE_le t.dec n k p (p + 1)) pow31
                have ca := n5.out.cell p (by omega)
                have fa := n5.out.free p
                rw [ha] at ca
                have HA := Lib.hid ha
                have HBB := Lib.hid hb
                clear ha hb pow31
                go_upto_region 19 with fail
                go_cut [80] (fun s80 W => W = w5.drew.setCell ⟨N, p, none⟩ (.int .i64 ((a + x : Nat) : Int)))
                case first =>
                  go_region
                  all_goals (go_wp2; go_meet)
                  all_goals rfl
                case rest =>
                  have n8 : IsNs wc N (k + 2) (fun i => if i = p then a + x else nextE t.dec n k (rowE t.dec n k) p i) := by rw [hcut]; exact (show IsNs w5.drew N (k + 2) _ from n5.out).set p (a + x)
                  have r8 : IsNs wc G (k + 1) (rowE t.dec n k) := by rw [hcut]; exact (show IsNs w5.drew G (k + 1) _ from r5.out).other NG.out p _
                  have hne : ∀ g, (_ : Value).ownBlock = some g → g ≠ N := fun g hg => own_ns_ne o5.out n5.out hg
                  have o8 := own_setCell (show w5.drew.ownsRow _ _ _ _ _ _ from o5.out) hne p (.int .i64 ((a + x : Nat) : Int))
                  rw [← hcut] at o8
                  have B8 : Below w.heap.size w wc := by rw [hcut]; exact B5.drew.setCell (p := ⟨N, p, none⟩) (Nat.le_of_lt gN') _
                  have k8 : L8 t.gn t.gd t.bn t.bd t.an t.ad t.en t.ed w.heap.size wc := by rw [hcut]; exact L8.setC (show L8 _ _ _ _ _ _ _ _ _ w5.drew from ⟨k5.out.c0, k5.out.c1, k5.out.c2, k5.out.c3, k5.out.c4, k5.out.c5, k5.out.c6, k5.out.c7, k5.out.lt⟩) (Nat.ne_of_lt gN') _ _
                  have s8 : wc.heap.size = w5.heap.size := by rw [hcut]; exact size_setCell w5.drew _ _
                  have cb := n8.cell (p + 1) (by omega)
                  have fb := n8.free (p + 1)
                  have cg := r8.cell p (by omega)
                  rw [if_neg (by omega), HBB.out] at cb
                  rw [HX.out] at cg
                  have O9 : Hid ((wc.drew.setCell ⟨N, p + 1, none⟩ (.int .i64 ((b + x : Nat) : Int))).ownsRow B0 44 4 _ m' (endCells (outsE t.dec n k ++ outE t.dec n k (rowE t.dec n k) (p + 1)))) := Lib.hid (by
                    rw [outE, HX.out, HD.out, if_neg (by omega), if_neg (by omega), List.append_nil]
                    exact own_setCell (show wc.drew.ownsRow _ _ _ _ _ _ from o8) hne _ _)
                  have M9 : Hid (m' = (outsE t.dec n k ++ outE t.dec n k (rowE t.dec n k) (p + 1)).length) := Lib.hid (by
                    rw [outE, HX.out, HD.out, if_neg (by omega), if_neg (by omega), List.append_nil]; exact hm'.out)
                  have R9 := Lib.hid ((show IsNs wc.drew G (k + 1) _ from r8).other NG.out (p + 1) (.int .i64 ((b + x : Nat) : Int)))
                  have N9 : Hid (IsNs (wc.drew.setCell ⟨N, p + 1, none⟩ (.int .i64 ((b + x : Nat) : Int))) N (k + 2) (nextE t.dec n k (rowE t.dec n k) (p + 1))) := Lib.hid (((show IsNs wc.drew N (k + 2) _ from n8).set (p + 1) (b + x)).ext fun j _ => by
                    have hk : keepE t.dec n k (rowE t.dec n k) p = x := by unfold keepE; rw [HD.out, HX.out, if_neg (by omega)]
                    rw [nextE_succ, hk]
                    by_cases e1 : j = p + 1
                    · subst e1; rw [if_pos rfl, if_neg (by omega), if_pos rfl, HBB.out]; omega
                    · rw [if_neg e1, if_neg e1]
                      by_cases e2 : j = p
                      · subst e2; rw [if_pos rfl, if_pos rfl, HA.out]; omega
                      · rw [if_neg e2, if_neg e2]; omega)
                  have K9 := Lib.hid (L8.setC (show L8 t.gn t.gd t.bn t.bd t.an t.ad t.en t.ed w.heap.size wc.drew from ⟨k8.c0, k8.c1, k8.c2, k8.c3, k8.c4, k8.c5, k8.c6, k8.c7, k8.lt⟩) (Nat.ne_of_lt gN') (p + 1) (.int .i64 ((b + x : Nat) : Int)))
                  have B9 := B8.drew.setCell (p := ⟨N, p + 1, none⟩) (Nat.le_of_lt gN') (.int .i64 ((b + x : Nat) : Int))
                  have s9 : (wc.drew.setCell ⟨N, p + 1, none⟩ (.int .i64 ((b + x : Nat) : Int))).heap.size = w5.heap.size := (size_setCell wc.drew _ _).trans s8
                  clear n8 r8 o8 k8 hcut o5 r5 n5 k5 c5 ca fa hne
                  go_upto_region 20 with fail
                  go_region
                  all_goals go_wp2
                  all_goals go_roundw
                  all_goals first
                    | exact ⟨p + 1, m', _, by omega, by go_num, rfl, O9, M9, R9, N9, K9, Nat.le_trans (show B0 ≤ w5.heap.size by omega) (Nat.le_of_eq s9.symm), Nat.lt_of_lt_of_le (show N < w5.heap.size by omega) (Nat.le_of_eq s9.symm), B9⟩
                    | (simp [intOf]; omega)
            · have hdn := hd0
              have OE : outE t.dec n k (rowE t.dec n k) (p + 1) = outE t.dec n k (rowE t.dec n k) p ++ [⟨p, k - p, d, x⟩] := by rw [outE, HX.out, HD.out, if_neg (by omega), if_pos (.inl hd0)]
              have NE : ∀ j, nextE t.dec n k (rowE t.dec n k) p j = nextE t.dec n k (rowE t.dec n k) (p + 1) j := fun j => (nextE_skip _ _ _ _ _ _ (by unfold keepE; rw [HD.out, if_pos (.inl hd0)])).symm
              have HOE := Lib.hid OE
              have HNE := Lib.hid NE
              clear OE NE
              go_wp2_with (at_builtin; refine wpList_append_own _ rfl _ _ 37 rfl B0 44 i0 (.agg #[.int .i64 0, .int .i64 0, .int .i64 0, .int .i64 0]) 4 32 Try.underlying37 hi hz0 hz1 hz2 rfl (by decide) _ m' _ rfl (o5.out.alloc _) ⟨w5.heap.size, 0, none⟩ 1 1 [.int .i64 p, .int .i64 ((k : Int) - p), .int .i64 d, .int .i64 x] rfl rfl ?_ ?_ ?_ ?_ ?_ ?_)
              all_goals try exact cell_four_new _ _ _ _ _ _
              all_goals try (intro u hu; simp at hu; rcases hu with rfl | rfl | rfl | rfl <;> rfl)
              all_goals try (unfold maxLen; omega)
              all_goals try omega
              all_goals try (simp; omega)
              all_goals intro v2 w6 hown' hgrow _
              all_goals have o6 := Lib.hid hown'
              all_goals have r6 := Lib.hid ((r5.out.alloc _).grown hgrow (fun e => own_ns_ne o5.out r5.out e.symm rfl))
              all_goals have n6 := Lib.hid ((n5.out.alloc _).grown hgrow (fun e => own_ns_ne o5.out n5.out e.symm rfl))
              all_goals have B6 := (B5.alloc B5.size _).grown hgrow (by have := B5.size; simp; omega) (fun k hk => by have := (o5.out.lt k hk).1; omega)
              all_goals have k6 := Lib.hid ((k5.out.allocE _).grownE hgrow (fun e => by have := (o5.out.lt _ e.symm).1; omega))
              all_goals have g6 : w5.heap.size + 1 ≤ w6.heap.size := by have := hgrow.size; simpa using this
              all_goals clear hgrow hown'
              have hc : ((k : Int) - p) = ((k - p : Nat) : Int) := by omega
              have O7 : Hid (w6.ownsRow B0 44 4 v2 (m' + 1) (endCells (outsE t.dec n k ++ outE t.dec n k (rowE t.dec n k) (p + 1)))) := Lib.hid (by
                have h := o6.out
                rw [hc] at h
                rw [HOE.out, ← List.append_assoc, endCells_append]
                exact h)
              have M7 : Hid (m' + 1 = (outsE t.dec n k ++ outE t.dec n k (rowE t.dec n k) (p + 1)).length) := Lib.hid (by
                rw [HOE.out, ← List.append_assoc, List.length_append, ← hm'.out]; rfl)
              have N7 := Lib.hid (n6.out.ext fun j _ => HNE.out j)
              clear o6 n6 hc o5 r5 n5 k5 c5
              go_wp2
              go_roundw
              case rel => exact ⟨p + 1, m' + 1, _, by omega, by go_num, rfl, O7, M7, r6, N7, k6, by omega, by omega, B6⟩
              case measure => simp [intOf]; omega
        · obtain rfl : p = k + 1 := by omega
          clear hpk
          go_wp2
          go_roundw
          case rel => exact ⟨k + 1, m', N, _, by omega, by go_num, rfl, rfl, gN', ho, hm', hnx, hl8, hsi, hBi⟩
          case measure => simp [intOf]; omega
    · obtain rfl : k = n + 1 := by omega
      have hE := ends_own (by rw [← hm.out]; exact hown.out) (Nat.le_trans (outsE_len t.dec n (n + 1)) (Nat.le_trans (Nat.mul_le_mul (show n + 1 ≤ 31 by omega) (show n + 1 + 1 ≤ 32 by omega)) (by omega)))
      have HE := Lib.hid hE
      clear hE hown hm hr hl
      go_wp2
      go_ret2
      exact ⟨_, rfl, HE.out, hB⟩
end Go.Proofs.Ytldpdoakfacdbaa
