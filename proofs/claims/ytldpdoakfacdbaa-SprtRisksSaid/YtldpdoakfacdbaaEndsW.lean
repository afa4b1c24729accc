/- Ends of a valid trial, at this translation. -/
import Derived.Test.YtldpdoakfacdbaaEndsRow
import Derived.Deep.DeepCutAuto
namespace Go.Proofs.Ytldpdoakfacdbaa
open Go.RowKit Go.Shelf Go.Great

/-- The cells of ends. -/
def endCells (L : List EndR) : List Value := L.flatMap fun e => [.int .i64 e.p, .int .i64 e.f, .int .i64 e.d, .int .i64 e.c]
theorem endCells_append (L R : List EndR) : endCells (L ++ R) = endCells L ++ endCells R := by simp [endCells]

theorem endCells_length (L : List EndR) : (endCells L).length = L.length * 4 := by
  induction L with
  | nil => rfl
  | cons e L ih => simp only [endCells, List.flatMap_cons, List.length_append, List.length_cons, List.length_nil] at ih ⊢; omega
theorem endCells_at (L : List EndR) (j : Nat) (h : j < L.length) : (endCells L)[j * 4]? = some (.int .i64 L[j].p) ∧ (endCells L)[j * 4 + 1]? = some (.int .i64 L[j].f) ∧ (endCells L)[j * 4 + 2]? = some (.int .i64 L[j].d) ∧ (endCells L)[j * 4 + 3]? = some (.int .i64 L[j].c) := by
  induction L generalizing j with
  | nil => simp at h
  | cons e L ih =>
    cases j with
    | zero => simp [endCells]
    | succ j =>
      have i := ih j (by simpa using h)
      have e4 : ∀ o, (endCells (e :: L))[(j + 1) * 4 + o]? = (endCells L)[j * 4 + o]? := fun o => by
        show ([_, _, _, _] ++ endCells L)[_]? = _
        rw [List.getElem?_append_right (by simp; omega)]
        congr 1; simp; omega
      exact ⟨(e4 0).trans i.1, (e4 1).trans i.2.1, (e4 2).trans i.2.2.1, (e4 3).trans i.2.2.2⟩
theorem ends_own {W : World} {B : Nat} {v : Value} {L : List EndR} (h : W.ownsRow B 44 4 v L.length (endCells L)) (hL : L.length ≤ 1000) : IsEnds W v L := by
  rcases h.2 with ⟨rfl, h0⟩ | ⟨g, cap, cur, rfl, hg, hh, h3, h4, _⟩
  · have : L = [] := List.eq_nil_of_length_eq_zero h0
    subst this
    exact isEnds_nil W
  · refine ⟨_, cap, rfl, hL, h3, .inr ⟨g, 0, rfl, (h.lt g rfl).2, fun j hj => ?_⟩⟩
    obtain ⟨a, b, c, d⟩ := endCells_at L j hj
    have key : ∀ o, (⟨g, 0, none⟩ : Addr).add o = ⟨g, 0 + o, none⟩ := fun o => by
      rcases Nat.eq_zero_or_pos o with rfl | h0
      · simp [Addr.add]
      · simp [Addr.add, show o ≠ 0 by omega]
    have f := fun o u hu => (congrArg W.cell? (key o)).symm.trans (h.cells (g := g) rfl o u hu)
    exact ⟨f _ _ a, f _ _ b, f _ _ c, f _ _ d⟩
theorem outE_len (dec : Nat → Nat → Int) (n k : Nat) (row : Nat → Nat) (p : Nat) : (outE dec n k row p).length ≤ p := by
  induction p with
  | zero => simp [outE]
  | succ p ih =>
    rw [outE, List.length_append]
    split
    · simp; omega
    · split <;> simp <;> omega
theorem outsE_len (dec : Nat → Nat → Int) (n k : Nat) : (outsE dec n k).length ≤ k * (k + 1) := by
  induction k with
  | zero => simp [outsE]
  | succ k ih =>
    have := outE_len dec n k (rowE dec n k) (k + 1)
    have h : (k + 1) * (k + 1 + 1) = k * (k + 1) + 2 * (k + 1) := by rw [← Nat.add_mul, Nat.mul_comm]
    rw [outsE, List.length_append, h]
    omega
theorem below_put {B g : Nat} {w0 w : World} (hb : Below B w0 w) (hBg : B ≤ g) (cs : Array Value) : Below B w0 (w.setRow g cs) :=
  hb.trans ⟨rfl, rfl, rfl, by simp [World.setRow], fun k hk => setRow_other w g k cs (by omega)⟩
theorem ownE_kept {W W' : World} {B : Nat} {v : Value} {n : Nat} {xs : List Value} (h : W.ownsRow B 44 4 v n xs) (hB : Below W.heap.size W W') : W'.ownsRow B 44 4 v n xs := by
  refine ⟨h.1, h.2.imp id ?_⟩
  rintro ⟨g, cap, cur, e, hg, hh, h3⟩
  exact ⟨g, cap, cur, e, hg, (hB.block g (h.lt g (by rw [e]; rfl)).2).trans hh, h3⟩
theorem own_setRow {W : World} {B : Nat} {v : Value} {n : Nat} {xs : List Value} (h : W.ownsRow B 44 4 v n xs) {G : Nat} (hne : ∀ g, v.ownBlock = some g → g ≠ G) (cs : Array Value) : (W.setRow G cs).ownsRow B 44 4 v n xs := by
  refine ⟨h.1, h.2.imp id ?_⟩
  rintro ⟨g, cap, cur, e, hg, hh, h3⟩
  exact ⟨g, cap, cur, e, hg, (setRow_other W G g cs (hne g (by rw [e]; rfl))).trans hh, h3⟩
theorem L8.setRow {gn gd bn bd an ad en ed : Int} {M : Nat} {W : World} (h : L8 gn gd bn bd an ad en ed M W) {g : Nat} (hne : M ≠ g) (cs : Array Value) : L8 gn gd bn bd an ad en ed M (W.setRow g cs) := by
  have c := fun o => World.cell?_of_block (a := ⟨M, o, none⟩) (setRow_other W g M cs hne)
  exact ⟨(c 0).trans h.c0, (c 1).trans h.c1, (c 2).trans h.c2, (c 3).trans h.c3, (c 4).trans h.c4, (c 5).trans h.c5, (c 6).trans h.c6, (c 7).trans h.c7, by simpa [World.setRow] using h.lt⟩
theorem under53 : Try.prog.underlying 53 = some (.array 32 3) := by kernel_rfl
theorem info44 : (Try.prog.info? 44).map (fun i => (i.zero, i.size, i.bytes)) = some (some (.agg #[.int .i64 0, .int .i64 0, .int .i64 0, .int .i64 0]), 4, 32) := by kernel_rfl
theorem cell_four_new (W : World) (a b c d : Value) (t : TypeId) : ∀ j u, [a, b, c, d][j]? = some u → (W.alloc (.cells #[a, b, c, d] t)).cell? ((⟨W.heap.size, 0, none⟩ : Addr).add j) = some u := by
  intro j u h
  match j, h with
  | 0, h => simpa [Addr.add, World.cell?_alloc_new] using h
  | 1, h => simpa [Addr.add, World.cell?_alloc_new] using h
  | 2, h => simpa [Addr.add, World.cell?_alloc_new] using h
  | 3, h => simpa [Addr.add, World.cell?_alloc_new] using h
  | j + 4, h => simp at h
theorem IsRow.grown {W W' : World} {G : Nat} {r : Nat → Nat} {row : Option Nat} (h : IsRow W G r) (hg : W.grownBy W' row) (hne : some G ≠ row) : IsRow W' G r := (hg.block G h.lt hne).trans h
theorem L8.allocE {gn gd bn bd an ad en ed : Int} {M : Nat} {W : World} (h : L8 gn gd bn bd an ad en ed M W) (o : Obj) : L8 gn gd bn bd an ad en ed M (W.alloc o) := h.below ((Below.refl _ _).alloc (Nat.le_refl _) o) h.lt
theorem L8.grownE {gn gd bn bd an ad en ed : Int} {M : Nat} {W W' : World} {row : Option Nat} (h : L8 gn gd bn bd an ad en ed M W) (hg : W.grownBy W' row) (hne : some M ≠ row) : L8 gn gd bn bd an ad en ed M W' := by
  have c := fun o => World.cell?_of_block (a := ⟨M, o, none⟩) (hg.block M h.lt hne)
  exact ⟨(c 0).trans h.c0, (c 1).trans h.c1, (c 2).trans h.c2, (c 3).trans h.c3, (c 4).trans h.c4, (c 5).trans h.c5, (c 6).trans h.c6, (c 7).trans h.c7, Nat.lt_of_lt_of_le h.lt hg.size⟩
theorem own_setCell {W : World} {B : Nat} {v : Value} {n : Nat} {xs : List Value} (h : W.ownsRow B 44 4 v n xs) {N : Nat} (hne : ∀ g, v.ownBlock = some g → g ≠ N) (o : Nat) (u : Value) : (W.setCell ⟨N, o, none⟩ u).ownsRow B 44 4 v n xs := by
  refine ⟨h.1, h.2.imp id ?_⟩
  rintro ⟨g, cap, cur, e, hg, hh, h3⟩
  exact ⟨g, cap, cur, e, hg, (Below.heap_setCell W ⟨N, o, none⟩ u g (hne g (by rw [e]; rfl))).trans hh, h3⟩
theorem L8.setC {gn gd bn bd an ad en ed : Int} {M : Nat} {W : World} (h : L8 gn gd bn bd an ad en ed M W) {N : Nat} (hne : M ≠ N) (i : Nat) (u : Value) : L8 gn gd bn bd an ad en ed M (W.setCell ⟨N, i, none⟩ u) := by
  have c := fun o => World.cell?_of_block (a := ⟨M, o, none⟩) (Below.heap_setCell W ⟨N, i, none⟩ u M hne)
  exact ⟨(c 0).trans h.c0, (c 1).trans h.c1, (c 2).trans h.c2, (c 3).trans h.c3, (c 4).trans h.c4, (c 5).trans h.c5, (c 6).trans h.c6, (c 7).trans h.c7, by simpa [World.setCell] using h.lt⟩
theorem size_setCell (W : World) (p : Addr) (u : Value) : (W.setCell p u).heap.size = W.heap.size := by simp [World.setCell]
theorem own_row_ne {W : World} {B : Nat} {v : Value} {m : Nat} {xs : List Value} (h : W.ownsRow B 44 4 v m xs) {N : Nat} {r : Nat → Nat} (hr : IsRow W N r) {g : Nat} (hg : v.ownBlock = some g) : g ≠ N := by
  rintro rfl
  rcases h.2 with ⟨rfl, _⟩ | ⟨g', cap, cur, rfl, _, hh, _⟩
  · simp [Value.ownBlock] at hg
  · simp [Value.ownBlock] at hg
    subst hg
    unfold IsRow at hr
    rw [hr] at hh
    simp at hh

set_option maxRecDepth 100000 in
set_option maxHeartbeats 2000000 in
theorem ends_good (t : Tr) (ht : t.Ok) (n : Nat) (hn : n ≤ 30) (w : World) :
    Calls Try.prog 19 #[trialV t.gn t.gd t.bn t.bd t.an t.ad t.en t.ed, .int .i64 n] w fun e w' => ∃ v, e = .returned (.tuple #[v, .int .i64 0]) ∧ IsEnds w' v (outsE t.dec n (n + 1)) ∧ Below w.heap.size w w' := by
  have HK := Lib.hid (chk_ok ht)
  obtain ⟨i0, hi, hz0, hz1, hz2⟩ := info_parts info44
  have k0 := L8.fresh t.gn t.gd t.bn t.bd t.an t.ad t.en t.ed w 25
  have hB := (Below.refl w.heap.size w).alloc (Nat.le_refl _) (.cells #[.int .i64 t.gn, .int .i64 t.gd, .int .i64 t.bn, .int .i64 t.bd, .int .i64 t.an, .int .i64 t.ad, .int .i64 t.en, .int .i64 t.ed] 25)
  go_enter Try.func19, Try.ntmps19
  go_wp2_with fail
  ((with_reducible refine (check_any _ _ _ _ _ _ _ _ _).mono ?_); rintro e w1 ⟨he, hb1⟩)
  rw [HK.out] at he
  subst he
  have k1 := k0.below hb1 k0.lt
  have B1 := hB.trans (hb1.mono hB.size)
  clear hb1 hB k0
  go_upto_region 6 with fail
  go_cut [7] (fun s7 W => s7 = .pointer (some ⟨w1.heap.size, 0, none⟩) ∧ IsRow W w1.heap.size (rowE t.dec n 0) ∧ Below w1.heap.size w1 W)
  case first =>
    apply wp_region_lit
    refine wpList_buildTo rfl 53 _ rfl (some 24) rfl (rowA (rowE t.dec n 0)) (by simpa [Act.eval, rowE] using built_first) ?_
    refine wpList_allocTo rfl (some 7) rfl (.pointer (some ⟨w1.heap.size, 0, none⟩)) (.cells (rowA fun _ => 0) 53) (by exact run_alloc53 _ _ _ rfl) ?_
    refine wpList_store_rowTo rfl 53 _ _ rfl rfl w1.heap.size (rowA (rowE t.dec n 0)) rfl rfl 53 (rowA fun _ => 0) (heap_alloc_new _ _) (by rw [rowA_size]; exact info53) (by simp only [rowA_size]) (rowA_one _) ?_
    apply wpList_nil
    go_wp2
    go_meet
    exact ⟨rfl, (isRow_made w1 _).put _, below_put ((Below.refl _ _).alloc (Nat.le_refl _) _) (Nat.le_refl _) _⟩
  case rest =>
    obtain ⟨rfl, hrow, hb2⟩ := hcut
    have k2 := k1.below hb2 k1.lt
    have B2 := B1.trans (hb2.mono B1.size)
    have R2 := Lib.hid hrow
    have K2 := Lib.hid k2
    have lt1 := k1.lt
    obtain ⟨B0, leB, gtB⟩ : ∃ b, b ≤ wc.heap.size ∧ w1.heap.size < b := ⟨wc.heap.size, Nat.le_refl _, hrow.lt⟩
    clear k1 k2 hrow hb2 B1
    go_wp2
    go_loopw [27, 8] (fun s27 s8 wr => ∃ (k m : Nat) (v : Value), k ≤ n + 1 ∧ s27 = .int .i64 k ∧ v = s8 ∧ Hid (wr.ownsRow B0 44 4 v m (endCells (outsE t.dec n k))) ∧ Hid (m = (outsE t.dec n k).length) ∧ Hid (IsRow wr w1.heap.size (rowE t.dec n k)) ∧ Hid (L8 t.gn t.gd t.bn t.bd t.an t.ad t.en t.ed w.heap.size wr) ∧ B0 ≤ wr.heap.size ∧ Below w.heap.size w wr) (fun s27 _ _ => n + 1 - (intOf s27).toNat)
    case atStart => exact ⟨0, 0, _, by omega, rfl, rfl, Lib.hid (World.ownsRow_nil _ _ _ _), rfl, R2, K2, leB, B2⟩
    case round =>
      obtain ⟨k, m, v, hk, rfl, rfl, hown, hm, hr, hl, hsz, hB⟩ := hrel
      by_cases hlt : k < n + 1
      · go_upto_region 11 with fail
        go_cut [10] (fun s10 W => ∃ N : Nat, s10 = .pointer (some ⟨N, 0, none⟩) ∧ wr.heap.size ≤ N ∧ IsRow W N (fun _ => 0) ∧ Below wr.heap.size wr W)
        case first =>
          apply wp_region_lit
          refine wpList_buildTo rfl 53 _ rfl (some 30) rfl (rowA fun _ => 0) (by simpa [Act.eval] using built_none) ?_
          refine wpList_allocTo rfl (some 10) rfl (.pointer (some ⟨wr.heap.size, 0, none⟩)) (.cells (rowA fun _ => 0) 53) (by exact run_alloc53 _ _ _ rfl) ?_
          refine wpList_store_rowTo rfl 53 _ _ rfl rfl wr.heap.size (rowA fun _ => 0) rfl rfl 53 (rowA fun _ => 0) (heap_alloc_new _ _) (by rw [rowA_size]; exact info53) (by simp only [rowA_size]) (rowA_one _) ?_
          apply wpList_nil
          go_wp2
          go_meet
          exact ⟨_, rfl, Nat.le_refl _, (isRow_made wr _).put _, below_put ((Below.refl _ _).alloc (Nat.le_refl _) _) (Nat.le_refl _) _⟩
        case rest =>
          obtain ⟨N, rfl, hN, hnew, hb3⟩ := hcut
          have gN : w1.heap.size < N := by omega
          have gM : w.heap.size < N := by omega
          have O3 := Lib.hid (ownE_kept hown.out hb3)
          have R3 := Lib.hid (hr.out.below hb3 hr.out.lt)
          have K3 := Lib.hid (hl.out.below hb3 hl.out.lt)
          have N3 := Lib.hid (hnew.ext (r' := nextE t.dec n k (rowE t.dec n k) 0) fun j _ => (nextE_zero _ _ _ _ _).symm)
          have B3 := hB.trans (hb3.mono hB.size)
          have l3 := hb3.size
          have n3 := hnew.lt
          have M3 : Hid (m = (outsE t.dec n k ++ outE t.dec n k (rowE t.dec n k) 0).length) := Lib.hid (by rw [hm.out]; simp [outE])
          have O4 : Hid (wc.ownsRow B0 44 4 v m (endCells (outsE t.dec n k ++ outE t.dec n k (rowE t.dec n k) 0))) := Lib.hid (by have := O3.out; simpa [outE] using this)
          clear hown hr hl hnew hb3 O3 hm
          go_wp2
          go_loopw [33, 8] (fun s33 s8 wr => ∃ (p m' : Nat) (v' : Value), p ≤ k + 1 ∧ s33 = .int .i64 p ∧ v' = s8 ∧ Hid (wr.ownsRow B0 44 4 v' m' (endCells (outsE t.dec n k ++ outE t.dec n k (rowE t.dec n k) p))) ∧ Hid (m' = (outsE t.dec n k ++ outE t.dec n k (rowE t.dec n k) p).length) ∧ Hid (IsRow wr w1.heap.size (rowE t.dec n k)) ∧ Hid (IsRow wr N (nextE t.dec n k (rowE t.dec n k) p)) ∧ Hid (L8 t.gn t.gd t.bn t.bd t.an t.ad t.en t.ed w.heap.size wr) ∧ B0 ≤ wr.heap.size ∧ N < wr.heap.size ∧ Below w.heap.size w wr) (fun s33 _ _ => k + 1 - (intOf s33).toNat)
          case atStart => exact ⟨0, m, v, by omega, rfl, rfl, O4, M3, R3, N3, K3, by omega, n3, B3⟩
          case round =>
            obtain ⟨p, m', v', hp, rfl, rfl, ho, hm', hrw, hnx, hl8, hsi, hni, hBi⟩ := hrel
            by_cases hpk : p < k + 1
            · have c0 := hrw.out.cell p (by omega)
              by_cases h0 : rowE t.dec n k p = 0
              · rw [h0] at c0
                have O5 : Hid (wr.ownsRow B0 44 4 v' m' (endCells (outsE t.dec n k ++ outE t.dec n k (rowE t.dec n k) (p + 1)))) := Lib.hid (by rw [outE, if_pos h0, List.append_nil]; exact ho.out)
                have M5 : Hid (m' = (outsE t.dec n k ++ outE t.dec n k (rowE t.dec n k) (p + 1)).length) := Lib.hid (by rw [outE, if_pos h0, List.append_nil]; exact hm'.out)
                have N5 : Hid (IsRow wr N (nextE t.dec n k (rowE t.dec n k) (p + 1))) := Lib.hid (hnx.out.ext fun j _ => (nextE_skip _ _ _ _ _ _ (by unfold keepE; rw [h0]; simp)).symm)
                clear ho hm' hnx
                go_wp2
                go_roundw
                case rel => exact ⟨p + 1, m', _, by omega, by go_num, rfl, O5, M5, hrw, N5, hl8, hsi, hni, hBi⟩
                case measure => simp [intOf]; omega
              · obtain ⟨x, hx⟩ : ∃ x, rowE t.dec n k p = x := ⟨_, rfl⟩
                obtain ⟨d, hd⟩ : ∃ d, t.dec p (k - p) = d := ⟨_, rfl⟩
                rw [hx] at c0 h0
                have HX := Lib.hid hx
                have HD := Lib.hid hd
                have hx0 : 0 < x := by omega
                have hxb : x ≤ 2147483648 := by rw [← hx]; exact Nat.le_trans (rowE_le t.dec n k p) (Nat.pow_le_pow_right (by omega) (by omega : k ≤ 31))
                have hml := hm'.out
                have hmb : m' ≤ 2000 := by
                  rw [hml, List.length_append]
                  have h1 := outsE_len t.dec n k
                  have h2 := outE_len t.dec n k (rowE t.dec n k) p
                  have h3 := Nat.mul_le_mul (show k ≤ 30 by omega) (show k + 1 ≤ 31 by omega)
                  omega
                clear hx hd h0 hml
                obtain ⟨d0, d1, d2, d3, d4, d5, d6, d7, dlt⟩ := hl8.out
                go_wp2_with fail
                ((with_reducible refine (decide_z t ht _ _ p (k - p) (by omega) (by omega) (by omega) (by omega) d HD.out _).mono ?_); rintro e w5 ⟨rfl, hb5⟩)
                clear d0 d1 d2 d3 d4 d5 d6 d7 dlt c0
                have o5 := Lib.hid (ownE_kept ho.out hb5)
                have r5 := Lib.hid (hrw.out.below hb5 hrw.out.lt)
                have n5 := Lib.hid (hnx.out.below hb5 hnx.out.lt)
                have k5 := Lib.hid (hl8.out.below hb5 hl8.out.lt)
                have B5 := hBi.trans (hb5.mono hBi.size)
                have s5 := hb5.size
                have c5 := r5.out.cell p (by omega)
                rw [HX.out] at c5
                clear ho hrw hnx hl8 hb5
                by_cases hd0 : d = 0
                · subst hd0
                  by_cases hkn : k = n
                  · subst hkn
                    have OE : outE t.dec k k (rowE t.dec k k) (p + 1) = outE t.dec k k (rowE t.dec k k) p ++ [⟨p, k - p, 0, x⟩] := by rw [outE, HX.out, HD.out, if_neg (by omega), if_pos (.inr rfl)]
                    have NE : ∀ j, nextE t.dec k k (rowE t.dec k k) p j = nextE t.dec k k (rowE t.dec k k) (p + 1) j := fun j => (nextE_skip _ _ _ _ _ _ (by unfold keepE; rw [HD.out, if_pos (.inr rfl)])).symm
                    have HOE := Lib.hid OE
                    have HNE := Lib.hid NE
                    clear OE NE
                    go_wp2_with (at_builtin; refine wpList_append_own _ rfl _ _ 37 rfl B0 44 i0 (.agg #[.int .i64 0, .int .i64 0, .int .i64 0, .int .i64 0]) 4 32 Try.underlying37 hi hz0 hz1 hz2 rfl (by decide) _ m' _ rfl (o5.out.alloc _) ⟨w5.heap.size, 0, none⟩ 1 1 [.int .i64 p, .int .i64 ((k : Int) - p), .int .i64 0, .int .i64 x] rfl rfl ?_ ?_ ?_ ?_ ?_ ?_)
                    all_goals try exact cell_four_new _ _ _ _ _ _
                    all_goals try (intro u hu; simp at hu; rcases hu with rfl | rfl | rfl | rfl <;> rfl)
                    all_goals try (unfold maxLen; omega)
                    all_goals try omega
                    all_goals try (simp; omega)
                    all_goals intro v2 w6 hown' hgrow _
                    all_goals have o6 := Lib.hid hown'
                    all_goals have r6 := Lib.hid ((r5.out.alloc _).grown hgrow (fun e => own_row_ne o5.out r5.out e.symm rfl))
                    all_goals have n6 := Lib.hid ((n5.out.alloc _).grown hgrow (fun e => own_row_ne o5.out n5.out e.symm rfl))
                    all_goals have B6 := (B5.alloc B5.size _).grown hgrow (by have := B5.size; simp; omega) (fun k hk => by have := (o5.out.lt k hk).1; omega)
                    all_goals have k6 := Lib.hid ((k5.out.allocE _).grownE hgrow (fun e => by have := (o5.out.lt _ e.symm).1; omega))
                    all_goals have g6 : w5.heap.size + 1 ≤ w6.heap.size := by have := hgrow.size; simpa using this
                    all_goals clear hgrow hown'
                    have hc : ((k : Int) - p) = ((k - p : Nat) : Int) := by omega
                    have O7 : Hid (w6.ownsRow B0 44 4 v2 (m' + 1) (endCells (outsE t.dec k k ++ outE t.dec k k (rowE t.dec k k) (p + 1)))) := Lib.hid (by
                      have h := o6.out
                      rw [hc] at h
                      rw [HOE.out, ← List.append_assoc, endCells_append]
                      exact h)
                    have M7 : Hid (m' + 1 = (outsE t.dec k k ++ outE t.dec k k (rowE t.dec k k) (p + 1)).length) := Lib.hid (by
                      rw [HOE.out, ← List.append_assoc, List.length_append, ← hm'.out]; rfl)
                    have N7 := Lib.hid (n6.out.ext fun j _ => HNE.out j)
                    clear o6 n6 hc o5 r5 n5 k5 c5
                    go_wp2
                    go_roundw
                    case rel => exact ⟨p + 1, m' + 1, _, by omega, by go_num, rfl, O7, M7, r6, N7, k6, by omega, by omega, B6⟩
                    case measure => simp [intOf]; omega
                  · obtain ⟨a, ha⟩ : ∃ a, nextE t.dec n k (rowE t.dec n k) p p = a := ⟨_, rfl⟩
                    obtain ⟨b, hb⟩ : ∃ b, nextE t.dec n k (rowE t.dec n k) p (p + 1) = b := ⟨_, rfl⟩
                    have pow31 : 2 ^ (k + 1) ≤ 2147483648 := Nat.pow_le_pow_right (by omega) (by omega : k + 1 ≤ 31)
                    have ab : a ≤ 2147483648 := by rw [← ha]; exact Nat.le_trans (nextE_le t.dec n k p p) pow31
                    have bb : b ≤ 2147483648 := by rw [← hb]; exact Nat.le_trans (nextE_le t.dec n k p (p + 1)) pow31
                    have ca := n5.out.cell p (by omega)
                    have fa := n5.out.free p
                    rw [ha] at ca
                    have HA := Lib.hid ha
                    have HBB := Lib.hid hb
                    clear ha hb pow31
                    have hp32 : p < 32 := by omega
                    go_upto_region 19 with fail
                    go_cut [71] (fun s71 W => W = w5.drew.setCell ⟨N, p, none⟩ (.int .i64 ((a + x : Nat) : Int)))
                    case first =>
                      go_region
                      all_goals (go_wp2; go_meet)
                      all_goals rfl
                    case rest =>
                      have n8 : IsRow wc N (fun i => if i = p then a + x else nextE t.dec n k (rowE t.dec n k) p i) := by rw [hcut]; exact n5.out.drew.set p (a + x)
                      have r8 : IsRow wc w1.heap.size (rowE t.dec n k) := by rw [hcut]; exact r5.out.drew.other (Nat.ne_of_lt gN) p _
                      have hne : ∀ g, (_ : Value).ownBlock = some g → g ≠ N := fun g hg => own_row_ne o5.out n5.out hg
                      have o8 := own_setCell (show w5.drew.ownsRow _ _ _ _ _ _ from o5.out) hne p (.int .i64 ((a + x : Nat) : Int))
                      rw [← hcut] at o8
                      have B8 : Below w.heap.size w wc := by rw [hcut]; exact B5.drew.setCell (p := ⟨N, p, none⟩) (Nat.le_of_lt gM) _
                      have k8 : L8 t.gn t.gd t.bn t.bd t.an t.ad t.en t.ed w.heap.size wc := by rw [hcut]; exact L8.setC (show L8 _ _ _ _ _ _ _ _ _ w5.drew from ⟨k5.out.c0, k5.out.c1, k5.out.c2, k5.out.c3, k5.out.c4, k5.out.c5, k5.out.c6, k5.out.c7, k5.out.lt⟩) (Nat.ne_of_lt gM) _ _
                      have s8 : wc.heap.size = w5.heap.size := by rw [hcut]; exact size_setCell w5.drew _ _
                      have cb := n8.cell (p + 1) (by omega)
                      have fb := n8.free (p + 1)
                      have cg := r8.cell p (by omega)
                      rw [if_neg (by omega), HBB.out] at cb
                      rw [HX.out] at cg
                      have hp31 : p + 1 < 32 := by omega
                      have O9 : Hid ((wc.drew.setCell ⟨N, p + 1, none⟩ (.int .i64 ((b + x : Nat) : Int))).ownsRow B0 44 4 _ m' (endCells (outsE t.dec n k ++ outE t.dec n k (rowE t.dec n k) (p + 1)))) := Lib.hid (by
                        rw [outE, HX.out, HD.out, if_neg (by omega), if_neg (by omega), List.append_nil]
                        exact own_setCell (show wc.drew.ownsRow _ _ _ _ _ _ from o8) hne _ _)
                      have M9 : Hid (m' = (outsE t.dec n k ++ outE t.dec n k (rowE t.dec n k) (p + 1)).length) := Lib.hid (by
                        rw [outE, HX.out, HD.out, if_neg (by omega), if_neg (by omega), List.append_nil]; exact hm'.out)
                      have R9 := Lib.hid (r8.drew.other (Nat.ne_of_lt gN) (p + 1) (.int .i64 ((b + x : Nat) : Int)))
                      have N9 : Hid (IsRow (wc.drew.setCell ⟨N, p + 1, none⟩ (.int .i64 ((b + x : Nat) : Int))) N (nextE t.dec n k (rowE t.dec n k) (p + 1))) := Lib.hid ((n8.drew.set (p + 1) (b + x)).ext fun j _ => by
                        have hk : keepE t.dec n k (rowE t.dec n k) p = x := by unfold keepE; rw [HD.out, HX.out, if_neg (by omega)]
                        rw [nextE_succ, hk]
                        by_cases e1 : j = p + 1
                        · subst e1; rw [if_pos rfl, if_neg (by omega), if_pos rfl, HBB.out]; omega
                        · rw [if_neg e1, if_neg e1]
                          by_cases e2 : j = p
                          · subst e2; rw [if_pos rfl, if_pos rfl, HA.out]; omega
                          · rw [if_neg e2, if_neg e2]; omega)
                      have K9 := Lib.hid (L8.setC (show L8 t.gn t.gd t.bn t.bd t.an t.ad t.en t.ed w.heap.size wc.drew from ⟨k8.c0, k8.c1, k8.c2, k8.c3, k8.c4, k8.c5, k8.c6, k8.c7, k8.lt⟩) (Nat.ne_of_lt gM) (p + 1) (.int .i64 ((b + x : Nat) : Int)))
                      have B9 := B8.drew.setCell (p := ⟨N, p + 1, none⟩) (Nat.le_of_lt gM) (.int .i64 ((b + x : Nat) : Int))
                      have s9 : (wc.drew.setCell ⟨N, p + 1, none⟩ (.int .i64 ((b + x : Nat) : Int))).heap.size = w5.heap.size := (size_setCell wc.drew _ _).trans s8
                      clear n8 r8 o8 k8 hcut o5 r5 n5 k5 c5 ca fa hne
                      go_upto_region 20 with fail
                      go_region
                      all_goals go_wp2
                      all_goals go_roundw
                      all_goals first
                        | exact ⟨p + 1, m', _, by omega, by go_num, rfl, O9, M9, R9, N9, K9, Nat.le_trans (show B0 ≤ w5.heap.size by omega) (Nat.le_of_eq s9.symm), Nat.lt_of_lt_of_le (show N < w5.heap.size by omega) (Nat.le_of_eq s9.symm), B9⟩
                        | (simp [intOf]; omega)
                · have hdn := hd0
                  have OE : outE t.dec n k (rowE t.dec n k) (p + 1) = outE t.dec n k (rowE t.dec n k) p ++ [⟨p, k - p, d, x⟩] := by rw [outE, HX.out, HD.out, if_neg (by omega), if_pos (.inl hd0)]
                  have NE : ∀ j, nextE t.dec n k (rowE t.dec n k) p j = nextE t.dec n k (rowE t.dec n k) (p + 1) j := fun j => (nextE_skip _ _ _ _ _ _ (by unfold keepE; rw [HD.out, if_pos (.inl hd0)])).symm
                  have HOE := Lib.hid OE
                  have HNE := Lib.hid NE
                  clear OE NE
                  go_wp2_with (at_builtin; refine wpList_append_own _ rfl _ _ 37 rfl B0 44 i0 (.agg #[.int .i64 0, .int .i64 0, .int .i64 0, .int .i64 0]) 4 32 Try.underlying37 hi hz0 hz1 hz2 rfl (by decide) _ m' _ rfl (o5.out.alloc _) ⟨w5.heap.size, 0, none⟩ 1 1 [.int .i64 p, .int .i64 ((k : Int) - p), .int .i64 d, .int .i64 x] rfl rfl ?_ ?_ ?_ ?_ ?_ ?_)
                  all_goals try exact cell_four_new _ _ _ _ _ _
                  all_goals try (intro u hu; simp at hu; rcases hu with rfl | rfl | rfl | rfl <;> rfl)
                  all_goals try (unfold maxLen; omega)
                  all_goals try omega
                  all_goals try (simp; omega)
                  all_goals intro v2 w6 hown' hgrow _
                  all_goals have o6 := Lib.hid hown'
                  all_goals have r6 := Lib.hid ((r5.out.alloc _).grown hgrow (fun e => own_row_ne o5.out r5.out e.symm rfl))
                  all_goals have n6 := Lib.hid ((n5.out.alloc _).grown hgrow (fun e => own_row_ne o5.out n5.out e.symm rfl))
                  all_goals have B6 := (B5.alloc B5.size _).grown hgrow (by have := B5.size; simp; omega) (fun k hk => by have := (o5.out.lt k hk).1; omega)
                  all_goals have k6 := Lib.hid ((k5.out.allocE _).grownE hgrow (fun e => by have := (o5.out.lt _ e.symm).1; omega))
                  all_goals have g6 : w5.heap.size + 1 ≤ w6.heap.size := by have := hgrow.size; simpa using this
                  all_goals clear hgrow hown'
                  have hc : ((k : Int) - p) = ((k - p : Nat) : Int) := by omega
                  have O7 : Hid (w6.ownsRow B0 44 4 v2 (m' + 1) (endCells (outsE t.dec n k ++ outE t.dec n k (rowE t.dec n k) (p + 1)))) := Lib.hid (by
                    have h := o6.out
                    rw [hc] at h
                    rw [HOE.out, ← List.append_assoc, endCells_append]
                    exact h)
                  have M7 : Hid (m' + 1 = (outsE t.dec n k ++ outE t.dec n k (rowE t.dec n k) (p + 1)).length) := Lib.hid (by
                    rw [HOE.out, ← List.append_assoc, List.length_append, ← hm'.out]; rfl)
                  have N7 := Lib.hid (n6.out.ext fun j _ => HNE.out j)
                  clear o6 n6 hc o5 r5 n5 k5 c5
                  go_wp2
                  go_roundw
                  case rel => exact ⟨p + 1, m' + 1, _, by omega, by go_num, rfl, O7, M7, r6, N7, k6, by omega, by omega, B6⟩
                  case measure => simp [intOf]; omega
            · obtain rfl : p = k + 1 := by omega
              go_upto_region 22 with fail
              apply wp_region_lit
              refine wpList_load_row rfl 53 _ rfl N rfl 53 (rowA (rowE t.dec n (k + 1))) (0, 0) (.array 32 3) hnx.out under53 rfl (by rw [rowA_size]; exact info53) ?_
              refine wpList_store_rowTo rfl 53 _ _ rfl rfl w1.heap.size (rowA (rowE t.dec n (k + 1))) rfl rfl 53 (rowA (rowE t.dec n k)) hrw.out (by rw [rowA_size]; exact info53) (by simp only [rowA_size]) (rowA_one _) ?_
              apply wpList_nil
              · have hG := hrw.out.put (rowE t.dec n (k + 1))
                have O6 : Hid ((wr.setRow w1.heap.size (rowA (rowE t.dec n (k + 1)))).ownsRow B0 44 4 v' m' (endCells (outsE t.dec n (k + 1)))) := Lib.hid (own_setRow ho.out (fun g hg => own_row_ne ho.out hrw.out hg) _)
                have K6 := Lib.hid (hl8.out.setRow (Nat.ne_of_lt lt1) (rowA (rowE t.dec n (k + 1))))
                have G6 := Lib.hid hG
                have B6 := below_put hBi (Nat.le_of_lt lt1) (rowA (rowE t.dec n (k + 1)))
                have s6 : B0 ≤ (wr.setRow w1.heap.size (rowA (rowE t.dec n (k + 1)))).heap.size := by simpa [World.setRow] using hsi
                clear ho hrw hnx hl8 hG
                generalize wr.setRow w1.heap.size (rowA (rowE t.dec n (k + 1))) = w6 at O6 K6 G6 B6 s6 ⊢
                go_wp2
                go_roundw
                case rel => exact ⟨k + 1, m', _, by omega, by go_num, rfl, O6, hm', G6, K6, s6, B6⟩
                case measure => simp [intOf]; omega
      · obtain rfl : k = n + 1 := by omega
        have hE := ends_own (by rw [← hm.out]; exact hown.out) (Nat.le_trans (outsE_len t.dec n (n + 1)) (Nat.le_trans (Nat.mul_le_mul (show n + 1 ≤ 31 by omega) (show n + 1 + 1 ≤ 32 by omega)) (by omega)))
        have HE := Lib.hid hE
        clear hE hown hm hr hl
        go_wp2
        go_ret2
        exact ⟨_, rfl, HE.out, hB⟩
end Go.Proofs.Ytldpdoakfacdbaa
