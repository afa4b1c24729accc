/- disk.settle, at this translation. -/
import Derived.Test.YtgdfdelggihceaaWrite
import Derived.Laws.MakeOwn
import Derived.Laws.CopyOwn
import Derived.RegionTactic
namespace Go.Proofs.Ytgdfdelggihceaa
open Go.RowKit Go.Great

/-- The cells of strings. -/
def rowS (L : List ByteArray) : List Value := L.map Value.string
theorem rowS_length (L : List ByteArray) : (rowS L).length = L.length := by simp [rowS]
theorem rowS_get (L : List ByteArray) (j : Nat) (h : j < L.length) : (rowS L)[j]? = some (.string L[j]) := by simp [rowS, h]
theorem rowS_set (L : List ByteArray) (j : Nat) (x : ByteArray) : (rowS L).toArray.setIfInBounds j (.string x) = (rowS (L.set j x)).toArray := by
  simp [rowS, List.map_set]
/-- The block G is a slice's row of strings. -/
def IsR (W : World) (G : Nat) (L : List ByteArray) : Prop := W.heap[G]? = some (.cells (rowS L).toArray 9 (0, 0))
theorem IsR.heap {W : World} {G : Nat} {L : List ByteArray} (h : IsR W G L) : W.heap[G]? = some (.cells (rowS L).toArray 9 (0, 0)) := h
theorem IsR.lt {W : World} {G : Nat} {L : List ByteArray} (h : IsR W G L) : G < W.heap.size := (Array.getElem?_eq_some_iff.1 h).1
theorem IsR.cell {W : World} {G : Nat} {L : List ByteArray} (h : IsR W G L) (j : Nat) (hj : j < L.length) : W.cell? ⟨G, j, none⟩ = some (.string L[j]) := by
  unfold IsR at h
  simp only [World.cell?, h]
  simp [rowS, hj]
theorem IsR.free {W : World} {G : Nat} {L : List ByteArray} (h : IsR W G L) (j : Nat) : W.frozen? ⟨G, j, none⟩ = false := by
  unfold IsR at h
  simp [World.frozen?, h]
theorem IsR.below {W W' : World} {G B : Nat} {L : List ByteArray} (h : IsR W G L) (hB : Below B W W') (hG : G < B) : IsR W' G L := (hB.block G hG).trans h
theorem IsR.alloc {W : World} {G : Nat} {L : List ByteArray} (h : IsR W G L) (o : Obj) : IsR (W.alloc o) G L := (Below.heap_alloc W o G h.lt).trans h
theorem IsR.set {W : World} {G : Nat} {L : List ByteArray} (h : IsR W G L) (j : Nat) (x : ByteArray) : IsR (W.setCell ⟨G, j, none⟩ (.string x)) G (L.set j x) := by
  unfold IsR at h ⊢
  rw [setCell_eq_setRow W G j _ 9 (0, 0) _ h, rowS_set]
  exact setRow_heap W G _ _ 9 _ h
theorem IsR.other {W : World} {G : Nat} {L : List ByteArray} (h : IsR W G L) {g : Nat} (hne : G ≠ g) (o : Nat) (v : Value) : IsR (W.setCell ⟨g, o, none⟩ v) G L := (Below.heap_setCell W ⟨g, o, none⟩ v G hne).trans h
theorem IsR.strs {W : World} {G : Nat} {L : List ByteArray} (h : IsR W G L) (hL : L.length ≤ maxLen) : IsStrs W (.slice (some ⟨G, 0, none⟩) L.length L.length) L :=
  ⟨_, _, rfl, hL, Nat.le_refl _, .inr ⟨G, 0, rfl, h.lt, fun j hj => by rw [Nat.zero_add]; exact h.cell j hj⟩⟩
theorem madeS (n : Nat) : madeCells (Value.string ⟨#[]⟩).cells n = (rowS (List.replicate n ⟨#[]⟩)).toArray := by
  apply Array.ext
  · simp [madeCells, rowS]
  · intro i h1 h2
    simp [madeCells, rowS, Value.cells, Nat.mod_one]
theorem run_mk23 (W : World) (m : Nat) (hm : m ≤ 100000) : (Instr.makeSlice 23 (.int .i64 (m : Int)) (.int .i64 (m : Int))).run Try.prog W = .ok (.slice (some ⟨W.heap.size, 0, none⟩) m m) (W.alloc (.cells (rowS (List.replicate m ⟨#[]⟩)).toArray 9)) := by
  obtain ⟨i0, hi, hz0, hz1, hz2⟩ := info_parts info9
  have h := run_make (P := Try.prog) W 23 9 i0 (.string ⟨#[]⟩) Try.underlying23 hi hz0 .i64 .i64 m m (by omega) (Int.le_refl _) (by rw [hz2]; omega) (by omega)
  rw [hz1, Nat.mul_one, Int.toNat_natCast, madeS] at h
  exact h
theorem size9 : (Try.prog.info? 9).map (·.size) = some 1 := by kernel_rfl
theorem rowS_one (L : List ByteArray) : ∀ v ∈ rowS L, v.oneCell' = true := by
  intro v hv
  obtain ⟨x, _, rfl⟩ := List.mem_map.1 hv
  rfl
theorem strs_lie {W : World} {ao : Option Addr} {cap : Nat} {L : List ByteArray} (h : IsStrs W (.slice ao L.length cap) L) (h0 : 0 < L.length) : ∃ ad, ao = some ad ∧ ∀ j v, (rowS L)[j]? = some v → W.cell? (ad.add j) = some v := by
  obtain ⟨_, _, e, _, _, hc⟩ := h
  cases e
  obtain ⟨b1, off, rfl, _, hc⟩ := hc.resolve_left (by intro e; rw [e] at h0; simp at h0)
  refine ⟨_, rfl, fun j v hv => ?_⟩
  have hj : j < L.length := by have := (List.getElem?_eq_some_iff.1 hv).1; rwa [rowS_length] at this
  rw [rowS_get L j hj] at hv
  cases hv
  rw [Addr.add_lit]
  exact hc j hj

theorem splice_all {W : World} {G n : Nat} {L : List ByteArray} (h : W.heap[G]? = some (.cells (splice (rowS (List.replicate n ⟨#[]⟩)) 0 (rowS L)).toArray 9 (0, 0))) (hn : n = L.length := by rfl) : IsR W G L := by
  have e : splice (rowS (List.replicate n ⟨#[]⟩)) 0 (rowS L) = rowS L := by
    unfold splice
    rw [rowS_length, List.drop_eq_nil_of_le (by rw [rowS_length, List.length_replicate]; omega)]
    simp
  unfold IsR
  rw [← e]; exact h
set_option maxHeartbeats 4000000 in
theorem settle_sync (D : Dk) (hok : D.Ok) (kept : Nat → Nat) (hk : ∀ j, (kept j : Int) ≤ D.size) (q : Option Addr) (v : Value) (w : World) (hv : IsDisk w v D)
    (Hk : ∀ (j : Nat) (W : World), j < D.pend.length → Below w.heap.size w W → Calls Try.prog 38 #[.int .i64 j, .pointer q] W fun e w' => e = .returned (.int .i64 (kept j)) ∧ Below W.heap.size W w') :
    Calls Try.prog 37 #[v, .func (.func 38) #[] #[.pointer q]] w fun e w' => ∃ v', e = .returned v' ∧ Firm w.heap.size w' v' ⟨D.size, settleL kept 0 D.pend D.secs, [], D.left⟩ ∧ Below w.heap.size w w' := by
  obtain ⟨_, _, rfl, i1, ⟨b, cap2, rfl, hm, hcap2, hc2⟩⟩ := hv
  have I1 := Lib.hid i1
  obtain ⟨a, cap, rfl, hln, hcap, _⟩ := i1
  have hl2 := hok.l2
  have hl1 := hok.l1
  unfold maxLen at hm hln
  have x0 := (Bx.fresh D.size (.slice a D.secs.length cap) (.slice b D.pend.length cap2) D.left w).alloc (.cells #[.int .i64 0, .slice none 0 0, .slice none 0 0, .int .i64 0] 26)
  have x1 := Bx.fresh 0 (.slice none 0 0) (.slice none 0 0) 0 (w.alloc (.cells #[.int .i64 D.size, .slice a D.secs.length cap, .slice b D.pend.length cap2, .int .i64 D.left] 26))
  rw [World.size_alloc] at x1
  have hB := ((Below.refl w.heap.size w).alloc (Nat.le_refl _) (.cells #[.int .i64 D.size, .slice a D.secs.length cap, .slice b D.pend.length cap2, .int .i64 D.left] 26)).alloc (by simp) (.cells #[.int .i64 0, .slice none 0 0, .slice none 0 0, .int .i64 0] 26)
  have hmk := run_mk23 ((w.alloc (.cells #[.int .i64 D.size, .slice a D.secs.length cap, .slice b D.pend.length cap2, .int .i64 D.left] 26)).alloc (.cells #[.int .i64 0, .slice none 0 0, .slice none 0 0, .int .i64 0] 26)) D.secs.length (by omega)
  have hs2 : ((w.alloc (.cells #[.int .i64 D.size, .slice a D.secs.length cap, .slice b D.pend.length cap2, .int .i64 D.left] 26)).alloc (.cells #[.int .i64 0, .slice none 0 0, .slice none 0 0, .int .i64 0] 26)).heap.size = w.heap.size + 1 + 1 := by simp
  rw [hs2] at hmk
  have HC2 := Lib.hid hc2
  have HK := Lib.hid hk
  have HKK := Lib.hid Hk
  have X0 := Lib.hid x0
  have X1 := Lib.hid x1
  have HS2 := Lib.hid hs2
  clear hc2 hk Hk x0 x1 hs2
  go_enter Try.func37, Try.ntmps37
  have hr0 : IsR (((w.alloc (.cells #[.int .i64 D.size, .slice a D.secs.length cap, .slice b D.pend.length cap2, .int .i64 D.left] 26)).alloc (.cells #[.int .i64 0, .slice none 0 0, .slice none 0 0, .int .i64 0] 26)).alloc (.cells (rowS (List.replicate D.secs.length ⟨#[]⟩)).toArray 9)) (w.heap.size + 1 + 1) (List.replicate D.secs.length ⟨#[]⟩) := by
    have := heap_alloc_new ((w.alloc (.cells #[.int .i64 D.size, .slice a D.secs.length cap, .slice b D.pend.length cap2, .int .i64 D.left] 26)).alloc (.cells #[.int .i64 0, .slice none 0 0, .slice none 0 0, .int .i64 0] 26)) (.cells (rowS (List.replicate D.secs.length ⟨#[]⟩)).toArray 9)
    rw [HS2.out] at this
    exact this
  have hB3 := hB.alloc (by simp; omega) (.cells (rowS (List.replicate D.secs.length ⟨#[]⟩)).toArray 9)
  have I3 := Lib.hid (I1.out.below hB3 (Nat.le_refl _))
  have X0' := Lib.hid (X0.out.alloc (.cells (rowS (List.replicate D.secs.length ⟨#[]⟩)).toArray 9))
  have X1' := Lib.hid (X1.out.alloc (.cells (rowS (List.replicate D.secs.length ⟨#[]⟩)).toArray 9))
  have HR0 := Lib.hid hr0
  have bG := Below.refl (w.heap.size + 1 + 1) (((w.alloc (.cells #[.int .i64 D.size, .slice a D.secs.length cap, .slice b D.pend.length cap2, .int .i64 D.left] 26)).alloc (.cells #[.int .i64 0, .slice none 0 0, .slice none 0 0, .int .i64 0] 26)).alloc (.cells (rowS (List.replicate D.secs.length ⟨#[]⟩)).toArray 9))
  clear hr0 X0 X1
  go_wp2_with (refine wpList_copy_splice rfl (.tmp 13) (.tmp 15) 23 23 rfl 9 Try.underlying23 size9 (some ⟨w.heap.size + 1 + 1, 0, none⟩) a D.secs.length D.secs.length D.secs.length cap rfl rfl (w.heap.size + 1 + 1) 0 (rowS (List.replicate D.secs.length ⟨#[]⟩)) 9 HR0.out.heap (rowS D.secs) (by rw [rowS_length]; exact (Nat.min_self _).symm) (fun h => ⟨rfl, strs_lie I3.out (by rw [rowS_length] at h; exact h)⟩) (by rw [rowS_length, rowS_length, List.length_replicate]; omega) (rowS_one _) (w.heap.size + 1 + 1) _ bG (Nat.le_refl _) ?_; intro w3 hrow hb3; have hR3 : Hid (IsR w3 (w.heap.size + 1 + 1) D.secs) := Lib.hid (splice_all hrow.out); have Y0 := Lib.hid (X0'.out.below hb3 (by omega)); have Y1 := Lib.hid (X1'.out.below hb3 (by omega)); have B3 := hB3.trans (hb3.mono (show w.heap.size ≤ w.heap.size + 1 + 1 by omega)); have y2 := Y0.out.c2; clear hrow)
  clear X0' X1' HR0 I3 hB3 hb3 hB hmk bG
  go_loopw [20] (fun s20 wr => ∃ (j : Nat) (cur : List ByteArray), j ≤ D.pend.length ∧ s20 = .int .i64 j ∧ Hid (cur.length = D.secs.length) ∧ Hid (∀ x ∈ cur, (x.size : Int) = D.size) ∧ Hid (settleL kept j (D.pend.drop j) cur = settleL kept 0 D.pend D.secs) ∧ Hid (IsR wr (w.heap.size + 1 + 1) cur) ∧
    Hid (Bx w.heap.size D.size (.slice a D.secs.length cap) (.slice b D.pend.length cap2) D.left wr) ∧ Hid (Bx (w.heap.size + 1) 0 (.slice none 0 0) (.slice none 0 0) 0 wr) ∧ Below w.heap.size w wr) (fun i _ => D.pend.length - (intOf i).toNat)
  case atStart => exact ⟨0, D.secs, Nat.zero_le _, rfl, rfl, Lib.hid hok.secs, rfl, hR3, Y0, Y1, B3⟩
  case round =>
    obtain ⟨j, cur, hj, rfl, hcl, hcz, hset, hR, hY0, hY1, hBr⟩ := hrel
    by_cases hlt : j < D.pend.length
    · obtain ⟨b1, o1, rfl, hb1, hcell⟩ := HC2.out.resolve_left (by intro e; rw [e] at hlt; simp at hlt)
      obtain ⟨hc1, hc2⟩ := hcell j hlt
      have p0 := (hBr.cell (p := ⟨b1, o1 + j * 2, none⟩) hb1).trans hc1
      have p1 := (hBr.cell (p := ⟨b1, o1 + j * 2 + 1, none⟩) hb1).trans hc2
      have hS := hset.out
      obtain ⟨v1, v2, v3⟩ := hok.pend _ (List.getElem_mem hlt)
      rw [List.drop_eq_getElem_cons hlt, settleL] at hS
      generalize D.pend[j] = p at p0 p1 hS v1 v2 v3
      obtain ⟨s, x⟩ := p
      simp only at p0 p1 hS v1 v2 v3
      obtain ⟨sn, rfl⟩ := Int.eq_ofNat_of_zero_le v1
      have hsn : sn < cur.length := by rw [hcl.out]; omega
      rw [Int.toNat_natCast, getD_at _ _ hsn] at hS
      have hkj := HK.out j
      have hys := hcz.out _ (List.getElem_mem hsn)
      have cs := hR.out.cell sn hsn
      have fs := hR.out.free sn
      generalize cur[sn] = y at cs hS hys
      have HSS := Lib.hid hS
      obtain ⟨kj, hkj2⟩ : ∃ k, kept j = k := ⟨_, rfl⟩
      rw [hkj2] at hkj
      have HKJ := Lib.hid hkj2
      have hkx : kj ≤ x.size := by omega
      have hky : kj ≤ y.size := by omega
      have hxb : x.size ≤ 512 := by have := hok.s2; omega
      have hyb : y.size ≤ 512 := by have := hok.s2; omega
      have hxy : Hid ((x.size : Int) = D.size ∧ (y.size : Int) = D.size) := Lib.hid ⟨v3, hys⟩
      have hsl : (sn : Int) < D.secs.length := v2
      clear hcell hc1 hc2 hset hS hkj2 hkj v3 hys v1 v2 hsn
      have Ba := hBr.alloc hBr.size (.cells #[.int .i64 sn, .string x] 44)
      go_wp2_with fail
      ((with_reducible refine (HKK.out j _ hlt Ba).mono ?_); rintro e w4 ⟨he, hb4⟩)
      rw [HKJ.out] at he
      subst he
      have B4 := Ba.trans (hb4.mono Ba.size)
      have Z0 := Lib.hid ((hY0.out.alloc (.cells #[.int .i64 sn, .string x] 44)).below hb4 (by simp; have := hY0.out.lt; omega))
      have Z1 := Lib.hid ((hY1.out.alloc (.cells #[.int .i64 sn, .string x] 44)).below hb4 (by simp; have := hY1.out.lt; omega))
      have ltG := hR.out.lt
      have ZR := Lib.hid ((hR.out.alloc (.cells #[.int .i64 sn, .string x] 44)).below hb4 (by simp; omega))
      have n0 : w4.cell? ⟨wr.heap.size, 0, none⟩ = some (.int .i64 sn) := (hb4.cell (p := ⟨wr.heap.size, 0, none⟩) (by simp)).trans (by simp [World.cell?_alloc_new])
      have n1 : w4.cell? ⟨wr.heap.size, 1, none⟩ = some (.string x) := (hb4.cell (p := ⟨wr.heap.size, 1, none⟩) (by simp)).trans (by simp [World.cell?_alloc_new])
      have m0 : w4.cell? ⟨w.heap.size + 1 + 1, sn, none⟩ = some (.string y) := (hb4.cell (p := ⟨w.heap.size + 1 + 1, sn, none⟩) (by simp; omega)).trans ((((Below.refl _ wr).alloc (Nat.le_refl _) (.cells #[.int .i64 sn, .string x] 44)).cell (p := ⟨w.heap.size + 1 + 1, sn, none⟩) ltG).trans cs)
      have m1 : w4.frozen? ⟨w.heap.size + 1 + 1, sn, none⟩ = false := ZR.out.free sn
      clear cs fs hR hY0 hY1 p0 p1 hb4 Ba hBr
      have hsl2 : sn < D.secs.length := by omega
      go_upto_region 7 with fail
      go_region
      all_goals go_wp2
      all_goals go_roundw
      case rel =>
        exact ⟨j + 1, cur.set sn (tear kj x y), by omega, by go_num, Lib.hid (by rw [List.length_set]; exact hcl.out), Lib.hid (fun z hz => by
          rcases List.mem_or_eq_of_mem_set hz with hz | rfl
          · exact hcz.out z hz
          · rw [tear_size _ _ _ hkx (by have := hxy.out.1; have := hxy.out.2; omega)]; exact hxy.out.1), Lib.hid (by rw [← HSS.out, HKJ.out]), Lib.hid ((show IsR w4.drew (w.heap.size + 1 + 1) cur from ZR.out).set sn (tear kj x y)), Lib.hid (Z0.out.drew.other (by omega) sn _), Lib.hid (Z1.out.drew.other (by omega) sn _), B4.drew.setCell (p := ⟨w.heap.size + 1 + 1, sn, none⟩) (by simp; omega) _⟩
      case measure => simp [intOf]; omega
    · have hS := hset.out
      rw [List.drop_eq_nil_of_le (by omega), settleL] at hS
      obtain ⟨q0, q1, q2, q3, g0, g1, g2, g3, qlt⟩ := hY0.out
      obtain ⟨r0, r1, r2, r3, k0, k1, k2, k3, rlt⟩ := hY1.out
      have hlc := hcl.out
      have HSS := Lib.hid hS
      have HLC := Lib.hid hlc
      clear hset hS hlc hY0 hY1
      go_wp2
      have hR6 : IsR ((((((wr.setCell ⟨w.heap.size, 1, none⟩ (.slice (some ⟨w.heap.size + 1 + 1, 0, none⟩) D.secs.length D.secs.length)).setCell ⟨w.heap.size, 2, none⟩ (.slice none 0 0)).setCell ⟨w.heap.size + 1, 0, none⟩ (.int .i64 D.size)).setCell ⟨w.heap.size + 1, 1, none⟩ (.slice (some ⟨w.heap.size + 1 + 1, 0, none⟩) D.secs.length D.secs.length)).setCell ⟨w.heap.size + 1, 2, none⟩ (.slice none 0 0)).setCell ⟨w.heap.size + 1, 3, none⟩ (.int .i64 D.left)) (w.heap.size + 1 + 1) cur :=
        (((((hR.out.other (by omega) _ _).other (by omega) _ _).other (by omega) _ _).other (by omega) _ _).other (by omega) _ _).other (by omega) _ _
      have Sn := below_set4 ((hBr.setCell (p := ⟨w.heap.size, 1, none⟩) (Nat.le_refl _) (.slice (some ⟨w.heap.size + 1 + 1, 0, none⟩) D.secs.length D.secs.length)).setCell (p := ⟨w.heap.size, 2, none⟩) (Nat.le_refl _) (.slice none 0 0)) (g := w.heap.size + 1) (by simp) (.int .i64 D.size) (.slice (some ⟨w.heap.size + 1 + 1, 0, none⟩) D.secs.length D.secs.length) (.slice none 0 0) (.int .i64 D.left)
      exact bodyPost_ret (v := dv D.size (.slice (some ⟨w.heap.size + 1 + 1, 0, none⟩) D.secs.length D.secs.length) (.slice none 0 0) D.left) (by simp [results, Try.results37, go_sem, r0, r1, r2, r3, World.cell?_setCell_other, World.cell?_setCell_same']) rfl ⟨_, rfl, (fun W' s1 s2 => by
        have hR7 : IsR W' (w.heap.size + 1 + 1) cur := (s2 _ (by omega) hR6.lt).trans hR6
        have hS6 := hR7.strs (by rw [HLC.out]; unfold maxLen; omega)
        rw [HLC.out, HSS.out] at hS6
        exact ⟨_, _, rfl, hS6, isWs_nil _⟩), Sn⟩

set_option maxHeartbeats 4000000 in
theorem settle_cut (D : Dk) (hok : D.Ok) (kept : Nat → Nat) (hk : ∀ j, (kept j : Int) ≤ D.size) (q q2 : Option Addr) (v : Value) (w : World) (hv : IsDisk w v D)
    (Hk : ∀ (j : Nat) (W : World), j < D.pend.length → Below w.heap.size w W → Calls Try.prog 39 #[.int .i64 j, .pointer q, .pointer q2] W fun e w' => e = .returned (.int .i64 (kept j)) ∧ Below W.heap.size W w') :
    Calls Try.prog 37 #[v, .func (.func 39) #[] #[.pointer q, .pointer q2]] w fun e w' => ∃ v', e = .returned v' ∧ Firm w.heap.size w' v' ⟨D.size, settleL kept 0 D.pend D.secs, [], D.left⟩ ∧ Below w.heap.size w w' := by
  obtain ⟨_, _, rfl, i1, ⟨b, cap2, rfl, hm, hcap2, hc2⟩⟩ := hv
  have I1 := Lib.hid i1
  obtain ⟨a, cap, rfl, hln, hcap, _⟩ := i1
  have hl2 := hok.l2
  have hl1 := hok.l1
  unfold maxLen at hm hln
  have x0 := (Bx.fresh D.size (.slice a D.secs.length cap) (.slice b D.pend.length cap2) D.left w).alloc (.cells #[.int .i64 0, .slice none 0 0, .slice none 0 0, .int .i64 0] 26)
  have x1 := Bx.fresh 0 (.slice none 0 0) (.slice none 0 0) 0 (w.alloc (.cells #[.int .i64 D.size, .slice a D.secs.length cap, .slice b D.pend.length cap2, .int .i64 D.left] 26))
  rw [World.size_alloc] at x1
  have hB := ((Below.refl w.heap.size w).alloc (Nat.le_refl _) (.cells #[.int .i64 D.size, .slice a D.secs.length cap, .slice b D.pend.length cap2, .int .i64 D.left] 26)).alloc (by simp) (.cells #[.int .i64 0, .slice none 0 0, .slice none 0 0, .int .i64 0] 26)
  have hmk := run_mk23 ((w.alloc (.cells #[.int .i64 D.size, .slice a D.secs.length cap, .slice b D.pend.length cap2, .int .i64 D.left] 26)).alloc (.cells #[.int .i64 0, .slice none 0 0, .slice none 0 0, .int .i64 0] 26)) D.secs.length (by omega)
  have hs2 : ((w.alloc (.cells #[.int .i64 D.size, .slice a D.secs.length cap, .slice b D.pend.length cap2, .int .i64 D.left] 26)).alloc (.cells #[.int .i64 0, .slice none 0 0, .slice none 0 0, .int .i64 0] 26)).heap.size = w.heap.size + 1 + 1 := by simp
  rw [hs2] at hmk
  have HC2 := Lib.hid hc2
  have HK := Lib.hid hk
  have HKK := Lib.hid Hk
  have X0 := Lib.hid x0
  have X1 := Lib.hid x1
  have HS2 := Lib.hid hs2
  clear hc2 hk Hk x0 x1 hs2
  go_enter Try.func37, Try.ntmps37
  have hr0 : IsR (((w.alloc (.cells #[.int .i64 D.size, .slice a D.secs.length cap, .slice b D.pend.length cap2, .int .i64 D.left] 26)).alloc (.cells #[.int .i64 0, .slice none 0 0, .slice none 0 0, .int .i64 0] 26)).alloc (.cells (rowS (List.replicate D.secs.length ⟨#[]⟩)).toArray 9)) (w.heap.size + 1 + 1) (List.replicate D.secs.length ⟨#[]⟩) := by
    have := heap_alloc_new ((w.alloc (.cells #[.int .i64 D.size, .slice a D.secs.length cap, .slice b D.pend.length cap2, .int .i64 D.left] 26)).alloc (.cells #[.int .i64 0, .slice none 0 0, .slice none 0 0, .int .i64 0] 26)) (.cells (rowS (List.replicate D.secs.length ⟨#[]⟩)).toArray 9)
    rw [HS2.out] at this
    exact this
  have hB3 := hB.alloc (by simp; omega) (.cells (rowS (List.replicate D.secs.length ⟨#[]⟩)).toArray 9)
  have I3 := Lib.hid (I1.out.below hB3 (Nat.le_refl _))
  have X0' := Lib.hid (X0.out.alloc (.cells (rowS (List.replicate D.secs.length ⟨#[]⟩)).toArray 9))
  have X1' := Lib.hid (X1.out.alloc (.cells (rowS (List.replicate D.secs.length ⟨#[]⟩)).toArray 9))
  have HR0 := Lib.hid hr0
  have bG := Below.refl (w.heap.size + 1 + 1) (((w.alloc (.cells #[.int .i64 D.size, .slice a D.secs.length cap, .slice b D.pend.length cap2, .int .i64 D.left] 26)).alloc (.cells #[.int .i64 0, .slice none 0 0, .slice none 0 0, .int .i64 0] 26)).alloc (.cells (rowS (List.replicate D.secs.length ⟨#[]⟩)).toArray 9))
  clear hr0 X0 X1
  go_wp2_with (refine wpList_copy_splice rfl (.tmp 13) (.tmp 15) 23 23 rfl 9 Try.underlying23 size9 (some ⟨w.heap.size + 1 + 1, 0, none⟩) a D.secs.length D.secs.length D.secs.length cap rfl rfl (w.heap.size + 1 + 1) 0 (rowS (List.replicate D.secs.length ⟨#[]⟩)) 9 HR0.out.heap (rowS D.secs) (by rw [rowS_length]; exact (Nat.min_self _).symm) (fun h => ⟨rfl, strs_lie I3.out (by rw [rowS_length] at h; exact h)⟩) (by rw [rowS_length, rowS_length, List.length_replicate]; omega) (rowS_one _) (w.heap.size + 1 + 1) _ bG (Nat.le_refl _) ?_; intro w3 hrow hb3; have hR3 : Hid (IsR w3 (w.heap.size + 1 + 1) D.secs) := Lib.hid (splice_all hrow.out); have Y0 := Lib.hid (X0'.out.below hb3 (by omega)); have Y1 := Lib.hid (X1'.out.below hb3 (by omega)); have B3 := hB3.trans (hb3.mono (show w.heap.size ≤ w.heap.size + 1 + 1 by omega)); have y2 := Y0.out.c2; clear hrow)
  clear X0' X1' HR0 I3 hB3 hb3 hB hmk bG
  go_loopw [20] (fun s20 wr => ∃ (j : Nat) (cur : List ByteArray), j ≤ D.pend.length ∧ s20 = .int .i64 j ∧ Hid (cur.length = D.secs.length) ∧ Hid (∀ x ∈ cur, (x.size : Int) = D.size) ∧ Hid (settleL kept j (D.pend.drop j) cur = settleL kept 0 D.pend D.secs) ∧ Hid (IsR wr (w.heap.size + 1 + 1) cur) ∧
    Hid (Bx w.heap.size D.size (.slice a D.secs.length cap) (.slice b D.pend.length cap2) D.left wr) ∧ Hid (Bx (w.heap.size + 1) 0 (.slice none 0 0) (.slice none 0 0) 0 wr) ∧ Below w.heap.size w wr) (fun i _ => D.pend.length - (intOf i).toNat)
  case atStart => exact ⟨0, D.secs, Nat.zero_le _, rfl, rfl, Lib.hid hok.secs, rfl, hR3, Y0, Y1, B3⟩
  case round =>
    obtain ⟨j, cur, hj, rfl, hcl, hcz, hset, hR, hY0, hY1, hBr⟩ := hrel
    by_cases hlt : j < D.pend.length
    · obtain ⟨b1, o1, rfl, hb1, hcell⟩ := HC2.out.resolve_left (by intro e; rw [e] at hlt; simp at hlt)
      obtain ⟨hc1, hc2⟩ := hcell j hlt
      have p0 := (hBr.cell (p := ⟨b1, o1 + j * 2, none⟩) hb1).trans hc1
      have p1 := (hBr.cell (p := ⟨b1, o1 + j * 2 + 1, none⟩) hb1).trans hc2
      have hS := hset.out
      obtain ⟨v1, v2, v3⟩ := hok.pend _ (List.getElem_mem hlt)
      rw [List.drop_eq_getElem_cons hlt, settleL] at hS
      generalize D.pend[j] = p at p0 p1 hS v1 v2 v3
      obtain ⟨s, x⟩ := p
      simp only at p0 p1 hS v1 v2 v3
      obtain ⟨sn, rfl⟩ := Int.eq_ofNat_of_zero_le v1
      have hsn : sn < cur.length := by rw [hcl.out]; omega
      rw [Int.toNat_natCast, getD_at _ _ hsn] at hS
      have hkj := HK.out j
      have hys := hcz.out _ (List.getElem_mem hsn)
      have cs := hR.out.cell sn hsn
      have fs := hR.out.free sn
      generalize cur[sn] = y at cs hS hys
      have HSS := Lib.hid hS
      obtain ⟨kj, hkj2⟩ : ∃ k, kept j = k := ⟨_, rfl⟩
      rw [hkj2] at hkj
      have HKJ := Lib.hid hkj2
      have hkx : kj ≤ x.size := by omega
      have hky : kj ≤ y.size := by omega
      have hxb : x.size ≤ 512 := by have := hok.s2; omega
      have hyb : y.size ≤ 512 := by have := hok.s2; omega
      have hxy : Hid ((x.size : Int) = D.size ∧ (y.size : Int) = D.size) := Lib.hid ⟨v3, hys⟩
      have hsl : (sn : Int) < D.secs.length := v2
      clear hcell hc1 hc2 hset hS hkj2 hkj v3 hys v1 v2 hsn
      have Ba := hBr.alloc hBr.size (.cells #[.int .i64 sn, .string x] 44)
      go_wp2_with fail
      ((with_reducible refine (HKK.out j _ hlt Ba).mono ?_); rintro e w4 ⟨he, hb4⟩)
      rw [HKJ.out] at he
      subst he
      have B4 := Ba.trans (hb4.mono Ba.size)
      have Z0 := Lib.hid ((hY0.out.alloc (.cells #[.int .i64 sn, .string x] 44)).below hb4 (by simp; have := hY0.out.lt; omega))
      have Z1 := Lib.hid ((hY1.out.alloc (.cells #[.int .i64 sn, .string x] 44)).below hb4 (by simp; have := hY1.out.lt; omega))
      have ltG := hR.out.lt
      have ZR := Lib.hid ((hR.out.alloc (.cells #[.int .i64 sn, .string x] 44)).below hb4 (by simp; omega))
      have n0 : w4.cell? ⟨wr.heap.size, 0, none⟩ = some (.int .i64 sn) := (hb4.cell (p := ⟨wr.heap.size, 0, none⟩) (by simp)).trans (by simp [World.cell?_alloc_new])
      have n1 : w4.cell? ⟨wr.heap.size, 1, none⟩ = some (.string x) := (hb4.cell (p := ⟨wr.heap.size, 1, none⟩) (by simp)).trans (by simp [World.cell?_alloc_new])
      have m0 : w4.cell? ⟨w.heap.size + 1 + 1, sn, none⟩ = some (.string y) := (hb4.cell (p := ⟨w.heap.size + 1 + 1, sn, none⟩) (by simp; omega)).trans ((((Below.refl _ wr).alloc (Nat.le_refl _) (.cells #[.int .i64 sn, .string x] 44)).cell (p := ⟨w.heap.size + 1 + 1, sn, none⟩) ltG).trans cs)
      have m1 : w4.frozen? ⟨w.heap.size + 1 + 1, sn, none⟩ = false := ZR.out.free sn
      clear cs fs hR hY0 hY1 p0 p1 hb4 Ba hBr
      have hsl2 : sn < D.secs.length := by omega
      go_upto_region 7 with fail
      go_region
      all_goals go_wp2
      all_goals go_roundw
      case rel =>
        exact ⟨j + 1, cur.set sn (tear kj x y), by omega, by go_num, Lib.hid (by rw [List.length_set]; exact hcl.out), Lib.hid (fun z hz => by
          rcases List.mem_or_eq_of_mem_set hz with hz | rfl
          · exact hcz.out z hz
          · rw [tear_size _ _ _ hkx (by have := hxy.out.1; have := hxy.out.2; omega)]; exact hxy.out.1), Lib.hid (by rw [← HSS.out, HKJ.out]), Lib.hid ((show IsR w4.drew (w.heap.size + 1 + 1) cur from ZR.out).set sn (tear kj x y)), Lib.hid (Z0.out.drew.other (by omega) sn _), Lib.hid (Z1.out.drew.other (by omega) sn _), B4.drew.setCell (p := ⟨w.heap.size + 1 + 1, sn, none⟩) (by simp; omega) _⟩
      case measure => simp [intOf]; omega
    · have hS := hset.out
      rw [List.drop_eq_nil_of_le (by omega), settleL] at hS
      obtain ⟨q0, q1, q2, q3, g0, g1, g2, g3, qlt⟩ := hY0.out
      obtain ⟨r0, r1, r2, r3, k0, k1, k2, k3, rlt⟩ := hY1.out
      have hlc := hcl.out
      have HSS := Lib.hid hS
      have HLC := Lib.hid hlc
      clear hset hS hlc hY0 hY1
      go_wp2
      have hR6 : IsR ((((((wr.setCell ⟨w.heap.size, 1, none⟩ (.slice (some ⟨w.heap.size + 1 + 1, 0, none⟩) D.secs.length D.secs.length)).setCell ⟨w.heap.size, 2, none⟩ (.slice none 0 0)).setCell ⟨w.heap.size + 1, 0, none⟩ (.int .i64 D.size)).setCell ⟨w.heap.size + 1, 1, none⟩ (.slice (some ⟨w.heap.size + 1 + 1, 0, none⟩) D.secs.length D.secs.length)).setCell ⟨w.heap.size + 1, 2, none⟩ (.slice none 0 0)).setCell ⟨w.heap.size + 1, 3, none⟩ (.int .i64 D.left)) (w.heap.size + 1 + 1) cur :=
        (((((hR.out.other (by omega) _ _).other (by omega) _ _).other (by omega) _ _).other (by omega) _ _).other (by omega) _ _).other (by omega) _ _
      have Sn := below_set4 ((hBr.setCell (p := ⟨w.heap.size, 1, none⟩) (Nat.le_refl _) (.slice (some ⟨w.heap.size + 1 + 1, 0, none⟩) D.secs.length D.secs.length)).setCell (p := ⟨w.heap.size, 2, none⟩) (Nat.le_refl _) (.slice none 0 0)) (g := w.heap.size + 1) (by simp) (.int .i64 D.size) (.slice (some ⟨w.heap.size + 1 + 1, 0, none⟩) D.secs.length D.secs.length) (.slice none 0 0) (.int .i64 D.left)
      exact bodyPost_ret (v := dv D.size (.slice (some ⟨w.heap.size + 1 + 1, 0, none⟩) D.secs.length D.secs.length) (.slice none 0 0) D.left) (by simp [results, Try.results37, go_sem, r0, r1, r2, r3, World.cell?_setCell_other, World.cell?_setCell_same']) rfl ⟨_, rfl, (fun W' s1 s2 => by
        have hR7 : IsR W' (w.heap.size + 1 + 1) cur := (s2 _ (by omega) hR6.lt).trans hR6
        have hS6 := hR7.strs (by rw [HLC.out]; unfold maxLen; omega)
        rw [HLC.out, HSS.out] at hS6
        exact ⟨_, _, rfl, hS6, isWs_nil _⟩), Sn⟩
end Go.Proofs.Ytgdfdelggihceaa
