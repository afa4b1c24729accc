/- For every trial and numbers SprtMirror returns true and leaves its arguments as they were: exchanging the roles of passes and fails exchanges the decisions. No condition. -/
import Derived.Test.YtldpdoakfacdbaaLawMono
import Derived.Deep.DeepCutAuto
namespace Go.Proofs.Ytldpdoakfacdbaa
open Go.ChangeShapes Go.WideShapes Go.ChangeAt Go.RowKit

theorem L8.all {gn gd bn bd an ad en ed : Int} {M : Nat} {W : World} (h : L8 gn gd bn bd an ad en ed M W) : W.cell? ⟨M, 0, none⟩ = some (.int .i64 gn) ∧ W.cell? ⟨M, 1, none⟩ = some (.int .i64 gd) ∧ W.cell? ⟨M, 2, none⟩ = some (.int .i64 bn) ∧ W.cell? ⟨M, 3, none⟩ = some (.int .i64 bd) ∧
    W.cell? ⟨M, 4, none⟩ = some (.int .i64 an) ∧ W.cell? ⟨M, 5, none⟩ = some (.int .i64 ad) ∧ W.cell? ⟨M, 6, none⟩ = some (.int .i64 en) ∧ W.cell? ⟨M, 7, none⟩ = some (.int .i64 ed) := ⟨h.c0, h.c1, h.c2, h.c3, h.c4, h.c5, h.c6, h.c7⟩
theorem L8.alloc {gn gd bn bd an ad en ed : Int} {M : Nat} {W : World} (h : L8 gn gd bn bd an ad en ed M W) (o : Obj) : L8 gn gd bn bd an ad en ed M (W.alloc o) := h.below ((Below.refl _ _).alloc (Nat.le_refl _) o) h.lt

/-- A block of eight zeros that may be written. -/
structure Z8 (g : Nat) (W : World) : Prop where
  cells : L8 0 0 0 0 0 0 0 0 g W
  free : ∀ o, W.frozen? ⟨g, o, none⟩ = false
theorem Z8.fresh (W : World) : Z8 W.heap.size (W.alloc (.cells #[.int .i64 0, .int .i64 0, .int .i64 0, .int .i64 0, .int .i64 0, .int .i64 0, .int .i64 0, .int .i64 0] 25)) := ⟨L8.fresh 0 0 0 0 0 0 0 0 W 25, fun o => World.frozen?_alloc_new (w := W) _ _ o⟩
theorem Z8.below {g : Nat} {W W' : World} (h : Z8 g W) {B : Nat} (hB : Below B W W') (hN : g < B) : Z8 g W' := ⟨h.cells.below hB hN, fun o => (hB.frozen (p := ⟨g, o, none⟩) hN).trans (h.free o)⟩
theorem L8.drewn {gn gd bn bd an ad en ed : Int} {M : Nat} {W : World} (h : L8 gn gd bn bd an ad en ed M W) : L8 gn gd bn bd an ad en ed M W.drew := ⟨h.c0, h.c1, h.c2, h.c3, h.c4, h.c5, h.c6, h.c7, h.lt⟩
theorem L8.set8 {gn gd bn bd an ad en ed : Int} {M : Nat} {W : World} (h : L8 gn gd bn bd an ad en ed M W) {g : Nat} (hne : M ≠ g) (x0 x1 x2 x3 x4 x5 x6 x7 : Value) : L8 gn gd bn bd an ad en ed M ((((((((W.setCell ⟨g, 0, none⟩ x0).setCell ⟨g, 1, none⟩ x1).setCell ⟨g, 2, none⟩ x2).setCell ⟨g, 3, none⟩ x3).setCell ⟨g, 4, none⟩ x4).setCell ⟨g, 5, none⟩ x5).setCell ⟨g, 6, none⟩ x6).setCell ⟨g, 7, none⟩ x7) := by
  have key : (((((((((W.setCell ⟨g, 0, none⟩ x0).setCell ⟨g, 1, none⟩ x1).setCell ⟨g, 2, none⟩ x2).setCell ⟨g, 3, none⟩ x3).setCell ⟨g, 4, none⟩ x4).setCell ⟨g, 5, none⟩ x5).setCell ⟨g, 6, none⟩ x6).setCell ⟨g, 7, none⟩ x7)).heap[M]? = W.heap[M]? := by
    rw [Below.heap_setCell _ _ _ _ hne, Below.heap_setCell _ _ _ _ hne, Below.heap_setCell _ _ _ _ hne, Below.heap_setCell _ _ _ _ hne, Below.heap_setCell _ _ _ _ hne, Below.heap_setCell _ _ _ _ hne, Below.heap_setCell _ _ _ _ hne, Below.heap_setCell _ _ _ _ hne]
  have c := fun o => World.cell?_of_block (a := ⟨M, o, none⟩) key
  exact ⟨(c 0).trans h.c0, (c 1).trans h.c1, (c 2).trans h.c2, (c 3).trans h.c3, (c 4).trans h.c4, (c 5).trans h.c5, (c 6).trans h.c6, (c 7).trans h.c7, by simpa [World.setCell] using h.lt⟩
theorem below_set8 {B : Nat} {A W : World} (h : Below B A W) {g : Nat} (hg : B ≤ g) (x0 x1 x2 x3 x4 x5 x6 x7 : Value) : Below B A ((((((((W.setCell ⟨g, 0, none⟩ x0).setCell ⟨g, 1, none⟩ x1).setCell ⟨g, 2, none⟩ x2).setCell ⟨g, 3, none⟩ x3).setCell ⟨g, 4, none⟩ x4).setCell ⟨g, 5, none⟩ x5).setCell ⟨g, 6, none⟩ x6).setCell ⟨g, 7, none⟩ x7) :=
  (((((((h.setCell (p := ⟨g, 0, none⟩) hg x0).setCell (p := ⟨g, 1, none⟩) hg x1).setCell (p := ⟨g, 2, none⟩) hg x2).setCell (p := ⟨g, 3, none⟩) hg x3).setCell (p := ⟨g, 4, none⟩) hg x4).setCell (p := ⟨g, 5, none⟩) hg x5).setCell (p := ⟨g, 6, none⟩) hg x6).setCell (p := ⟨g, 7, none⟩) hg x7
theorem Z8.put {g : Nat} {W : World} (h : Z8 g W) (x0 x1 x2 x3 x4 x5 x6 x7 : Int) : L8 x0 x1 x2 x3 x4 x5 x6 x7 g ((((((((W.setCell ⟨g, 0, none⟩ (.int .i64 x0)).setCell ⟨g, 1, none⟩ (.int .i64 x1)).setCell ⟨g, 2, none⟩ (.int .i64 x2)).setCell ⟨g, 3, none⟩ (.int .i64 x3)).setCell ⟨g, 4, none⟩ (.int .i64 x4)).setCell ⟨g, 5, none⟩ (.int .i64 x5)).setCell ⟨g, 6, none⟩ (.int .i64 x6)).setCell ⟨g, 7, none⟩ (.int .i64 x7)) := by
  obtain ⟨z0, z1, z2, z3, z4, z5, z6, z7⟩ := h.cells.all
  refine ⟨?_, ?_, ?_, ?_, ?_, ?_, ?_, ?_, by simpa [World.setCell] using h.cells.lt⟩ <;>
    simp [World.cell?_setCell_other, World.cell?_setCell_same', z0, z1, z2, z3, z4, z5, z6, z7]
theorem Z8.drew {g : Nat} {W : World} (h : Z8 g W) : Z8 g W.drew := ⟨⟨h.cells.c0, h.cells.c1, h.cells.c2, h.cells.c3, h.cells.c4, h.cells.c5, h.cells.c6, h.cells.c7, h.cells.lt⟩, h.free⟩

theorem other_any (n d : Nat) (h : n ≤ d) (hd : d ≤ 20) (w : World) : Calls Try.prog 23 #[.agg #[.int .i64 n, .int .i64 d]] w fun e w' => e = .returned (.agg #[.int .i64 ((d - n : Nat) : Int), .int .i64 d]) ∧ Below w.heap.size w w' := by
  have e1 := wrap_sub d n h (by omega)
  have H := Lib.hid (Int.natCast_sub h)
  go_enter Try.func23, Try.ntmps23
  go_wp2
  exact bodyPost_ret (v := .agg #[.int .i64 ((d - n : Nat) : Int), .int .i64 d]) (by simp [results, Try.results23, go_sem, H.out]) rfl ⟨rfl, ((Below.refl _ _).alloc (Nat.le_refl _) _).alloc (by simp) _⟩

set_option maxHeartbeats 1000000 in
theorem mirror_bad (gn gd bn bd an ad en ed : Int) (hk : chk gn gd bn bd an ad en ed = 1) (a c : Nat) (ha : a < 256) (hc : c < 256) (w : World) :
    Calls Try.prog 11 #[trialV gn gd bn bd an ad en ed, .int .u8 a, .int .u8 c] w fun e w' => e = .returned (.bool true) ∧ Below w.heap.size w w' := by
  have HK := Lib.hid hk
  clear hk
  have hB := (Below.refl w.heap.size w).alloc (Nat.le_refl _) (.cells #[.int .i64 gn, .int .i64 gd, .int .i64 bn, .int .i64 bd, .int .i64 an, .int .i64 ad, .int .i64 en, .int .i64 ed] 25)
  go_enter Try.func11, Try.ntmps11
  go_wp2_with fail
  ((with_reducible refine (refCheck_any gn gd bn bd an ad en ed _).mono ?_); rintro e w1 ⟨he, hb1⟩)
  rw [HK.out] at he
  subst he
  go_wp2_with fail
  ((with_reducible refine (awake_any _).mono ?_); rintro e w2 ⟨rfl, hb2⟩)
  go_wp2
  go_ret
  exact ⟨rfl, (hB.trans (hb1.mono hB.size)).trans (hb2.mono (hB.trans (hb1.mono hB.size)).size)⟩

set_option maxHeartbeats 1000000 in
theorem mirror_far (gn gd bn bd an ad en ed : Int) (hk : chk gn gd bn bd an ad en ed = 0) (a c : Nat) (h : 40 < a % 41 + c % 41) (ha : a < 256) (hc : c < 256) (w : World) :
    Calls Try.prog 11 #[trialV gn gd bn bd an ad en ed, .int .u8 a, .int .u8 c] w fun e w' => e = .returned (.bool true) ∧ Below w.heap.size w w' := by
  have h' : (40 : Int) < (a : Int) % 41 + (c : Int) % 41 := by omega
  have HK := Lib.hid hk
  clear hk
  have hB := (Below.refl w.heap.size w).alloc (Nat.le_refl _) (.cells #[.int .i64 gn, .int .i64 gd, .int .i64 bn, .int .i64 bd, .int .i64 an, .int .i64 ad, .int .i64 en, .int .i64 ed] 25)
  go_enter Try.func11, Try.ntmps11
  go_wp2_with fail
  ((with_reducible refine (refCheck_any gn gd bn bd an ad en ed _).mono ?_); rintro e w1 ⟨he, hb1⟩)
  rw [HK.out] at he
  subst he
  go_wp2_with fail
  ((with_reducible refine (awake_any _).mono ?_); rintro e w2 ⟨rfl, hb2⟩)
  go_wp2
  go_ret
  exact ⟨rfl, (hB.trans (hb1.mono hB.size)).trans (hb2.mono (hB.trans (hb1.mono hB.size)).size)⟩
theorem Decide_mirror (t : Tr) (h : t.Ok) (z1 z2 : Int) (p f : Nat) (e1 : z1 = p) (e2 : z2 = f) (hpf : p + f ≤ 40) (r : Int) (hr : t.mirror.dec p f = r) (w : World) :
    Calls Try.prog 15 #[trialV ((t.bd - t.bn : Nat) : Int) t.bd ((t.gd - t.gn : Nat) : Int) t.gd t.en t.ed t.an t.ad, .int .i64 z1, .int .i64 z2] w fun e w' => e = .returned (.tuple #[.int .i64 r, .int .i64 0]) ∧ Below w.heap.size w w' :=
  Decide_good t.mirror h.mirror z1 z2 p f e1 e2 hpf r hr w

set_option maxHeartbeats 8000000 in
theorem mirror_walk (t : Tr) (ht : t.Ok) (a c : Nat) (h : a % 41 + c % 41 ≤ 40) (ha : a < 256) (hc : c < 256) (w : World) :
    Calls Try.prog 11 #[trialV t.gn t.gd t.bn t.bd t.an t.ad t.en t.ed, .int .u8 a, .int .u8 c] w fun e w' => e = .returned (.bool true) ∧ Below w.heap.size w w' := by
  have h' : (a : Int) % 41 + (c : Int) % 41 ≤ 40 := by omega
  have HK := Lib.hid (chk_ok ht)
  have k0 := Lib.hid (L8.fresh t.gn t.gd t.bn t.bd t.an t.ad t.en t.ed w 25)
  have hB := (Below.refl w.heap.size w).alloc (Nat.le_refl _) (.cells #[.int .i64 t.gn, .int .i64 t.gd, .int .i64 t.bn, .int .i64 t.bd, .int .i64 t.an, .int .i64 t.ad, .int .i64 t.en, .int .i64 t.ed] 25)
  go_enter Try.func11, Try.ntmps11
  go_wp2_with fail
  ((with_reducible refine (refCheck_any _ _ _ _ _ _ _ _ _).mono ?_); rintro e w1 ⟨he, hb1⟩)
  rw [HK.out] at he
  subst he
  have k1 := k0.out.below hb1 k0.out.lt
  have B1 := hB.trans (hb1.mono hB.size)
  clear hb1 hB k0
  go_upto_region 5 with fail
  have start := k1.drewn
  have Bd := B1.drew
  have startB := (k1.alloc (.cells #[.int .i64 0, .int .i64 0, .int .i64 0, .int .i64 0, .int .i64 0, .int .i64 0, .int .i64 0, .int .i64 0] 25)).drewn
  have BdB := (B1.alloc B1.size (.cells #[.int .i64 0, .int .i64 0, .int .i64 0, .int .i64 0, .int .i64 0, .int .i64 0, .int .i64 0, .int .i64 0] 25)).drew
  have zB := (Z8.fresh w1).drew
  go_cut [10] (fun s10 W => ∃ g : Nat, s10 = .pointer (some ⟨g, 0, none⟩) ∧ L8 ((t.bd - t.bn : Nat) : Int) t.bd ((t.gd - t.gn : Nat) : Int) t.gd t.en t.ed t.an t.ad g W ∧ L8 t.gn t.gd t.bn t.bd t.an t.ad t.en t.ed w.heap.size W ∧ Below w.heap.size w W)
  case first =>
    go_region_held3 (fun W => W.cell? ⟨w.heap.size, 0, none⟩ = some (.int .i64 t.gn) ∧ W.cell? ⟨w.heap.size, 1, none⟩ = some (.int .i64 t.gd) ∧ W.cell? ⟨w.heap.size, 2, none⟩ = some (.int .i64 t.bn) ∧ W.cell? ⟨w.heap.size, 3, none⟩ = some (.int .i64 t.bd) ∧ W.cell? ⟨w.heap.size, 4, none⟩ = some (.int .i64 t.an) ∧ W.cell? ⟨w.heap.size, 5, none⟩ = some (.int .i64 t.ad) ∧ W.cell? ⟨w.heap.size, 6, none⟩ = some (.int .i64 t.en) ∧ W.cell? ⟨w.heap.size, 7, none⟩ = some (.int .i64 t.ed)) (first | with_reducible exact hh.all | with_reducible exact start.all | with_reducible exact startB.all | with_reducible exact hA.all | with_reducible exact (hh.alloc _).all | with_reducible exact (hh.set8 (Nat.ne_of_lt k1.lt) _ _ _ _ _ _ _ _).all | with_reducible exact (hh.set8 (Nat.ne_of_lt lt2) _ _ _ _ _ _ _ _).all | with_reducible exact k1.all | with_reducible exact (k1.alloc _).all) (first | (go_at_call 23; (with_reducible refine (other_any t.bn t.bd (Nat.le_of_lt ht.b.nd) ht.b.d20 _).mono ?_); rintro e w2 ⟨rfl, hb2⟩; (first | (with_reducible (have hh := start.below hb2 start.lt; have B2 := Bd.trans (hb2.mono Bd.size); have hA := hh.alloc (.cells #[.int .i64 0, .int .i64 0, .int .i64 0, .int .i64 0, .int .i64 0, .int .i64 0, .int .i64 0, .int .i64 0] 25); have BA := B2.alloc B2.size (.cells #[.int .i64 0, .int .i64 0, .int .i64 0, .int .i64 0, .int .i64 0, .int .i64 0, .int .i64 0, .int .i64 0] 25); have zn := Z8.fresh w2; have lt2 := hh.lt; have le2 := B2.size)) | ((with_reducible (have hh := startB.below hb2 startB.lt; have B2 := BdB.trans (hb2.mono BdB.size); have zz := zB.below hb2 zB.cells.lt)); have zl := zz.cells.lt; obtain ⟨z0, z1, z2, z3, z4, z5, z6, z7⟩ := zz.cells.all; have zf0 := zz.free 0; have zf1 := zz.free 1; have zf2 := zz.free 2; have zf3 := zz.free 3; have zf4 := zz.free 4; have zf5 := zz.free 5; have zf6 := zz.free 6; have zf7 := zz.free 7))) | (go_at_call 23; (with_reducible refine (other_any t.gn t.gd (Nat.le_of_lt ht.g.nd) ht.g.d20 _).mono ?_); rintro e w3 ⟨rfl, hb3⟩; (first | ((with_reducible (have hz := zz.below hb3 zz.cells.lt; have hh := hh.below hb3 hh.lt; have B3 := B2.trans (hb3.mono B2.size))); clear zl z0 z1 z2 z3 z4 z5 z6 z7 zf0 zf1 zf2 zf3 zf4 zf5 zf6 zf7; have zz := hz; have zl := zz.cells.lt; obtain ⟨z0, z1, z2, z3, z4, z5, z6, z7⟩ := zz.cells.all; have zf0 := zz.free 0; have zf1 := zz.free 1; have zf2 := zz.free 2; have zf3 := zz.free 3; have zf4 := zz.free 4; have zf5 := zz.free 5; have zf6 := zz.free 6; have zf7 := zz.free 7) | (with_reducible (have hh := hh.below hb3 hh.lt; have B3 := B2.trans (hb3.mono B2.size); have hA := hh.alloc (.cells #[.int .i64 0, .int .i64 0, .int .i64 0, .int .i64 0, .int .i64 0, .int .i64 0, .int .i64 0, .int .i64 0] 25))) | ((with_reducible (have zz := zn.below hb3 zn.cells.lt; have hh := hA.below hb3 hA.lt; have B3 := BA.trans (hb3.mono BA.size))); have zl := zz.cells.lt; obtain ⟨z0, z1, z2, z3, z4, z5, z6, z7⟩ := zz.cells.all; have zf0 := zz.free 0; have zf1 := zz.free 1; have zf2 := zz.free 2; have zf3 := zz.free 3; have zf4 := zz.free 4; have zf5 := zz.free 5; have zf6 := zz.free 6; have zf7 := zz.free 7))))
    all_goals (go_wp2; go_meet)
    all_goals first
      | with_reducible exact ⟨_, rfl, L8.fresh _ _ _ _ _ _ _ _ w3 25, hh.alloc _, B3.alloc B3.size _⟩
      | with_reducible exact ⟨_, rfl, zz.put _ _ _ _ _ _ _ _, hh.set8 (Nat.ne_of_lt k1.lt) _ _ _ _ _ _ _ _, below_set8 B3 B1.size _ _ _ _ _ _ _ _⟩
      | with_reducible exact ⟨_, rfl, zz.put _ _ _ _ _ _ _ _, hh.set8 (Nat.ne_of_lt lt2) _ _ _ _ _ _ _ _, below_set8 B3 le2 _ _ _ _ _ _ _ _⟩
      | trace_state
  case rest =>
    obtain ⟨g, rfl, m8, t8, BW⟩ := hcut
    have M8 := Lib.hid m8
    have T8 := Lib.hid t8
    clear m8 t8 start Bd startB BdB zB k1 B1
    rcases ht.dec_mirror (a % 41) (c % 41) with ⟨e0, e1⟩ | ⟨e0, e1⟩ | ⟨e0, e1⟩
    · have E0 := Lib.hid e0
      have E1 := Lib.hid e1
      clear e0 e1
      obtain ⟨c0, c1, c2, c3, c4, c5, c6, c7, lt⟩ := T8.out
      go_wp2_with fail
      ((with_reducible refine (Decide_good t ht _ _ (a % 41) (c % 41) (by omega) (by omega) (by omega) 0 E0.out _).mono ?_); rintro e w5 ⟨rfl, hb5⟩)
      clear c0 c1 c2 c3 c4 c5 c6 c7 lt
      have M5 := Lib.hid (M8.out.below hb5 M8.out.lt)
      have B5 := BW.trans (hb5.mono BW.size)
      obtain ⟨c0, c1, c2, c3, c4, c5, c6, c7, lt⟩ := M5.out
      go_wp2_with fail
      ((with_reducible refine (Decide_mirror t ht _ _ (c % 41) (a % 41) (by omega) (by omega) (by omega) 0 E1.out _).mono ?_); rintro e w6 ⟨rfl, hb6⟩)
      have B6 := B5.trans (hb6.mono B5.size)
      go_wp2_with fail
      ((with_reducible refine (awake_any _).mono ?_); rintro e w7 ⟨rfl, hb7⟩)
      go_wp2
      go_ret
      exact ⟨rfl, B6.trans (hb7.mono B6.size)⟩
    · have E0 := Lib.hid e0
      have E1 := Lib.hid e1
      clear e0 e1
      obtain ⟨c0, c1, c2, c3, c4, c5, c6, c7, lt⟩ := T8.out
      go_wp2_with fail
      ((with_reducible refine (Decide_good t ht _ _ (a % 41) (c % 41) (by omega) (by omega) (by omega) 1 E0.out _).mono ?_); rintro e w5 ⟨rfl, hb5⟩)
      clear c0 c1 c2 c3 c4 c5 c6 c7 lt
      have M5 := Lib.hid (M8.out.below hb5 M8.out.lt)
      have B5 := BW.trans (hb5.mono BW.size)
      obtain ⟨c0, c1, c2, c3, c4, c5, c6, c7, lt⟩ := M5.out
      go_wp2_with fail
      ((with_reducible refine (Decide_mirror t ht _ _ (c % 41) (a % 41) (by omega) (by omega) (by omega) 2 E1.out _).mono ?_); rintro e w6 ⟨rfl, hb6⟩)
      have B6 := B5.trans (hb6.mono B5.size)
      go_wp2_with fail
      ((with_reducible refine (awake_any _).mono ?_); rintro e w7 ⟨rfl, hb7⟩)
      go_wp2
      go_ret
      exact ⟨rfl, B6.trans (hb7.mono B6.size)⟩
    · have E0 := Lib.hid e0
      have E1 := Lib.hid e1
      clear e0 e1
      obtain ⟨c0, c1, c2, c3, c4, c5, c6, c7, lt⟩ := T8.out
      go_wp2_with fail
      ((with_reducible refine (Decide_good t ht _ _ (a % 41) (c % 41) (by omega) (by omega) (by omega) 2 E0.out _).mono ?_); rintro e w5 ⟨rfl, hb5⟩)
      clear c0 c1 c2 c3 c4 c5 c6 c7 lt
      have M5 := Lib.hid (M8.out.below hb5 M8.out.lt)
      have B5 := BW.trans (hb5.mono BW.size)
      obtain ⟨c0, c1, c2, c3, c4, c5, c6, c7, lt⟩ := M5.out
      go_wp2_with fail
      ((with_reducible refine (Decide_mirror t ht _ _ (c % 41) (a % 41) (by omega) (by omega) (by omega) 1 E1.out _).mono ?_); rintro e w6 ⟨rfl, hb6⟩)
      have B6 := B5.trans (hb6.mono B5.size)
      go_wp2_with fail
      ((with_reducible refine (awake_any _).mono ?_); rintro e w7 ⟨rfl, hb7⟩)
      go_wp2
      go_ret
      exact ⟨rfl, B6.trans (hb7.mono B6.size)⟩

theorem mirror_any (gn gd bn bd an ad en ed : Int) (a c : Nat) (ha : a < 256) (hc : c < 256) (w : World) :
    Calls Try.prog 11 #[trialV gn gd bn bd an ad en ed, .int .u8 a, .int .u8 c] w fun e w' => e = .returned (.bool true) ∧ Below w.heap.size w w' := by
  rcases chk_cases gn gd bn bd an ad en ed with hk | ⟨hk, t, ht, rfl, rfl, rfl, rfl, rfl, rfl, rfl, rfl⟩
  · exact mirror_bad gn gd bn bd an ad en ed hk a c ha hc w
  · rcases Nat.lt_or_ge 40 (a % 41 + c % 41) with h | h
    · exact mirror_far _ _ _ _ _ _ _ _ (chk_ok ht) a c h ha hc w
    · exact mirror_walk t ht a c h ha hc w

set_option maxRecDepth 100000 in
theorem mirror_lifted (os : Os) (started : os.Started) (H : Type) (enc : TypeId × Value → H) :
    ReturnsInHanded {} Try.checked os 11 .any (Rows.sprtMirrorSpec.pre6 enc Try.prog Try.f11 Rows.sprtMirrorRow.domain false) (Rows.sprtMirrorSpec.post enc Try.prog Try.f11 false true false false) := by
  refine returnsInHanded_of_change (C := Try.checked) ownK started (by kernel_rfl) Try.func11
    (ChangeSpec.witness6 (enc := enc) (C := Try.checked) false ⟨#[], #[trialV 0 0 0 0 0 0 0 0, .int .u8 0, .int .u8 0], []⟩ 8 (by kernel_rfl) (by kernel_rfl) (by kernel_rfl) (by kernel_rfl)) ?_
  intro W base args ds gs before hval0 hW hcnd _
  have hval : ∀ (j : Nat) t v, Try.f11.params[j]? = some t → args[j]? = some v → Value.okWide Try.prog W .any base t v := hval0
  have hW' := hW
  obtain ⟨p, q, hA0, hV, rfl, hfz, hnd⟩ := hW
  have hA : DataW.TrodAll enc Try.prog W 0 (fun _ => true) true Try.f11.params.toList args.toList ds p := hA0
  rw [Try.params11] at hA hval
  obtain ⟨v0, v1, v2, d0, d1, d2, p0, p1, p2, rfl, rfl, rfl, h0, h1, h2⟩ := trodAll_three hA
  obtain ⟨rfl, rfl⟩ := trodVars_none hV
  have k0 := h0
  have lt0 : ∀ x ∈ p0, x.block < W.heap.size := by obtain ⟨m, hm⟩ := k0; exact DataW.trod_lt m _ _ _ hm
  obtain ⟨gn, gd, bn, bd, an, ad, en, ed, rfl⟩ := open_trial (hval 0 25 v0 rfl rfl) h0
  obtain ⟨z1, rfl, rfl, rfl, w1⟩ := open_int Try.underlying5 (hval 1 5 v1 rfl rfl) h1
  obtain ⟨z2, rfl, rfl, rfl, w2⟩ := open_int Try.underlying5 (hval 2 5 v2 rfl rfl) h2
  have b1 := u8_bounds w1
  have b2 := u8_bounds w2
  obtain ⟨a, rfl⟩ := Int.eq_ofNat_of_zero_le b1.1
  obtain ⟨c, rfl⟩ := Int.eq_ofNat_of_zero_le b2.1
  clear hA0 hval0
  refine (mirror_any gn gd bn bd an ad en ed a c (by omega) (by omega) W).mono fun e W' ⟨he, bel⟩ => ?_
  subst he
  exact ⟨_, rfl, _, _, _, [], _, [], hW', trodAll_mk1 (shut_bool Try.underlying4 _), (trodAll_cons_mk (Below.trod laidOut (by kernel_rfl) (of_decide_eq_true (by kernel_rfl)) k0 bel lt0) (trodAll_cons_mk (shut_int Try.underlying5 w1) (trodAll_cons_mk (shut_int Try.underlying5 w2) trodAll_mk0))), rfl, bel.frame _, fun h => by cases h⟩

theorem mirror_holds : Rows.SprtMirrorSaid :=
  OpenClaim.holds_of_wide 11 Try.f11 rfl rfl rfl rfl rfl rfl rfl ⟨rfl, rfl, rfl, rfl, rfl⟩ rfl rfl rfl rfl rfl (by kernel_rfl) Try.func11 (by kernel_rfl)
    (of_decide_eq_true (by kernel_rfl)) (by unfold Func.isWrapper; rw [if_neg (of_decide_eq_false (by kernel_rfl))]; exact ⟨rfl, rfl⟩)
    (fun os started H enc _ => mirror_lifted os started H enc)
#print axioms mirror_holds
end Go.Proofs.Ytldpdoakfacdbaa
