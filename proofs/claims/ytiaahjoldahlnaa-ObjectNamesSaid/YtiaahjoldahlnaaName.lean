/- object.Name and the reference's, at this translation. -/
import Derived.Test.YtiaahjoldahlnaaDgOf
import Derived.Test.YtiaahjoldahlnaaRefChk
namespace Go.Proofs.Ytiaahjoldahlnaa
open Go.RowKit Go.Great
attribute [local go_sem] eq_arr

/-- The name of an object: the digest of its encoding. -/
def nm0 (o : Ob) : Int := if chk o = 0 then Dg.of0 (encS o).data.toList else 0
def nm1 (o : Ob) : Int := if chk o = 0 then Dg.of1 (encS o).data.toList else 0
/-- A zero digest's box behind the object's. -/
structure Zb (w W : World) : Prop where
  x : W.heap[w.heap.size + 1]? = some (.cells #[.int .u64 0, .int .u64 0] 25 (0, 0))
  b : Below w.heap.size w W
theorem Zb.on {w W W' : World} (h : Zb w W) (hB : Below W.heap.size W W') : Zb w W' :=
  ⟨(hB.block _ (Array.getElem?_eq_some_iff.1 h.x).1).trans h.x, h.b.trans (hB.mono h.b.size)⟩
theorem Zb.fresh (w : World) (o : Obj) : Zb w ((w.alloc o).alloc (.cells #[.int .u64 0, .int .u64 0] 25)) := by
  refine ⟨?_, ((Below.refl _ _).alloc (Nat.le_refl _) _).alloc (by simp) _⟩
  have := World.alloc_heap_new (w.alloc o) (.cells #[.int .u64 0, .int .u64 0] 25)
  rwa [World.size_alloc] at this
theorem Zb.cells {w W : World} (h : Zb w W) : W.cell? ⟨w.heap.size + 1, 0, none⟩ = some (.int .u64 0) ∧ W.cell? ⟨w.heap.size + 1, 1, none⟩ = some (.int .u64 0) ∧ W.frozen? ⟨w.heap.size + 1, 0, none⟩ = false ∧ W.frozen? ⟨w.heap.size + 1, 1, none⟩ = false :=
  ⟨by rw [Lib.cell_of_heap h.x]; rfl, by rw [Lib.cell_of_heap h.x]; rfl, Lib.frozen_of_heap h.x 0, Lib.frozen_of_heap h.x 1⟩

set_option maxRecDepth 100000 in
set_option maxHeartbeats 4000000 in
theorem name_bad (k : Int) (d : BA) (ve : Value) (t1 t2 : Nat) (vp : Value) (au : BA) (ti : Int) (ms : BA) (w : World) (s : BA) (r : Int) (hr : r ≠ 0)
    (C : ∀ W, Below w.heap.size w W → Calls Try.prog 17 #[.agg #[.int .i64 k, .string d, ve, .int .u64 t1, .int .u64 t2, vp, .string au, .int .i64 ti, .string ms]] W fun e w' => e = .returned (.tuple #[.string s, .int .i64 r]) ∧ Below W.heap.size W w') :
    Calls Try.prog 19 #[.agg #[.int .i64 k, .string d, ve, .int .u64 t1, .int .u64 t2, vp, .string au, .int .i64 ti, .string ms]] w fun e w' => e = .returned (.tuple #[.agg #[.int .u64 0, .int .u64 0], .int .i64 r]) ∧ Below w.heap.size w w' := by
  have HC := Lib.hid C
  have z0 := Zb.fresh w (oc' k d ve t1 t2 vp au ti ms)
  have hne : (r != 0) = true := by simpa using hr
  clear C hr
  go_enter Try.func19, Try.ntmps19
  go_wp2_with fail
  ((with_reducible refine (HC.out _ z0.b).mono ?_); rintro e w1 ⟨rfl, hb1⟩)
  have z1 := z0.on hb1
  clear z0 hb1
  obtain ⟨c0, c1, f0, f1⟩ := z1.cells
  have hb := (z1.b.setCell (p := ⟨w.heap.size + 1, 0, none⟩) (Nat.le_succ _) (.int .u64 0)).setCell (p := ⟨w.heap.size + 1, 1, none⟩) (Nat.le_succ _) (.int .u64 0)
  clear z1
  go_wp2
  exact bodyPost_ret (v := .tuple #[.agg #[.int .u64 0, .int .u64 0], .int .i64 r]) (by simp [results, Try.results19, go_sem, c0, c1, World.cell?_setCell_other, World.cell?_setCell_same']) rfl ⟨rfl, hb⟩

set_option maxRecDepth 100000 in
set_option maxHeartbeats 4000000 in
theorem name_ok (k : Int) (d : BA) (ve : Value) (t1 t2 : Nat) (vp : Value) (au : BA) (ti : Int) (ms : BA) (w : World) (s : BA) (hs : s.size ≤ maxLen)
    (C : ∀ W, Below w.heap.size w W → Calls Try.prog 17 #[.agg #[.int .i64 k, .string d, ve, .int .u64 t1, .int .u64 t2, vp, .string au, .int .i64 ti, .string ms]] W fun e w' => e = .returned (.tuple #[.string s, .int .i64 0]) ∧ Below W.heap.size W w') (n0 n1 : Int) (h0 : Dg.of0 s.data.toList = n0) (h1 : Dg.of1 s.data.toList = n1) :
    Calls Try.prog 19 #[.agg #[.int .i64 k, .string d, ve, .int .u64 t1, .int .u64 t2, vp, .string au, .int .i64 ti, .string ms]] w fun e w' => e = .returned (.tuple #[.agg #[.int .u64 n0, .int .u64 n1], .int .i64 0]) ∧ Below w.heap.size w w' := by
  have HC := Lib.hid C
  have dd : ∀ W, Calls Try.prog 24 #[.string s] W fun e w' => e = .returned (.agg #[.int .u64 n0, .int .u64 n1]) ∧ Below W.heap.size W w' := by
    intro W; rw [← h0, ← h1]; exact Dg.of_any s W hs
  have HD := Lib.hid dd
  have z0 := Zb.fresh w (oc' k d ve t1 t2 vp au ti ms)
  clear C h0 h1 dd hs
  go_enter Try.func19, Try.ntmps19
  go_wp2_with fail
  ((with_reducible refine (HC.out _ z0.b).mono ?_); rintro e w1 ⟨rfl, hb1⟩)
  have z1 := z0.on hb1
  clear z0 hb1
  go_wp2_with fail
  ((with_reducible refine (HD.out _).mono ?_); rintro e w2 ⟨rfl, hb2⟩)
  have z2 := z1.on hb2
  clear z1 hb2
  obtain ⟨c0, c1, f0, f1⟩ := z2.cells
  have hb := (z2.b.setCell (p := ⟨w.heap.size + 1, 0, none⟩) (Nat.le_succ _) (.int .u64 n0)).setCell (p := ⟨w.heap.size + 1, 1, none⟩) (Nat.le_succ _) (.int .u64 n1)
  clear z2
  go_wp2
  exact bodyPost_ret (v := .tuple #[.agg #[.int .u64 n0, .int .u64 n1], .int .i64 0]) (by simp [results, Try.results19, go_sem, c0, c1, World.cell?_setCell_other, World.cell?_setCell_same']) rfl ⟨rfl, hb⟩

set_option maxRecDepth 100000 in
set_option maxHeartbeats 4000000 in
theorem rname_bad (k : Int) (d : BA) (ve : Value) (t1 t2 : Nat) (vp : Value) (au : BA) (ti : Int) (ms : BA) (w : World) (s : BA) (r : Int) (hr : r ≠ 0)
    (C : ∀ W, Below w.heap.size w W → Calls Try.prog 18 #[.agg #[.int .i64 k, .string d, ve, .int .u64 t1, .int .u64 t2, vp, .string au, .int .i64 ti, .string ms]] W fun e w' => e = .returned (.tuple #[.string s, .int .i64 r]) ∧ Below W.heap.size W w') :
    Calls Try.prog 20 #[.agg #[.int .i64 k, .string d, ve, .int .u64 t1, .int .u64 t2, vp, .string au, .int .i64 ti, .string ms]] w fun e w' => e = .returned (.tuple #[.agg #[.int .u64 0, .int .u64 0], .int .i64 r]) ∧ Below w.heap.size w w' := by
  have HC := Lib.hid C
  have z0 := Zb.fresh w (oc' k d ve t1 t2 vp au ti ms)
  have hne : (r != 0) = true := by simpa using hr
  clear C hr
  go_enter Try.func20, Try.ntmps20
  go_wp2_with fail
  ((with_reducible refine (HC.out _ z0.b).mono ?_); rintro e w1 ⟨rfl, hb1⟩)
  have z1 := z0.on hb1
  clear z0 hb1
  obtain ⟨c0, c1, f0, f1⟩ := z1.cells
  have hb := (z1.b.setCell (p := ⟨w.heap.size + 1, 0, none⟩) (Nat.le_succ _) (.int .u64 0)).setCell (p := ⟨w.heap.size + 1, 1, none⟩) (Nat.le_succ _) (.int .u64 0)
  clear z1
  go_wp2
  exact bodyPost_ret (v := .tuple #[.agg #[.int .u64 0, .int .u64 0], .int .i64 r]) (by simp [results, Try.results20, go_sem, c0, c1, World.cell?_setCell_other, World.cell?_setCell_same']) rfl ⟨rfl, hb⟩

set_option maxRecDepth 100000 in
set_option maxHeartbeats 4000000 in
theorem rname_ok (k : Int) (d : BA) (ve : Value) (t1 t2 : Nat) (vp : Value) (au : BA) (ti : Int) (ms : BA) (w : World) (s : BA) (hs : s.size ≤ maxLen)
    (C : ∀ W, Below w.heap.size w W → Calls Try.prog 18 #[.agg #[.int .i64 k, .string d, ve, .int .u64 t1, .int .u64 t2, vp, .string au, .int .i64 ti, .string ms]] W fun e w' => e = .returned (.tuple #[.string s, .int .i64 0]) ∧ Below W.heap.size W w') (n0 n1 : Int) (h0 : Dg.of0 s.data.toList = n0) (h1 : Dg.of1 s.data.toList = n1) :
    Calls Try.prog 20 #[.agg #[.int .i64 k, .string d, ve, .int .u64 t1, .int .u64 t2, vp, .string au, .int .i64 ti, .string ms]] w fun e w' => e = .returned (.tuple #[.agg #[.int .u64 n0, .int .u64 n1], .int .i64 0]) ∧ Below w.heap.size w w' := by
  have HC := Lib.hid C
  have dd : ∀ W, Calls Try.prog 30 #[.string s] W fun e w' => e = .returned (.agg #[.int .u64 n0, .int .u64 n1]) ∧ Below W.heap.size W w' := by
    intro W; rw [← h0, ← h1]; exact Dg.refOf_any s W hs
  have HD := Lib.hid dd
  have z0 := Zb.fresh w (oc' k d ve t1 t2 vp au ti ms)
  clear C h0 h1 dd hs
  go_enter Try.func20, Try.ntmps20
  go_wp2_with fail
  ((with_reducible refine (HC.out _ z0.b).mono ?_); rintro e w1 ⟨rfl, hb1⟩)
  have z1 := z0.on hb1
  clear z0 hb1
  go_wp2_with fail
  ((with_reducible refine (HD.out _).mono ?_); rintro e w2 ⟨rfl, hb2⟩)
  have z2 := z1.on hb2
  clear z1 hb2
  obtain ⟨c0, c1, f0, f1⟩ := z2.cells
  have hb := (z2.b.setCell (p := ⟨w.heap.size + 1, 0, none⟩) (Nat.le_succ _) (.int .u64 n0)).setCell (p := ⟨w.heap.size + 1, 1, none⟩) (Nat.le_succ _) (.int .u64 n1)
  clear z2
  go_wp2
  exact bodyPost_ret (v := .tuple #[.agg #[.int .u64 n0, .int .u64 n1], .int .i64 0]) (by simp [results, Try.results20, go_sem, c0, c1, World.cell?_setCell_other, World.cell?_setCell_same']) rfl ⟨rfl, hb⟩

theorem encS_fit {o : Ob} (h : chk o = 0) : (encS o).size ≤ maxLen := by
  obtain ⟨h0, hd⟩ := chk_fields h
  unfold maxLen
  rcases encS_size h0 hd with ⟨_, e⟩ | ⟨_, e⟩
  · have := szD_le o.data.size hd
    have := Cd.enc6 o.data.size (by omega)
    omega
  · omega
theorem objName_any (o : Ob) (v : Value) (w : World) (hv : IsOb w v o) (hf : o.Fit) (hd : o.data.size ≤ 2 ^ 60) (n0 n1 : Int) (h0 : nm0 o = n0) (h1 : nm1 o = n1) (r : Int) (hr : chk o = r) :
    Calls Try.prog 19 #[v] w fun e w' => e = .returned (.tuple #[.agg #[.int .u64 n0, .int .u64 n1], .int .i64 r]) ∧ Below w.heap.size w w' := by
  have hv0 := hv
  obtain ⟨ve, vp, rfl, hE, hP⟩ := hv
  have hB := fun (W : World) (hW : Below w.heap.size w W) => hv0.below hW (Nat.le_refl _)
  by_cases h : chk o = 0
  · obtain rfl : r = 0 := by rw [← hr]; exact h
    rw [nm0, if_pos h] at h0
    rw [nm1, if_pos h] at h1
    exact name_ok o.kind o.data ve o.tree.1 o.tree.2 vp o.author o.time o.msg w (encS o) (encS_fit h) (fun W hW => encode_any o _ W (hB W hW) hf hd _ (by rw [encD, if_pos h]) 0 h) n0 n1 h0 h1
  · rw [nm0, if_neg h] at h0
    rw [nm1, if_neg h] at h1
    subst h0 h1
    exact name_bad o.kind o.data ve o.tree.1 o.tree.2 vp o.author o.time o.msg w _ r (by rw [← hr]; exact h) (fun W hW => encode_any o _ W (hB W hW) hf hd _ rfl r hr)
theorem rname_any (o : Ob) (v : Value) (w : World) (hv : IsOb w v o) (hf : o.Fit) (hu : o.Digs64) (n0 n1 : Int) (h0 : nm0 o = n0) (h1 : nm1 o = n1) (r : Int) (hr : chk o = r) :
    Calls Try.prog 20 #[v] w fun e w' => e = .returned (.tuple #[.agg #[.int .u64 n0, .int .u64 n1], .int .i64 r]) ∧ Below w.heap.size w w' := by
  have hv0 := hv
  obtain ⟨ve, vp, rfl, hE, hP⟩ := hv
  have hB := fun (W : World) (hW : Below w.heap.size w W) => hv0.below hW (Nat.le_refl _)
  by_cases h : chk o = 0
  · obtain rfl : r = 0 := by rw [← hr]; exact h
    rw [nm0, if_pos h] at h0
    rw [nm1, if_pos h] at h1
    exact rname_ok o.kind o.data ve o.tree.1 o.tree.2 vp o.author o.time o.msg w (encS o) (encS_fit h) (fun W hW => refEncode_any o _ W (hB W hW) hf hu _ (by rw [encD, if_pos h]) 0 h) n0 n1 h0 h1
  · rw [nm0, if_neg h] at h0
    rw [nm1, if_neg h] at h1
    subst h0 h1
    exact rname_bad o.kind o.data ve o.tree.1 o.tree.2 vp o.author o.time o.msg w _ r (by rw [← hr]; exact h) (fun W hW => refEncode_any o _ W (hB W hW) hf hu _ rfl r hr)
end Go.Proofs.Ytiaahjoldahlnaa
