/- For every two objects ObjectNames returns true and leaves its arguments as they were: encodings are equal exactly if the objects are; the name of an object is the digest of its encoding (of the sizes that the statement names). No condition. -/
import Derived.Test.YtiaahjoldahlnaaAwake
import Derived.Test.YtiaahjoldahlnaaName
import Derived.Test.YtiaahjoldahlnaaSame
import Derived.Test.YtiaahjoldahlnaaGreat
import Derived.Test.YtiaahjoldahlnaaOpen
namespace Go.Proofs.Ytiaahjoldahlnaa
open Go.ChangeShapes Go.WideShapes Go.ChangeAt Go.RowKit Go.Great
open Go.ChangeMaps (open_string shut_string)
attribute [local go_sem] eq_arr

/-- Two objects' boxes. -/
structure Ab (w : World) (cA cB : Array Value) (W : World) : Prop where
  xa : W.heap[w.heap.size]? = some (.cells cA 28 (0, 0))
  xb : W.heap[w.heap.size + 1]? = some (.cells cB 28 (0, 0))
  b : Below w.heap.size w W
theorem Ab.on {w W W' : World} {cA cB : Array Value} (h : Ab w cA cB W) (hB : Below W.heap.size W W') : Ab w cA cB W' :=
  ⟨(hB.block _ (Array.getElem?_eq_some_iff.1 h.xa).1).trans h.xa, (hB.block _ (Array.getElem?_eq_some_iff.1 h.xb).1).trans h.xb, h.b.trans (hB.mono h.b.size)⟩
theorem Ab.alloc {w W : World} {cA cB : Array Value} (h : Ab w cA cB W) (o : Obj) : Ab w cA cB (W.alloc o) := h.on ((Below.refl _ _).alloc (Nat.le_refl _) o)
theorem Ab.drew {w W : World} {cA cB : Array Value} (h : Ab w cA cB W) : Ab w cA cB W.drew := ⟨h.xa, h.xb, h.b.drew⟩
theorem Ab.drewN {w W : World} {cA cB : Array Value} (h : Ab w cA cB W) (n : Nat) : Ab w cA cB (W.drewN n) := ⟨h.xa, h.xb, below_drewN h.b n⟩
theorem Ab.fresh (w : World) (cA cB : Array Value) : Ab w cA cB ((w.alloc (.cells cA 28)).alloc (.cells cB 28)) := by
  refine ⟨(Below.heap_alloc _ _ _ (by simp)).trans (World.alloc_heap_new _ _), ?_, ((Below.refl _ _).alloc (Nat.le_refl _) _).alloc (by simp) _⟩
  have := World.alloc_heap_new (w.alloc (.cells cA 28)) (.cells cB 28)
  rwa [World.size_alloc] at this
theorem nine_at {W : World} {N : Nat} {v0 v1 v2 v3 v4 v5 v6 v7 v8 : Value} (h : W.heap[N]? = some (.cells #[v0, v1, v2, v3, v4, v5, v6, v7, v8] 28 (0, 0))) :
    W.cell? ⟨N, 0, none⟩ = some v0 ∧ W.cell? ⟨N, 1, none⟩ = some v1 ∧ W.cell? ⟨N, 2, none⟩ = some v2 ∧ W.cell? ⟨N, 3, none⟩ = some v3 ∧ W.cell? ⟨N, 4, none⟩ = some v4 ∧ W.cell? ⟨N, 5, none⟩ = some v5 ∧ W.cell? ⟨N, 6, none⟩ = some v6 ∧ W.cell? ⟨N, 7, none⟩ = some v7 ∧ W.cell? ⟨N, 8, none⟩ = some v8 := by
  refine ⟨?_, ?_, ?_, ?_, ?_, ?_, ?_, ?_, ?_⟩ <;> rw [Lib.cell_of_heap h] <;> rfl
/-- And a digest's box. -/
structure Abd (w : World) (cA cB : Array Value) (N : Nat) (n0 n1 : Int) (W : World) : Prop where
  ab : Ab w cA cB W
  x : W.heap[N]? = some (.cells #[.int .u64 n0, .int .u64 n1] 25 (0, 0))
theorem Abd.on {w W W' : World} {cA cB : Array Value} {N : Nat} {n0 n1 : Int} (h : Abd w cA cB N n0 n1 W) (hB : Below W.heap.size W W') : Abd w cA cB N n0 n1 W' :=
  ⟨h.ab.on hB, (hB.block _ (Array.getElem?_eq_some_iff.1 h.x).1).trans h.x⟩
theorem Abd.drew {w W : World} {cA cB : Array Value} {N : Nat} {n0 n1 : Int} (h : Abd w cA cB N n0 n1 W) : Abd w cA cB N n0 n1 W.drew := ⟨h.ab.drew, h.x⟩
theorem Abd.all {w W : World} {N : Nat} {n0 n1 : Int} {v0 v1 v2 v3 v4 v5 v6 v7 v8 u0 u1 u2 u3 u4 u5 u6 u7 u8 : Value} (h : Abd w #[v0, v1, v2, v3, v4, v5, v6, v7, v8] #[u0, u1, u2, u3, u4, u5, u6, u7, u8] N n0 n1 W) :
    (W.cell? ⟨w.heap.size, 0, none⟩ = some v0 ∧ W.cell? ⟨w.heap.size, 1, none⟩ = some v1 ∧ W.cell? ⟨w.heap.size, 2, none⟩ = some v2 ∧ W.cell? ⟨w.heap.size, 3, none⟩ = some v3 ∧ W.cell? ⟨w.heap.size, 4, none⟩ = some v4 ∧ W.cell? ⟨w.heap.size, 5, none⟩ = some v5 ∧ W.cell? ⟨w.heap.size, 6, none⟩ = some v6 ∧ W.cell? ⟨w.heap.size, 7, none⟩ = some v7 ∧ W.cell? ⟨w.heap.size, 8, none⟩ = some v8) ∧
    (W.cell? ⟨w.heap.size + 1, 0, none⟩ = some u0 ∧ W.cell? ⟨w.heap.size + 1, 1, none⟩ = some u1 ∧ W.cell? ⟨w.heap.size + 1, 2, none⟩ = some u2 ∧ W.cell? ⟨w.heap.size + 1, 3, none⟩ = some u3 ∧ W.cell? ⟨w.heap.size + 1, 4, none⟩ = some u4 ∧ W.cell? ⟨w.heap.size + 1, 5, none⟩ = some u5 ∧ W.cell? ⟨w.heap.size + 1, 6, none⟩ = some u6 ∧ W.cell? ⟨w.heap.size + 1, 7, none⟩ = some u7 ∧ W.cell? ⟨w.heap.size + 1, 8, none⟩ = some u8) ∧
    W.cell? ⟨N, 0, none⟩ = some (.int .u64 n0) ∧ W.cell? ⟨N, 1, none⟩ = some (.int .u64 n1) :=
  ⟨nine_at h.ab.xa, nine_at h.ab.xb, by rw [Lib.cell_of_heap h.x]; rfl, by rw [Lib.cell_of_heap h.x]; rfl⟩

set_option maxRecDepth 100000 in
set_option maxHeartbeats 8000000 in
theorem names_big1 (k k2 : Int) (d d2 : BA) (ve ue : Value) (t1 t2 u1 u2 : Nat) (vp up : Value) (au av : BA) (ti tj : Int) (ms mt : BA) (w : World)
    (G1 : ∀ W, Below w.heap.size w W → Calls Try.prog 10 #[.agg #[.int .i64 k, .string d, ve, .int .u64 t1, .int .u64 t2, vp, .string au, .int .i64 ti, .string ms]] W fun e w' => e = .returned (.bool true) ∧ Below W.heap.size W w') :
    Calls Try.prog 8 #[.agg #[.int .i64 k, .string d, ve, .int .u64 t1, .int .u64 t2, vp, .string au, .int .i64 ti, .string ms], .agg #[.int .i64 k2, .string d2, ue, .int .u64 u1, .int .u64 u2, up, .string av, .int .i64 tj, .string mt]] w fun e w' => e = .returned (.bool true) ∧ Below w.heap.size w w' := by
  have HG1 := Lib.hid G1
  have h0 := Lib.hid (Ab.fresh w #[.int .i64 k, .string d, ve, .int .u64 t1, .int .u64 t2, vp, .string au, .int .i64 ti, .string ms] #[.int .i64 k2, .string d2, ue, .int .u64 u1, .int .u64 u2, up, .string av, .int .i64 tj, .string mt])
  clear G1
  go_enter Try.func8, Try.ntmps8
  go_wp2_with fail
  ((with_reducible refine (HG1.out _ h0.out.b).mono ?_); rintro e w1 ⟨rfl, hb1⟩)
  have h1 := Lib.hid (h0.out.on hb1)
  clear h0 hb1
  go_wp2_with fail
  ((with_reducible refine (awake_any _).mono ?_); rintro e w9 ⟨rfl, hb9⟩)
  have hbb := (h1.out.on hb9).b
  clear hb9
  go_wp2
  go_ret
  exact ⟨rfl, hbb⟩

set_option maxRecDepth 100000 in
set_option maxHeartbeats 8000000 in
theorem names_big2 (k k2 : Int) (d d2 : BA) (ve ue : Value) (t1 t2 u1 u2 : Nat) (vp up : Value) (au av : BA) (ti tj : Int) (ms mt : BA) (w : World)
    (G1 : ∀ W, Below w.heap.size w W → Calls Try.prog 10 #[.agg #[.int .i64 k, .string d, ve, .int .u64 t1, .int .u64 t2, vp, .string au, .int .i64 ti, .string ms]] W fun e w' => e = .returned (.bool false) ∧ Below W.heap.size W w')
    (G2 : ∀ W, Below w.heap.size w W → Calls Try.prog 10 #[.agg #[.int .i64 k2, .string d2, ue, .int .u64 u1, .int .u64 u2, up, .string av, .int .i64 tj, .string mt]] W fun e w' => e = .returned (.bool true) ∧ Below W.heap.size W w') :
    Calls Try.prog 8 #[.agg #[.int .i64 k, .string d, ve, .int .u64 t1, .int .u64 t2, vp, .string au, .int .i64 ti, .string ms], .agg #[.int .i64 k2, .string d2, ue, .int .u64 u1, .int .u64 u2, up, .string av, .int .i64 tj, .string mt]] w fun e w' => e = .returned (.bool true) ∧ Below w.heap.size w w' := by
  have HG1 := Lib.hid G1
  have HG2 := Lib.hid G2
  have h0 := Lib.hid (Ab.fresh w #[.int .i64 k, .string d, ve, .int .u64 t1, .int .u64 t2, vp, .string au, .int .i64 ti, .string ms] #[.int .i64 k2, .string d2, ue, .int .u64 u1, .int .u64 u2, up, .string av, .int .i64 tj, .string mt])
  clear G1 G2
  go_enter Try.func8, Try.ntmps8
  go_wp2_with fail
  ((with_reducible refine (HG1.out _ h0.out.b).mono ?_); rintro e w1 ⟨rfl, hb1⟩)
  have h1 := Lib.hid (h0.out.on hb1)
  obtain ⟨b0, b1, b2, b3, b4, b5, b6, b7, b8⟩ := nine_at h1.out.xb
  clear h0 hb1
  go_wp2_with fail
  ((with_reducible refine (HG2.out _ h1.out.b).mono ?_); rintro e w2 ⟨rfl, hb2⟩)
  have h2 := Lib.hid (h1.out.on hb2)
  clear b0 b1 b2 b3 b4 b5 b6 b7 b8
  clear h1 hb2
  go_wp2_with fail
  ((with_reducible refine (awake_any _).mono ?_); rintro e w9 ⟨rfl, hb9⟩)
  have hbb := (h2.out.on hb9).b
  clear hb9
  go_wp2
  go_ret
  exact ⟨rfl, hbb⟩

set_option maxRecDepth 100000 in
set_option maxHeartbeats 8000000 in
theorem names_bad1 (k k2 : Int) (d d2 : BA) (ve ue : Value) (t1 t2 u1 u2 : Nat) (vp up : Value) (au av : BA) (ti tj : Int) (ms mt : BA) (w : World) (s t : BA) (ra rb : Int) (hr : ra ≠ 0)
    (G1 : ∀ W, Below w.heap.size w W → Calls Try.prog 10 #[.agg #[.int .i64 k, .string d, ve, .int .u64 t1, .int .u64 t2, vp, .string au, .int .i64 ti, .string ms]] W fun e w' => e = .returned (.bool false) ∧ Below W.heap.size W w')
    (G2 : ∀ W, Below w.heap.size w W → Calls Try.prog 10 #[.agg #[.int .i64 k2, .string d2, ue, .int .u64 u1, .int .u64 u2, up, .string av, .int .i64 tj, .string mt]] W fun e w' => e = .returned (.bool false) ∧ Below W.heap.size W w')
    (C1 : ∀ W, Below w.heap.size w W → Calls Try.prog 17 #[.agg #[.int .i64 k, .string d, ve, .int .u64 t1, .int .u64 t2, vp, .string au, .int .i64 ti, .string ms]] W fun e w' => e = .returned (.tuple #[.string s, .int .i64 ra]) ∧ Below W.heap.size W w')
    (C2 : ∀ W, Below w.heap.size w W → Calls Try.prog 17 #[.agg #[.int .i64 k2, .string d2, ue, .int .u64 u1, .int .u64 u2, up, .string av, .int .i64 tj, .string mt]] W fun e w' => e = .returned (.tuple #[.string t, .int .i64 rb]) ∧ Below W.heap.size W w') :
    Calls Try.prog 8 #[.agg #[.int .i64 k, .string d, ve, .int .u64 t1, .int .u64 t2, vp, .string au, .int .i64 ti, .string ms], .agg #[.int .i64 k2, .string d2, ue, .int .u64 u1, .int .u64 u2, up, .string av, .int .i64 tj, .string mt]] w fun e w' => e = .returned (.bool true) ∧ Below w.heap.size w w' := by
  have HG1 := Lib.hid G1
  have HG2 := Lib.hid G2
  have HC1 := Lib.hid C1
  have HC2 := Lib.hid C2
  have h0 := Lib.hid (Ab.fresh w #[.int .i64 k, .string d, ve, .int .u64 t1, .int .u64 t2, vp, .string au, .int .i64 ti, .string ms] #[.int .i64 k2, .string d2, ue, .int .u64 u1, .int .u64 u2, up, .string av, .int .i64 tj, .string mt])
  have hne : (ra != 0) = true := by simpa using hr
  clear G1 G2 C1 C2 hr
  go_enter Try.func8, Try.ntmps8
  go_wp2_with fail
  ((with_reducible refine (HG1.out _ h0.out.b).mono ?_); rintro e w1 ⟨rfl, hb1⟩)
  have h1 := Lib.hid (h0.out.on hb1)
  obtain ⟨b0, b1, b2, b3, b4, b5, b6, b7, b8⟩ := nine_at h1.out.xb
  clear h0 hb1
  go_wp2_with fail
  ((with_reducible refine (HG2.out _ h1.out.b).mono ?_); rintro e w2 ⟨rfl, hb2⟩)
  have h2 := Lib.hid (h1.out.on hb2)
  clear b0 b1 b2 b3 b4 b5 b6 b7 b8
  clear h1 hb2
  obtain ⟨a0, a1, a2, a3, a4, a5, a6, a7, a8⟩ := nine_at h2.out.xa
  go_wp2_with fail
  ((with_reducible refine (HC1.out _ h2.out.b).mono ?_); rintro e w3 ⟨rfl, hb3⟩)
  have h3 := Lib.hid (h2.out.on hb3)
  clear a0 a1 a2 a3 a4 a5 a6 a7 a8
  clear h2 hb3
  obtain ⟨b0, b1, b2, b3, b4, b5, b6, b7, b8⟩ := nine_at h3.out.xb
  go_wp2_with fail
  ((with_reducible refine (HC2.out _ h3.out.b).mono ?_); rintro e w4 ⟨rfl, hb4⟩)
  have h4 := Lib.hid (h3.out.on hb4)
  clear b0 b1 b2 b3 b4 b5 b6 b7 b8
  clear h3 hb4
  go_wp2_with fail
  ((with_reducible refine (awake_any _).mono ?_); rintro e w9 ⟨rfl, hb9⟩)
  have hbb := (h4.out.on hb9).b
  clear hb9
  go_wp2
  go_ret
  exact ⟨rfl, hbb⟩

set_option maxRecDepth 100000 in
set_option maxHeartbeats 8000000 in
theorem names_bad2 (k k2 : Int) (d d2 : BA) (ve ue : Value) (t1 t2 u1 u2 : Nat) (vp up : Value) (au av : BA) (ti tj : Int) (ms mt : BA) (w : World) (s t : BA) (rb : Int) (hr : rb ≠ 0)
    (G1 : ∀ W, Below w.heap.size w W → Calls Try.prog 10 #[.agg #[.int .i64 k, .string d, ve, .int .u64 t1, .int .u64 t2, vp, .string au, .int .i64 ti, .string ms]] W fun e w' => e = .returned (.bool false) ∧ Below W.heap.size W w')
    (G2 : ∀ W, Below w.heap.size w W → Calls Try.prog 10 #[.agg #[.int .i64 k2, .string d2, ue, .int .u64 u1, .int .u64 u2, up, .string av, .int .i64 tj, .string mt]] W fun e w' => e = .returned (.bool false) ∧ Below W.heap.size W w')
    (C1 : ∀ W, Below w.heap.size w W → Calls Try.prog 17 #[.agg #[.int .i64 k, .string d, ve, .int .u64 t1, .int .u64 t2, vp, .string au, .int .i64 ti, .string ms]] W fun e w' => e = .returned (.tuple #[.string s, .int .i64 0]) ∧ Below W.heap.size W w')
    (C2 : ∀ W, Below w.heap.size w W → Calls Try.prog 17 #[.agg #[.int .i64 k2, .string d2, ue, .int .u64 u1, .int .u64 u2, up, .string av, .int .i64 tj, .string mt]] W fun e w' => e = .returned (.tuple #[.string t, .int .i64 rb]) ∧ Below W.heap.size W w') :
    Calls Try.prog 8 #[.agg #[.int .i64 k, .string d, ve, .int .u64 t1, .int .u64 t2, vp, .string au, .int .i64 ti, .string ms], .agg #[.int .i64 k2, .string d2, ue, .int .u64 u1, .int .u64 u2, up, .string av, .int .i64 tj, .string mt]] w fun e w' => e = .returned (.bool true) ∧ Below w.heap.size w w' := by
  have HG1 := Lib.hid G1
  have HG2 := Lib.hid G2
  have HC1 := Lib.hid C1
  have HC2 := Lib.hid C2
  have h0 := Lib.hid (Ab.fresh w #[.int .i64 k, .string d, ve, .int .u64 t1, .int .u64 t2, vp, .string au, .int .i64 ti, .string ms] #[.int .i64 k2, .string d2, ue, .int .u64 u1, .int .u64 u2, up, .string av, .int .i64 tj, .string mt])
  have hne : (rb != 0) = true := by simpa using hr
  clear G1 G2 C1 C2 hr
  go_enter Try.func8, Try.ntmps8
  go_wp2_with fail
  ((with_reducible refine (HG1.out _ h0.out.b).mono ?_); rintro e w1 ⟨rfl, hb1⟩)
  have h1 := Lib.hid (h0.out.on hb1)
  obtain ⟨b0, b1, b2, b3, b4, b5, b6, b7, b8⟩ := nine_at h1.out.xb
  clear h0 hb1
  go_wp2_with fail
  ((with_reducible refine (HG2.out _ h1.out.b).mono ?_); rintro e w2 ⟨rfl, hb2⟩)
  have h2 := Lib.hid (h1.out.on hb2)
  clear b0 b1 b2 b3 b4 b5 b6 b7 b8
  clear h1 hb2
  obtain ⟨a0, a1, a2, a3, a4, a5, a6, a7, a8⟩ := nine_at h2.out.xa
  go_wp2_with fail
  ((with_reducible refine (HC1.out _ h2.out.b).mono ?_); rintro e w3 ⟨rfl, hb3⟩)
  have h3 := Lib.hid (h2.out.on hb3)
  clear a0 a1 a2 a3 a4 a5 a6 a7 a8
  clear h2 hb3
  obtain ⟨b0, b1, b2, b3, b4, b5, b6, b7, b8⟩ := nine_at h3.out.xb
  go_wp2_with fail
  ((with_reducible refine (HC2.out _ h3.out.b).mono ?_); rintro e w4 ⟨rfl, hb4⟩)
  have h4 := Lib.hid (h3.out.on hb4)
  clear b0 b1 b2 b3 b4 b5 b6 b7 b8
  clear h3 hb4
  go_wp2_with fail
  ((with_reducible refine (awake_any _).mono ?_); rintro e w9 ⟨rfl, hb9⟩)
  have hbb := (h4.out.on hb9).b
  clear hb9
  go_wp2
  go_ret
  exact ⟨rfl, hbb⟩

set_option maxRecDepth 100000 in
set_option maxHeartbeats 8000000 in
theorem names_good (k k2 : Int) (d d2 : BA) (ve ue : Value) (t1 t2 u1 u2 : Nat) (vp up : Value) (au av : BA) (ti tj : Int) (ms mt : BA) (w : World) (s t : BA) (n0 n1 : Int) (q : Bool) (hq : (s.toList == t.toList) = q)
    (G1 : ∀ W, Below w.heap.size w W → Calls Try.prog 10 #[.agg #[.int .i64 k, .string d, ve, .int .u64 t1, .int .u64 t2, vp, .string au, .int .i64 ti, .string ms]] W fun e w' => e = .returned (.bool false) ∧ Below W.heap.size W w')
    (G2 : ∀ W, Below w.heap.size w W → Calls Try.prog 10 #[.agg #[.int .i64 k2, .string d2, ue, .int .u64 u1, .int .u64 u2, up, .string av, .int .i64 tj, .string mt]] W fun e w' => e = .returned (.bool false) ∧ Below W.heap.size W w')
    (C1 : ∀ W, Below w.heap.size w W → Calls Try.prog 17 #[.agg #[.int .i64 k, .string d, ve, .int .u64 t1, .int .u64 t2, vp, .string au, .int .i64 ti, .string ms]] W fun e w' => e = .returned (.tuple #[.string s, .int .i64 0]) ∧ Below W.heap.size W w')
    (C2 : ∀ W, Below w.heap.size w W → Calls Try.prog 17 #[.agg #[.int .i64 k2, .string d2, ue, .int .u64 u1, .int .u64 u2, up, .string av, .int .i64 tj, .string mt]] W fun e w' => e = .returned (.tuple #[.string t, .int .i64 0]) ∧ Below W.heap.size W w')
    (M : ∀ W, Below w.heap.size w W → Calls Try.prog 19 #[.agg #[.int .i64 k, .string d, ve, .int .u64 t1, .int .u64 t2, vp, .string au, .int .i64 ti, .string ms]] W fun e w' => e = .returned (.tuple #[.agg #[.int .u64 n0, .int .u64 n1], .int .i64 0]) ∧ Below W.heap.size W w')
    (E : ∀ W, Below w.heap.size w W → Calls Try.prog 23 #[.agg #[.int .i64 k, .string d, ve, .int .u64 t1, .int .u64 t2, vp, .string au, .int .i64 ti, .string ms], .agg #[.int .i64 k2, .string d2, ue, .int .u64 u1, .int .u64 u2, up, .string av, .int .i64 tj, .string mt]] W fun e w' => e = .returned (.bool q) ∧ Below W.heap.size W w')
    (D : ∀ W, Calls Try.prog 24 #[.string s] W fun e w' => e = .returned (.agg #[.int .u64 n0, .int .u64 n1]) ∧ Below W.heap.size W w') :
    Calls Try.prog 8 #[.agg #[.int .i64 k, .string d, ve, .int .u64 t1, .int .u64 t2, vp, .string au, .int .i64 ti, .string ms], .agg #[.int .i64 k2, .string d2, ue, .int .u64 u1, .int .u64 u2, up, .string av, .int .i64 tj, .string mt]] w fun e w' => e = .returned (.bool true) ∧ Below w.heap.size w w' := by
  have HG1 := Lib.hid G1
  have HG2 := Lib.hid G2
  have HC1 := Lib.hid C1
  have HC2 := Lib.hid C2
  have HM := Lib.hid M
  have HE := Lib.hid E
  have HD := Lib.hid D
  have h0 := Lib.hid (Ab.fresh w #[.int .i64 k, .string d, ve, .int .u64 t1, .int .u64 t2, vp, .string au, .int .i64 ti, .string ms] #[.int .i64 k2, .string d2, ue, .int .u64 u1, .int .u64 u2, up, .string av, .int .i64 tj, .string mt])
  have hqq : (q == q) = true := by simp
  have h00 : (n0 == n0) = true := by simp
  have h11 : (n1 == n1) = true := by simp
  clear G1 G2 C1 C2 M E D
  go_enter Try.func8, Try.ntmps8
  go_wp2_with fail
  ((with_reducible refine (HG1.out _ h0.out.b).mono ?_); rintro e w1 ⟨rfl, hb1⟩)
  have h1 := Lib.hid (h0.out.on hb1)
  obtain ⟨b0, b1, b2, b3, b4, b5, b6, b7, b8⟩ := nine_at h1.out.xb
  clear h0 hb1
  go_wp2_with fail
  ((with_reducible refine (HG2.out _ h1.out.b).mono ?_); rintro e w2 ⟨rfl, hb2⟩)
  have h2 := Lib.hid (h1.out.on hb2)
  clear b0 b1 b2 b3 b4 b5 b6 b7 b8
  clear h1 hb2
  obtain ⟨a0, a1, a2, a3, a4, a5, a6, a7, a8⟩ := nine_at h2.out.xa
  go_wp2_with fail
  ((with_reducible refine (HC1.out _ h2.out.b).mono ?_); rintro e w3 ⟨rfl, hb3⟩)
  have h3 := Lib.hid (h2.out.on hb3)
  clear a0 a1 a2 a3 a4 a5 a6 a7 a8
  clear h2 hb3
  obtain ⟨b0, b1, b2, b3, b4, b5, b6, b7, b8⟩ := nine_at h3.out.xb
  go_wp2_with fail
  ((with_reducible refine (HC2.out _ h3.out.b).mono ?_); rintro e w4 ⟨rfl, hb4⟩)
  have h4 := Lib.hid (h3.out.on hb4)
  clear b0 b1 b2 b3 b4 b5 b6 b7 b8
  clear h3 hb4
  obtain ⟨a0, a1, a2, a3, a4, a5, a6, a7, a8⟩ := nine_at h4.out.xa
  go_wp2_with fail
  ((with_reducible refine (HM.out _ h4.out.b).mono ?_); rintro e w5 ⟨rfl, hb5⟩)
  have h5 := h4.out.on hb5
  clear a0 a1 a2 a3 a4 a5 a6 a7 a8
  clear h4 hb5
  have start := (show Abd w #[.int .i64 k, .string d, ve, .int .u64 t1, .int .u64 t2, vp, .string au, .int .i64 ti, .string ms] #[.int .i64 k2, .string d2, ue, .int .u64 u1, .int .u64 u2, up, .string av, .int .i64 tj, .string mt] w5.heap.size n0 n1 (w5.alloc (.cells #[.int .u64 n0, .int .u64 n1] 25)) from ⟨h5.alloc _, World.alloc_heap_new _ _⟩).drew
  clear h5
  go_upto_region 8 with fail
  go_region_held3 (fun V => (V.cell? ⟨w.heap.size, 0, none⟩ = some (.int .i64 k) ∧ V.cell? ⟨w.heap.size, 1, none⟩ = some (.string d) ∧ V.cell? ⟨w.heap.size, 2, none⟩ = some (ve) ∧ V.cell? ⟨w.heap.size, 3, none⟩ = some (.int .u64 t1) ∧ V.cell? ⟨w.heap.size, 4, none⟩ = some (.int .u64 t2) ∧ V.cell? ⟨w.heap.size, 5, none⟩ = some (vp) ∧ V.cell? ⟨w.heap.size, 6, none⟩ = some (.string au) ∧ V.cell? ⟨w.heap.size, 7, none⟩ = some (.int .i64 ti) ∧ V.cell? ⟨w.heap.size, 8, none⟩ = some (.string ms)) ∧ (V.cell? ⟨w.heap.size + 1, 0, none⟩ = some (.int .i64 k2) ∧ V.cell? ⟨w.heap.size + 1, 1, none⟩ = some (.string d2) ∧ V.cell? ⟨w.heap.size + 1, 2, none⟩ = some (ue) ∧ V.cell? ⟨w.heap.size + 1, 3, none⟩ = some (.int .u64 u1) ∧ V.cell? ⟨w.heap.size + 1, 4, none⟩ = some (.int .u64 u2) ∧ V.cell? ⟨w.heap.size + 1, 5, none⟩ = some (up) ∧ V.cell? ⟨w.heap.size + 1, 6, none⟩ = some (.string av) ∧ V.cell? ⟨w.heap.size + 1, 7, none⟩ = some (.int .i64 tj) ∧ V.cell? ⟨w.heap.size + 1, 8, none⟩ = some (.string mt)) ∧ V.cell? ⟨w5.heap.size, 0, none⟩ = some (.int .u64 n0) ∧ V.cell? ⟨w5.heap.size, 1, none⟩ = some (.int .u64 n1)) (first | with_reducible exact hh.all | with_reducible exact start.all) (first | ((with_reducible refine (HE.out _ start.ab.b).mono ?_); rintro e w6 ⟨rfl, hb6⟩; have hh := Abd.on start hb6; clear hb6) | ((with_reducible refine (HD.out _).mono ?_); rintro e w6 ⟨rfl, hb6⟩; have hh := Abd.on hh hb6; clear hb6) | ((with_reducible refine (awake_any _).mono ?_); rintro e w6 ⟨rfl, hb6⟩; have hh := Abd.on hh hb6; clear hb6))
  have hbb := hh.ab.b
  clear hh start
  go_wp2
  go_ret
  exact ⟨rfl, hbb⟩

theorem names_any (x y : Ob) (v u : Value) (w : World) (h1 : IsOb w v x) (h2 : IsOb w u y) (f1 : x.Fit) (f2 : y.Fit) (u1 : x.Digs64) (u2 : y.Digs64) :
    Calls Try.prog 8 #[v, u] w fun e w' => e = .returned (.bool true) ∧ Below w.heap.size w w' := by
  have i1 := h1
  have i2 := h2
  obtain ⟨ve, vp, rfl, _, _⟩ := h1
  obtain ⟨ue, up, rfl, _, _⟩ := h2
  have B1 := fun (W : World) (hW : Below w.heap.size w W) => i1.below hW (Nat.le_refl _)
  have B2 := fun (W : World) (hW : Below w.heap.size w W) => i2.below hW (Nat.le_refl _)
  by_cases s1 : x.Small
  · have d1 : x.data.size ≤ 2 ^ 60 := Nat.le_trans s1.1 (by decide)
    by_cases s2 : y.Small
    · have d2 : y.data.size ≤ 2 ^ 60 := Nat.le_trans s2.1 (by decide)
      have g1 := fun W hW => great_no x _ W (B1 W hW) s1
      have g2 := fun W hW => great_no y _ W (B2 W hW) s2
      by_cases r1 : chk x = 0
      · by_cases r2 : chk y = 0
        · have ex : encD x = encS x := by rw [encD, if_pos r1]
          have ey : encD y = encS y := by rw [encD, if_pos r2]
          obtain ⟨q, hq⟩ : ∃ q, ((encS x).toList == (encS y).toList) = q := ⟨_, rfl⟩
          have hs : q = true ↔ x = y := by
            rw [← hq, str_eq]
            simp only [decide_eq_true_eq]
            exact ⟨fun e => encS_inj r1 r2 u1 u2 e, fun e => by rw [e]⟩
          exact names_good x.kind y.kind x.data y.data ve ue x.tree.1 x.tree.2 y.tree.1 y.tree.2 vp up x.author y.author x.time y.time x.msg y.msg w (encS x) (encS y) (nm0 x) (nm1 x) q hq g1 g2
            (fun W hW => encode_any x _ W (B1 W hW) f1 d1 _ ex 0 r1) (fun W hW => encode_any y _ W (B2 W hW) f2 d2 _ ey 0 r2) (fun W hW => objName_any x _ W (B1 W hW) f1 d1 _ _ rfl rfl 0 r1)
            (fun W hW => same_any x y _ _ W (B1 W hW) (B2 W hW) q hs) (fun W => by rw [nm0, nm1, if_pos r1, if_pos r1]; exact Dg.of_any _ W (encS_fit r1))
        · exact names_bad2 x.kind y.kind x.data y.data ve ue x.tree.1 x.tree.2 y.tree.1 y.tree.2 vp up x.author y.author x.time y.time x.msg y.msg w (encD x) (encD y) (chk y) r2 g1 g2
            (fun W hW => encode_any x _ W (B1 W hW) f1 d1 _ rfl 0 r1) (fun W hW => encode_any y _ W (B2 W hW) f2 d2 _ rfl _ rfl)
      · exact names_bad1 x.kind y.kind x.data y.data ve ue x.tree.1 x.tree.2 y.tree.1 y.tree.2 vp up x.author y.author x.time y.time x.msg y.msg w (encD x) (encD y) (chk x) (chk y) r1 g1 g2
          (fun W hW => encode_any x _ W (B1 W hW) f1 d1 _ rfl _ rfl) (fun W hW => encode_any y _ W (B2 W hW) f2 d2 _ rfl _ rfl)
    · exact names_big2 x.kind y.kind x.data y.data ve ue x.tree.1 x.tree.2 y.tree.1 y.tree.2 vp up x.author y.author x.time y.time x.msg y.msg w (fun W hW => great_no x _ W (B1 W hW) s1) (fun W hW => great_yes y _ W (B2 W hW) f2 s2)
  · exact names_big1 x.kind y.kind x.data y.data ve ue x.tree.1 x.tree.2 y.tree.1 y.tree.2 vp up x.author y.author x.time y.time x.msg y.msg w (fun W hW => great_yes x _ W (B1 W hW) f1 s1)

set_option maxRecDepth 100000 in
theorem names_lifted (os : Os) (started : os.Started) (H : Type) (enc : TypeId × Value → H) :
    ReturnsInHanded {} Try.checked os 8 .any (Rows.objectNamesSpec.pre6 enc Try.prog Try.f8 Rows.objectNamesRow.domain false) (Rows.objectNamesSpec.post enc Try.prog Try.f8 false true false false) := by
  refine returnsInHanded_of_change (C := Try.checked) ownK started (by kernel_rfl) Try.func8
    (ChangeSpec.witness6 (enc := enc) (C := Try.checked) false ⟨#[], #[ov 0 ⟨#[]⟩ (.slice none 0 0) (0, 0) (.slice none 0 0) ⟨#[]⟩ 0 ⟨#[]⟩, ov 0 ⟨#[]⟩ (.slice none 0 0) (0, 0) (.slice none 0 0) ⟨#[]⟩ 0 ⟨#[]⟩], []⟩ 8 (by kernel_rfl) (by kernel_rfl) (by kernel_rfl) (by kernel_rfl)) ?_
  intro W base args ds gs before hval0 hW hcnd _
  have hval : ∀ (j : Nat) t v, Try.f8.params[j]? = some t → args[j]? = some v → Value.okWide Try.prog W .any base t v := hval0
  have hW' := hW
  obtain ⟨p, q, hA0, hV, rfl, hfz, hnd⟩ := hW
  have hA : DataW.TrodAll enc Try.prog W 0 (fun _ => true) true Try.f8.params.toList args.toList ds p := hA0
  rw [Try.params8] at hA hval
  obtain ⟨v0, v1, d0, d1, p0, p1, rfl, rfl, rfl, h0, h1⟩ := trodAll_two hA
  obtain ⟨rfl, rfl⟩ := trodVars_none hV
  have k0 := h0
  have lt0 : ∀ x ∈ p0, x.block < W.heap.size := by obtain ⟨m, hm⟩ := k0; exact DataW.trod_lt m _ _ _ hm
  have k1 := h1
  have lt1 : ∀ x ∈ p1, x.block < W.heap.size := by obtain ⟨m, hm⟩ := k1; exact DataW.trod_lt m _ _ _ hm
  obtain ⟨x0, i0, f0, u0⟩ := open_ob (hval 0 28 v0 rfl rfl) h0
  obtain ⟨x1, i1, f1, u1⟩ := open_ob (hval 1 28 v1 rfl rfl) h1
  clear hA0 hval0
  refine (names_any x0 x1 v0 v1 W i0 i1 f0 f1 u0 u1).mono fun e W' ⟨he, bel⟩ => ?_
  subst he
  exact ⟨_, rfl, _, _, _, [], _, [], hW', trodAll_mk1 (shut_bool Try.underlying4 _), (trodAll_cons_mk (Below.trod laidOut (by kernel_rfl) (of_decide_eq_true (by kernel_rfl)) k0 bel lt0) (trodAll_mk1 (Below.trod laidOut (by kernel_rfl) (of_decide_eq_true (by kernel_rfl)) k1 bel lt1))), rfl, bel.frame _, fun h => by cases h⟩

theorem names_holds : Rows.ObjectNamesSaid :=
  OpenClaim.holds_of_wide 8 Try.f8 rfl rfl rfl rfl rfl rfl rfl ⟨rfl, rfl, rfl, rfl, rfl⟩ rfl rfl rfl rfl rfl (by kernel_rfl) Try.func8 (by kernel_rfl)
    (of_decide_eq_true (by kernel_rfl)) (by unfold Func.isWrapper; rw [if_neg (of_decide_eq_false (by kernel_rfl))]; exact ⟨rfl, rfl⟩)
    (fun os started H enc _ => names_lifted os started H enc)
#print axioms names_holds
end Go.Proofs.Ytiaahjoldahlnaa
