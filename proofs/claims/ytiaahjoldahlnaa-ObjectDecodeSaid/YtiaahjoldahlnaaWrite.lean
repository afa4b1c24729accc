/- object.write, at this translation. -/
import Derived.Test.YtiaahjoldahlnaaBld
namespace Go.Proofs.Ytiaahjoldahlnaa
open Go.RowKit Go.Great
attribute [local go_sem] eq_arr

/-- The object's box, and a builder behind it that holds a string. -/
structure Wr (w : World) (k : Int) (d : BA) (ve : Value) (t1 t2 : Nat) (vp : Value) (au : BA) (ti : Int) (ms : BA) (s : BA) (W : World) : Prop where
  bo : Bo w k d ve t1 t2 vp au ti ms W
  bu : Lib.IsBuilder 71 5 (w.heap.size + 1) (w.heap.size + 1) (Lib.strCells s) W
  sz : w.heap.size + 1 ≤ W.heap.size
theorem Wr.fresh (w : World) (k : Int) (d : BA) (ve : Value) (t1 t2 : Nat) (vp : Value) (au : BA) (ti : Int) (ms : BA) :
    Wr w k d ve t1 t2 vp au ti ms ⟨#[]⟩ ((w.alloc (oc' k d ve t1 t2 vp au ti ms)).alloc (.cells #[.pointer none, .slice none 0 0] 71)) := by
  refine ⟨(Bo.fresh ..).alloc _, ?_, by simp⟩
  have := Lib.fresh_isBuilder 71 5 (w.alloc (oc' k d ve t1 t2 vp au ti ms))
  rwa [World.size_alloc] at this
theorem Wr.on {w W W' : World} {k : Int} {d : BA} {ve : Value} {t1 t2 : Nat} {vp : Value} {au : BA} {ti : Int} {ms s : BA} (h : Wr w k d ve t1 t2 vp au ti ms s W) (hB : Below W.heap.size W W') : Wr w k d ve t1 t2 vp au ti ms s W' :=
  ⟨h.bo.on hB, Cd.builder_below h.bu hB, Nat.le_trans h.sz hB.size⟩
theorem Bo.on1 {w W W' : World} {k : Int} {d : BA} {ve : Value} {t1 t2 : Nat} {vp : Value} {au : BA} {ti : Int} {ms : BA} (h : Bo w k d ve t1 t2 vp au ti ms W) (hB : Below (w.heap.size + 1) W W') : Bo w k d ve t1 t2 vp au ti ms W' :=
  have l : w.heap.size < w.heap.size + 1 := Nat.lt_succ_self _
  ⟨(hB.cell (p := ⟨_, 0, none⟩) l).trans h.c0, (hB.cell (p := ⟨_, 1, none⟩) l).trans h.c1, (hB.cell (p := ⟨_, 2, none⟩) l).trans h.c2, (hB.cell (p := ⟨_, 3, none⟩) l).trans h.c3, (hB.cell (p := ⟨_, 4, none⟩) l).trans h.c4,
    (hB.cell (p := ⟨_, 5, none⟩) l).trans h.c5, (hB.cell (p := ⟨_, 6, none⟩) l).trans h.c6, (hB.cell (p := ⟨_, 7, none⟩) l).trans h.c7, (hB.cell (p := ⟨_, 8, none⟩) l).trans h.c8, Nat.lt_of_lt_of_le h.lt hB.size, h.b.trans (hB.mono (Nat.le_succ _))⟩
theorem Wr.put {w W W' : World} {k : Int} {d : BA} {ve : Value} {t1 t2 : Nat} {vp : Value} {au : BA} {ti : Int} {ms s s' : BA} (h : Wr w k d ve t1 t2 vp au ti ms s W) (hu : Lib.IsBuilder 71 5 (w.heap.size + 1) (w.heap.size + 1) (Lib.strCells s') W') (hB : Below (w.heap.size + 1) W W') : Wr w k d ve t1 t2 vp au ti ms s' W' :=
  ⟨h.bo.on1 hB, hu, Nat.le_trans h.sz hB.size⟩
theorem Wr.drew {w W : World} {k : Int} {d : BA} {ve : Value} {t1 t2 : Nat} {vp : Value} {au : BA} {ti : Int} {ms s : BA} (h : Wr w k d ve t1 t2 vp au ti ms s W) : Wr w k d ve t1 t2 vp au ti ms s W.drew :=
  ⟨h.bo.drew, Cd.builder_below h.bu (Below.refl _ _).drew, h.sz⟩

theorem empty_size : (⟨#[]⟩ : BA).size = 0 := rfl

set_option maxRecDepth 100000 in
set_option maxHeartbeats 4000000 in
theorem write_blob1 (d : BA) (ve : Value) (t1 t2 : Nat) (vp : Value) (au : BA) (ti : Int) (ms : BA) (hd : d.size ≤ 65536) (w : World) :
    Calls Try.prog 29 #[.agg #[.int .i64 1, .string d, ve, .int .u64 t1, .int .u64 t2, vp, .string au, .int .i64 ti, .string ms]] w fun e w' => e = .returned (.string (numS 1 ++ txtS d)) ∧ Below w.heap.size w w' := by
  have ts := txtS_le d 65536 hd (Nat.le_refl _)
  have st := Lib.hid (Wr.fresh w 1 d ve t1 t2 vp au ti ms)
  have ns := numS_le 1 (by omega)
  go_enter Try.func29, Try.ntmps29
  go_wp2_with fail
  ((with_reducible refine (pInt_k 1 1 rfl (by omega) _).mono ?_); rintro e w1 ⟨rfl, hb1⟩)
  have s1 := Lib.hid (st.out.on hb1)
  clear st hb1
  go_wp2_with fail
  ((with_reducible refine (writeStr_any _ _ _ _ _ s1.out.bu (by rw [empty_size]; omega) s1.out.sz).mono ?_); rintro e w2 ⟨rfl, bu, hb2, -⟩)
  have s2 := Lib.hid (s1.out.put bu hb2)
  rw [empty_app] at s2
  clear s1 bu hb2
  obtain ⟨y0, y1, -, -, -, -, -, -, -, -, -⟩ := s2.out.bo
  go_wp2_with fail
  ((with_reducible refine (pText_any d hd _).mono ?_); rintro e w3 ⟨rfl, hb3⟩)
  have s3 := Lib.hid (s2.out.on hb3)
  clear s2 hb3 y0 y1
  go_wp2_with fail
  ((with_reducible refine (writeStr_any _ _ _ _ _ s3.out.bu (by omega) s3.out.sz).mono ?_); rintro e w4 ⟨rfl, bu, hb4, -⟩)
  have s4 := Lib.hid (s3.out.put bu hb4)
  clear s3 bu hb4
  go_wp2_with fail
  ((with_reducible refine (bldStr_any _ _ _ _ s4.out.bu s4.out.sz).mono ?_); rintro e w5 ⟨rfl, hb5⟩)
  have hb := s4.out.bo.b.trans (hb5.mono (Nat.le_succ _))
  go_wp2
  go_ret
  exact ⟨rfl, hb⟩

set_option maxRecDepth 100000 in
set_option maxHeartbeats 4000000 in
theorem write_blob4 (d : BA) (ve : Value) (t1 t2 : Nat) (vp : Value) (au : BA) (ti : Int) (ms : BA) (hd : d.size ≤ 65536) (w : World) :
    Calls Try.prog 29 #[.agg #[.int .i64 4, .string d, ve, .int .u64 t1, .int .u64 t2, vp, .string au, .int .i64 ti, .string ms]] w fun e w' => e = .returned (.string (numS 4 ++ txtS d)) ∧ Below w.heap.size w w' := by
  have ts := txtS_le d 65536 hd (Nat.le_refl _)
  have st := Lib.hid (Wr.fresh w 4 d ve t1 t2 vp au ti ms)
  have ns := numS_le 4 (by omega)
  go_enter Try.func29, Try.ntmps29
  go_wp2_with fail
  ((with_reducible refine (pInt_k 4 4 rfl (by omega) _).mono ?_); rintro e w1 ⟨rfl, hb1⟩)
  have s1 := Lib.hid (st.out.on hb1)
  clear st hb1
  go_wp2_with fail
  ((with_reducible refine (writeStr_any _ _ _ _ _ s1.out.bu (by rw [empty_size]; omega) s1.out.sz).mono ?_); rintro e w2 ⟨rfl, bu, hb2, -⟩)
  have s2 := Lib.hid (s1.out.put bu hb2)
  rw [empty_app] at s2
  clear s1 bu hb2
  obtain ⟨y0, y1, -, -, -, -, -, -, -, -, -⟩ := s2.out.bo
  go_wp2_with fail
  ((with_reducible refine (pText_any d hd _).mono ?_); rintro e w3 ⟨rfl, hb3⟩)
  have s3 := Lib.hid (s2.out.on hb3)
  clear s2 hb3 y0 y1
  go_wp2_with fail
  ((with_reducible refine (writeStr_any _ _ _ _ _ s3.out.bu (by omega) s3.out.sz).mono ?_); rintro e w4 ⟨rfl, bu, hb4, -⟩)
  have s4 := Lib.hid (s3.out.put bu hb4)
  clear s3 bu hb4
  go_wp2_with fail
  ((with_reducible refine (bldStr_any _ _ _ _ s4.out.bu s4.out.sz).mono ?_); rintro e w5 ⟨rfl, hb5⟩)
  have hb := s4.out.bo.b.trans (hb5.mono (Nat.le_succ _))
  go_wp2
  go_ret
  exact ⟨rfl, hb⟩
end Go.Proofs.Ytiaahjoldahlnaa
