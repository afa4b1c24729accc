/- object.write of trees and commits, at this translation. -/
import Derived.Test.YtiaahjoldahlnaaWrite
import Derived.Deep.RegionHeld3
namespace Go.Proofs.Ytiaahjoldahlnaa
open Go.RowKit Go.Great
attribute [local go_sem] eq_arr

/-- An entry's box behind the builder. -/
structure Tr (w : World) (k : Int) (d : BA) (ve : Value) (t1 t2 : Nat) (vp : Value) (au : BA) (ti : Int) (ms : BA) (s : BA) (N : Nat) (nm : BA) (dir : Bool) (d1 d2 : Nat) (W : World) : Prop where
  wr : Wr w k d ve t1 t2 vp au ti ms s W
  xb : W.heap[N]? = some (.cells #[.string nm, .bool dir, .int .u64 d1, .int .u64 d2] 45 (0, 0))
  far : N ≠ w.heap.size + 1
theorem Tr.c {w : World} {k : Int} {d : BA} {ve : Value} {t1 t2 : Nat} {vp : Value} {au : BA} {ti : Int} {ms s : BA} {N : Nat} {nm : BA} {dir : Bool} {d1 d2 : Nat} {W : World} (h : Tr w k d ve t1 t2 vp au ti ms s N nm dir d1 d2 W) :
    W.cell? ⟨N, 0, none⟩ = some (.string nm) ∧ W.cell? ⟨N, 1, none⟩ = some (.bool dir) ∧ W.cell? ⟨N, 2, none⟩ = some (.int .u64 d1) ∧ W.cell? ⟨N, 3, none⟩ = some (.int .u64 d2) := by
  refine ⟨?_, ?_, ?_, ?_⟩ <;> rw [Lib.cell_of_heap h.xb] <;> rfl
theorem Tr.on {w : World} {k : Int} {d : BA} {ve : Value} {t1 t2 : Nat} {vp : Value} {au : BA} {ti : Int} {ms s : BA} {N : Nat} {nm : BA} {dir : Bool} {d1 d2 : Nat} {W W' : World} (h : Tr w k d ve t1 t2 vp au ti ms s N nm dir d1 d2 W) (hB : Below W.heap.size W W') : Tr w k d ve t1 t2 vp au ti ms s N nm dir d1 d2 W' :=
  ⟨h.wr.on hB, (hB.block N (Array.getElem?_eq_some_iff.1 h.xb).1).trans h.xb, h.far⟩
theorem Tr.put {w : World} {k : Int} {d : BA} {ve : Value} {t1 t2 : Nat} {vp : Value} {au : BA} {ti : Int} {ms s s' : BA} {N : Nat} {nm : BA} {dir : Bool} {d1 d2 : Nat} {W W' : World} (h : Tr w k d ve t1 t2 vp au ti ms s N nm dir d1 d2 W) (hu : Lib.IsBuilder 71 5 (w.heap.size + 1) (w.heap.size + 1) (Lib.strCells s') W') (hB : Below (w.heap.size + 1) W W') (hk : Kept (w.heap.size + 1) W W') : Tr w k d ve t1 t2 vp au ti ms s' N nm dir d1 d2 W' :=
  ⟨h.wr.put hu hB, hk N _ 45 h.xb (by decide) h.far, h.far⟩
theorem Tr.drew {w : World} {k : Int} {d : BA} {ve : Value} {t1 t2 : Nat} {vp : Value} {au : BA} {ti : Int} {ms s : BA} {N : Nat} {nm : BA} {dir : Bool} {d1 d2 : Nat} {W : World} (h : Tr w k d ve t1 t2 vp au ti ms s N nm dir d1 d2 W) : Tr w k d ve t1 t2 vp au ti ms s N nm dir d1 d2 W.drew := ⟨h.wr.drew, h.xb, h.far⟩
theorem Wr.far {w : World} {k : Int} {d : BA} {ve : Value} {t1 t2 : Nat} {vp : Value} {au : BA} {ti : Int} {ms s : BA} {W : World} (h : Wr w k d ve t1 t2 vp au ti ms s W) : w.heap.size + 1 < W.heap.size := by
  rcases h.bu with h | h
  · exact h.lt
  · exact h.lt
theorem Tr.fresh {w : World} {k : Int} {d : BA} {ve : Value} {t1 t2 : Nat} {vp : Value} {au : BA} {ti : Int} {ms s : BA} {W : World} (h : Wr w k d ve t1 t2 vp au ti ms s W) (nm : BA) (dir : Bool) (d1 d2 : Nat) :
    Tr w k d ve t1 t2 vp au ti ms s W.heap.size nm dir d1 d2 (W.alloc (.cells #[.string nm, .bool dir, .int .u64 d1, .int .u64 d2] 45)) :=
  ⟨h.on ((Below.refl _ _).alloc (Nat.le_refl _) _), World.alloc_heap_new W _, by have := h.far; omega⟩

set_option maxRecDepth 100000 in
set_option maxHeartbeats 8000000 in
theorem write_tree (d : BA) (L : List Ent) (ve : Value) (t1 t2 : Nat) (vp : Value) (au : BA) (ti : Int) (ms : BA) (hl : L.length ≤ 200) (hn : ∀ x ∈ L, x.name.size ≤ 24) (w : World) (hE : IsEnts w ve L) :
    Calls Try.prog 29 #[.agg #[.int .i64 2, .string d, ve, .int .u64 t1, .int .u64 t2, vp, .string au, .int .i64 ti, .string ms]] w fun e w' => e = .returned (.string (numS 2 ++ numS L.length ++ catS (L.map entS))) ∧ Below w.heap.size w w' := by
  obtain ⟨a, c1, rfl, m1, _, hcE⟩ := hE
  have HC := Lib.hid hcE
  have HN := Lib.hid hn
  clear hcE hn m1
  have nl := numS_le L.length (by omega)
  obtain ⟨ve, hve⟩ : ∃ v, Value.slice a L.length c1 = v := ⟨_, rfl⟩
  have HVE := Lib.hid hve
  rw [hve]
  clear hve
  have st := Lib.hid (Wr.fresh w 2 d ve t1 t2 vp au ti ms)
  have ns := numS_le 2 (by omega)
  go_enter Try.func29, Try.ntmps29
  go_wp2_with fail
  ((with_reducible refine (pInt_k 2 2 rfl (by omega) _).mono ?_); rintro e w1 ⟨rfl, hb1⟩)
  have s1 := Lib.hid (st.out.on hb1)
  clear st hb1
  go_wp2_with fail
  ((with_reducible refine (writeStr_any _ _ _ _ _ s1.out.bu (by rw [empty_size]; omega) s1.out.sz).mono ?_); rintro e w2 ⟨rfl, bu, hb2, -⟩)
  have s2 := Lib.hid (s1.out.put bu hb2)
  rw [empty_app] at s2
  clear s1 bu hb2
  obtain ⟨y0, -, y2, -, -, -, -, -, -, -, -⟩ := s2.out.bo
  rw [← HVE.out] at y2
  go_wp2_with fail
  ((with_reducible refine (pInt_any L.length (by omega) _).mono ?_); rintro e w3 ⟨rfl, hb3⟩)
  have s3 := Lib.hid (s2.out.on hb3)
  clear s2 hb3 y0 y2
  go_wp2_with fail
  ((with_reducible refine (writeStr_any _ _ _ _ _ s3.out.bu (by omega) s3.out.sz).mono ?_); rintro e w4 ⟨rfl, bu, hb4, -⟩)
  have s4 := Lib.hid (s3.out.put bu hb4)
  clear s3 bu hb4
  obtain ⟨-, -, y2, -, -, -, -, -, -, -, -⟩ := s4.out.bo
  rw [← HVE.out] at y2
  go_wp2
  go_loopw [34] (fun s34 wr => ∃ j : Nat, j ≤ L.length ∧ s34 = .int .i64 j ∧ Hid (Wr w 2 d ve t1 t2 vp au ti ms (numS 2 ++ numS L.length ++ catS ((L.take j).map entS)) wr)) (fun i _ => L.length - (intOf i).toNat)
  case atStart => exact ⟨0, Nat.zero_le _, rfl, Lib.hid (by rw [List.take_zero, List.map_nil, catS, app_empty]; exact s4.out)⟩
  case round =>
    obtain ⟨j, hj, rfl, HW⟩ := hrel
    clear y2 s4
    by_cases hlt : j < L.length
    · obtain ⟨b1, o1, rfl, hb1, hcell⟩ := HC.out.resolve_left (by intro e; rw [e] at hlt; simp at hlt)
      obtain ⟨p0, p1, p2, p3⟩ := (hcell j hlt).below HW.out.bo.b hb1
      have et := catS_take entS L j hlt
      have hx := HN.out _ (List.getElem_mem hlt)
      have sz := catS_take_le entS L 60 (fun x hx => entS_le x (HN.out x hx)) j
      have ET := Lib.hid et
      clear hcell et
      generalize L[j] = y at p0 p1 p2 p3 ET hx
      have hle := entS_le y hx
      unfold entS at hle
      obtain ⟨nm, dir, d1, d2⟩ := y
      simp only at p0 p1 p2 p3 ET hx hle
      have z1 := txtS_le nm 24 hx (by omega)
      have z2 := numS_le (b01 dir) (by have := b01_le dir; omega)
      have z3 := Nat.le_of_eq (dgS_size d1 d2)
      have a1 : ¬ 9223372036854775807 < (txtS nm).size + (numS (b01 dir)).size := by omega
      have a2 : ¬ 9223372036854775807 < (txtS nm).size + (numS (b01 dir)).size + (dgS d1 d2).size := by omega
      have wz : (numS 2 ++ numS L.length ++ catS ((L.take j).map entS)).size + (txtS nm ++ numS (b01 dir) ++ dgS d1 d2).size ≤ 140737488355328 := by
        simp only [ByteArray.size_append] at hle ⊢
        omega
      have WZ := Lib.hid wz
      obtain ⟨s, hs⟩ : ∃ s, numS 2 ++ numS L.length ++ catS ((L.take j).map entS) = s := ⟨_, rfl⟩
      rw [hs] at WZ HW
      have HS := Lib.hid hs
      have start := (Tr.fresh HW.out nm dir d1 d2).drew
      clear hs wz hle sz
      go_upto_region 13 with fail
      go_region_held3 (fun V => V.cell? ⟨wr.heap.size, 0, none⟩ = some (.string nm) ∧ V.cell? ⟨wr.heap.size, 1, none⟩ = some (.bool dir) ∧ V.cell? ⟨wr.heap.size, 2, none⟩ = some (.int .u64 d1) ∧ V.cell? ⟨wr.heap.size, 3, none⟩ = some (.int .u64 d2)) (first | with_reducible exact hh.c | with_reducible exact start.c) (first | ((with_reducible refine (pText_any nm (Nat.le_trans hx (by decide)) _).mono ?_); rintro e w5 ⟨rfl, hb5⟩; have hh := Tr.on (by first | with_reducible exact hh | with_reducible exact start) hb5; clear hb5) | ((with_reducible refine (pBool_any dir _).mono ?_); rintro e w5 ⟨rfl, rfl⟩) | ((with_reducible refine (pInt_any (b01 dir) (Nat.le_trans (b01_le dir) (by decide)) _).mono ?_); rintro e w5 ⟨rfl, hb5⟩; have hh := Tr.on (by first | with_reducible exact hh | with_reducible exact start) hb5; clear hb5) | ((with_reducible refine (digS_any d1 d2 _).mono ?_); rintro e w5 ⟨rfl, hb5⟩; have hh := Tr.on (by first | with_reducible exact hh | with_reducible exact start) hb5; clear hb5) | ((with_reducible refine (writeStr_any _ _ _ _ _ hh.wr.bu WZ.out hh.wr.sz).mono ?_); rintro e w5 ⟨rfl, bu, hb5, k5⟩; have hh := Tr.put hh bu hb5 k5; clear hb5 bu k5))
      go_wp2
      go_roundw
      case rel => exact ⟨j + 1, by omega, by go_num, Lib.hid (by have := hh.wr; rw [← HS.out, app_assoc] at this; rw [ET.out]; exact this)⟩
      case measure => simp [intOf]; omega
    · obtain rfl : j = L.length := by omega
      rw [List.take_length] at HW
      go_wp2_with fail
      ((with_reducible refine (bldStr_any _ _ _ _ HW.out.bu HW.out.sz).mono ?_); rintro e w5 ⟨rfl, hb5⟩)
      have hb := HW.out.bo.b.trans (hb5.mono (Nat.le_succ _))
      go_wp2
      go_ret
      exact ⟨rfl, hb⟩
end Go.Proofs.Ytiaahjoldahlnaa
