/- object.write of commits, at this translation. -/
import Derived.Test.YtiaahjoldahlnaaWriteT
namespace Go.Proofs.Ytiaahjoldahlnaa
open Go.RowKit Go.Great
attribute [local go_sem] eq_arr

theorem Wr.c345 {w W : World} {k : Int} {d : BA} {ve : Value} {t1 t2 : Nat} {vp : Value} {au : BA} {ti : Int} {ms s : BA} (h : Wr w k d ve t1 t2 vp au ti ms s W) :
    W.cell? ⟨w.heap.size, 3, none⟩ = some (.int .u64 t1) ∧ W.cell? ⟨w.heap.size, 4, none⟩ = some (.int .u64 t2) ∧ W.cell? ⟨w.heap.size, 5, none⟩ = some vp := ⟨h.bo.c3, h.bo.c4, h.bo.c5⟩
theorem Wr.c678 {w W : World} {k : Int} {d : BA} {ve : Value} {t1 t2 : Nat} {vp : Value} {au : BA} {ti : Int} {ms s : BA} (h : Wr w k d ve t1 t2 vp au ti ms s W) :
    W.cell? ⟨w.heap.size, 6, none⟩ = some (.string au) ∧ W.cell? ⟨w.heap.size, 7, none⟩ = some (.int .i64 ti) ∧ W.cell? ⟨w.heap.size, 8, none⟩ = some (.string ms) := ⟨h.bo.c6, h.bo.c7, h.bo.c8⟩

set_option maxRecDepth 100000 in
set_option maxHeartbeats 8000000 in
theorem write_com (d : BA) (ve : Value) (t1 t2 : Nat) (P : List Dig) (vp : Value) (au : BA) (m : Nat) (ms : BA) (hp : P.length ≤ 8) (hau : au.size ≤ 24) (hm : m ≤ 1099511627776) (hms : ms.size ≤ 200) (w : World) (hP : IsDigs w vp P) :
    Calls Try.prog 29 #[.agg #[.int .i64 3, .string d, ve, .int .u64 t1, .int .u64 t2, vp, .string au, .int .i64 m, .string ms]] w fun e w' => e = .returned (.string (numS 3 ++ (dgS t1 t2 ++ numS P.length) ++ catS (P.map digS) ++ (txtS au ++ numS m ++ txtS ms))) ∧ Below w.heap.size w w' := by
  obtain ⟨b, c2, rfl, m1, _, hcP⟩ := hP
  have HC := Lib.hid hcP
  clear hcP m1
  have z1 := numS_le P.length (by omega)
  have z2 := Nat.le_of_eq (dgS_size t1 t2)
  have z3 := txtS_le au 24 hau (by omega)
  have z4 := numS_le m hm
  have z5 := txtS_le ms 200 hms (by omega)
  have st := Lib.hid (Wr.fresh w 3 d ve t1 t2 (.slice b P.length c2) au m ms)
  have ns := numS_le 3 (by omega)
  go_enter Try.func29, Try.ntmps29
  go_wp2_with fail
  ((with_reducible refine (pInt_k 3 3 rfl (by omega) _).mono ?_); rintro e w1 ⟨rfl, hb1⟩)
  have s1 := Lib.hid (st.out.on hb1)
  clear st hb1
  go_wp2_with fail
  ((with_reducible refine (writeStr_any _ _ _ _ _ s1.out.bu (by rw [empty_size]; omega) s1.out.sz).mono ?_); rintro e w2 ⟨rfl, bu, hb2, -⟩)
  have s2 := Lib.hid (s1.out.put bu hb2)
  rw [empty_app] at s2
  clear s1 bu hb2
  have a1 : ¬ 9223372036854775807 < (dgS t1 t2).size + (numS P.length).size := by omega
  have WZ : Hid ((numS 3).size + (dgS t1 t2 ++ numS P.length).size ≤ 140737488355328) := Lib.hid (by rw [ByteArray.size_append]; omega)
  have start := s2.out.drew
  have y0 := s2.out.bo.c0
  clear s2
  go_upto_region 15 with fail
  go_region_held3 (fun V => V.cell? ⟨w.heap.size, 3, none⟩ = some (.int .u64 t1) ∧ V.cell? ⟨w.heap.size, 4, none⟩ = some (.int .u64 t2) ∧ V.cell? ⟨w.heap.size, 5, none⟩ = some (.slice b P.length c2)) (first | with_reducible exact hh.c345 | with_reducible exact start.c345) (first | ((with_reducible refine (pInt_any P.length (Nat.le_trans hp (by decide)) _).mono ?_); rintro e w5 ⟨rfl, hb5⟩; have hh := Wr.on (by first | with_reducible exact hh | with_reducible exact start) hb5; clear hb5) | ((with_reducible refine (digS_any t1 t2 _).mono ?_); rintro e w5 ⟨rfl, hb5⟩; have hh := Wr.on (by first | with_reducible exact hh | with_reducible exact start) hb5; clear hb5) | ((with_reducible refine (writeStr_any _ _ _ _ _ hh.bu WZ.out hh.sz).mono ?_); rintro e w5 ⟨rfl, bu, hb5, k5⟩; have hh := Wr.put hh bu hb5; clear hb5 bu k5))
  clear start y0
  have s4 := Lib.hid hh
  clear hh
  have y5 := s4.out.bo.c5
  go_wp2
  go_loopw [64] (fun s64 wr => ∃ j : Nat, j ≤ P.length ∧ s64 = .int .i64 j ∧ Hid (Wr w 3 d ve t1 t2 (.slice b P.length c2) au m ms (numS 3 ++ (dgS t1 t2 ++ numS P.length) ++ catS ((P.take j).map digS)) wr)) (fun i _ => P.length - (intOf i).toNat)
  case atStart => exact ⟨0, Nat.zero_le _, rfl, Lib.hid (by rw [List.take_zero, List.map_nil, catS, app_empty]; exact s4.out)⟩
  case round =>
    obtain ⟨j, hj, rfl, HW⟩ := hrel
    clear y5 s4
    by_cases hlt : j < P.length
    · obtain ⟨b1, o1, rfl, hb1, hcell⟩ := HC.out.resolve_left (by intro e; rw [e] at hlt; simp at hlt)
      obtain ⟨q0, q1⟩ := hcell j hlt
      have p0 := (HW.out.bo.b.cell (p := ⟨b1, o1 + j * 2, none⟩) hb1).trans q0
      have p1 := (HW.out.bo.b.cell (p := ⟨b1, o1 + j * 2 + 1, none⟩) hb1).trans q1
      have et := catS_take digS P j hlt
      have sz := catS_take_le digS P 16 (fun x _ => Nat.le_of_eq (digS_size x)) j
      have ET := Lib.hid et
      clear hcell et q0 q1
      generalize P[j] = y at p0 p1 ET
      obtain ⟨d1, d2⟩ := y
      simp only at p0 p1 ET
      have z6 := Nat.le_of_eq (dgS_size d1 d2)
      have WS : Hid ((numS 3 ++ (dgS t1 t2 ++ numS P.length) ++ catS ((P.take j).map digS)).size + (dgS d1 d2).size ≤ 140737488355328) := Lib.hid (by
        simp only [ByteArray.size_append]
        omega)
      obtain ⟨s, hs⟩ : ∃ s, numS 3 ++ (dgS t1 t2 ++ numS P.length) ++ catS ((P.take j).map digS) = s := ⟨_, rfl⟩
      rw [hs] at WS HW
      have HS := Lib.hid hs
      have s5 := Lib.hid (HW.out.on ((Below.refl _ _).alloc (Nat.le_refl _) (.cells #[.int .u64 d1, .int .u64 d2] 25)))
      clear hs sz
      go_wp2_with fail
      ((with_reducible refine (digS_any d1 d2 _).mono ?_); rintro e w5 ⟨rfl, hb5⟩)
      have s6 := Lib.hid (s5.out.on hb5)
      clear s5 hb5
      go_wp2_with fail
      ((with_reducible refine (writeStr_any _ _ _ _ _ s6.out.bu WS.out s6.out.sz).mono ?_); rintro e w6 ⟨rfl, bu, hb6, -⟩)
      have s7 := Lib.hid (s6.out.put bu hb6)
      clear s6 bu hb6
      go_wp2
      go_roundw
      case rel => exact ⟨j + 1, by omega, by go_num, Lib.hid (by have := s7.out; rw [← HS.out, app_assoc] at this; rw [ET.out]; exact this)⟩
      case measure => simp [intOf]; omega
    · obtain rfl : j = P.length := by omega
      rw [List.take_length] at HW
      have sz := catS_take_le digS P 16 (fun x _ => Nat.le_of_eq (digS_size x)) P.length
      rw [List.take_length] at sz
      have a2 : ¬ 9223372036854775807 < (txtS au).size + (numS m).size := by omega
      have a3 : ¬ 9223372036854775807 < (txtS au).size + (numS m).size + (txtS ms).size := by omega
      have WS : Hid ((numS 3 ++ (dgS t1 t2 ++ numS P.length) ++ catS (P.map digS)).size + (txtS au ++ numS m ++ txtS ms).size ≤ 140737488355328) := Lib.hid (by
        simp only [ByteArray.size_append]
        omega)
      obtain ⟨s, hs⟩ : ∃ s, numS 3 ++ (dgS t1 t2 ++ numS P.length) ++ catS (P.map digS) = s := ⟨_, rfl⟩
      rw [hs] at WS HW
      have HS := Lib.hid hs
      have start := HW.out.drew
      clear hs sz
      go_upto_region 21 with fail
      go_region_held3 (fun V => V.cell? ⟨w.heap.size, 6, none⟩ = some (.string au) ∧ V.cell? ⟨w.heap.size, 7, none⟩ = some (.int .i64 m) ∧ V.cell? ⟨w.heap.size, 8, none⟩ = some (.string ms)) (first | with_reducible exact hh.c678 | with_reducible exact start.c678) (first | ((with_reducible refine (pText_any au (Nat.le_trans hau (by decide)) _).mono ?_); rintro e w5 ⟨rfl, hb5⟩; have hh := Wr.on (by first | with_reducible exact hh | with_reducible exact start) hb5; clear hb5) | ((with_reducible refine (pText_any ms (Nat.le_trans hms (by decide)) _).mono ?_); rintro e w5 ⟨rfl, hb5⟩; have hh := Wr.on (by first | with_reducible exact hh | with_reducible exact start) hb5; clear hb5) | ((with_reducible refine (pInt_any m hm _).mono ?_); rintro e w5 ⟨rfl, hb5⟩; have hh := Wr.on (by first | with_reducible exact hh | with_reducible exact start) hb5; clear hb5) | ((with_reducible refine (writeStr_any _ _ _ _ _ hh.bu WS.out hh.sz).mono ?_); rintro e w5 ⟨rfl, bu, hb5, k5⟩; have hh := Wr.put hh bu hb5; clear hb5 bu k5))
      have s7 := Lib.hid hh
      clear hh start
      go_wp2_with fail
      ((with_reducible refine (bldStr_any _ _ _ _ s7.out.bu s7.out.sz).mono ?_); rintro e w8 ⟨rfl, hb8⟩)
      have hb := s7.out.bo.b.trans (hb8.mono (Nat.le_succ _))
      go_wp2
      go_ret
      exact ⟨by rw [HS.out]; rfl, hb⟩
end Go.Proofs.Ytiaahjoldahlnaa
