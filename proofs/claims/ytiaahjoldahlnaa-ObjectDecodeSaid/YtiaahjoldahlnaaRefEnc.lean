/- The reference's encode, at this translation. -/
import Derived.Test.YtiaahjoldahlnaaEncM
import Derived.Test.YtiaahjoldahlnaaRefFields
import Derived.Deep.RegionHeld3
namespace Go.Proofs.Ytiaahjoldahlnaa
open Go.RowKit Go.Great
attribute [local go_sem] eq_arr

theorem number_k (k : Int) (m : Nat) (hk : k = m) (hm : m ≤ 1099511627776) (w : World) :
    Calls Try.prog 48 #[.int .i64 k] w fun e w' => e = .returned (.string (numS m)) ∧ Below w.heap.size w w' := by
  subst hk
  exact number_any m hm w

set_option maxRecDepth 100000 in
set_option maxHeartbeats 4000000 in
theorem renc_blob1 (d : BA) (ve : Value) (t1 t2 : Nat) (vp : Value) (au : BA) (ti : Int) (ms : BA) (hd : d.size ≤ 65536) (w : World) :
    Calls Try.prog 28 #[.agg #[.int .i64 1, .string d, ve, .int .u64 t1, .int .u64 t2, vp, .string au, .int .i64 ti, .string ms]] w fun e w' => e = .returned (.string (numS 1 ++ txtS d)) ∧ Below w.heap.size w w' := by
  have h0 := Bo.fresh w 1 d ve t1 t2 vp au ti ms
  have z1 := numS_le 1 (by omega)
  have z2 := txtS_le d 65536 hd (Nat.le_refl _)
  have a1 : ¬ 9223372036854775807 < (numS 1).size + (txtS d).size := by omega
  go_enter Try.func28, Try.ntmps28
  go_wp2_with fail
  ((with_reducible refine (number_k 1 1 rfl (by omega) _).mono ?_); rintro e w1 ⟨rfl, hb1⟩)
  have h1 := h0.on hb1
  have H1 := Lib.hid h1
  obtain ⟨y0, y1, -, -, -, -, -, -, -, -, -⟩ := h1
  clear h0 hb1
  go_wp2_with fail
  ((with_reducible refine (text_any d hd _).mono ?_); rintro e w2 ⟨rfl, hb2⟩)
  have hb := (H1.out.on hb2).b
  go_wp2
  go_ret
  exact ⟨rfl, hb⟩

set_option maxRecDepth 100000 in
set_option maxHeartbeats 4000000 in
theorem renc_blob4 (d : BA) (ve : Value) (t1 t2 : Nat) (vp : Value) (au : BA) (ti : Int) (ms : BA) (hd : d.size ≤ 65536) (w : World) :
    Calls Try.prog 28 #[.agg #[.int .i64 4, .string d, ve, .int .u64 t1, .int .u64 t2, vp, .string au, .int .i64 ti, .string ms]] w fun e w' => e = .returned (.string (numS 4 ++ txtS d)) ∧ Below w.heap.size w w' := by
  have h0 := Bo.fresh w 4 d ve t1 t2 vp au ti ms
  have z1 := numS_le 4 (by omega)
  have z2 := txtS_le d 65536 hd (Nat.le_refl _)
  have a1 : ¬ 9223372036854775807 < (numS 4).size + (txtS d).size := by omega
  go_enter Try.func28, Try.ntmps28
  go_wp2_with fail
  ((with_reducible refine (number_k 4 4 rfl (by omega) _).mono ?_); rintro e w1 ⟨rfl, hb1⟩)
  have h1 := h0.on hb1
  have H1 := Lib.hid h1
  obtain ⟨y0, y1, -, -, -, -, -, -, -, -, -⟩ := h1
  clear h0 hb1
  go_wp2_with fail
  ((with_reducible refine (text_any d hd _).mono ?_); rintro e w2 ⟨rfl, hb2⟩)
  have hb := (H1.out.on hb2).b
  go_wp2
  go_ret
  exact ⟨rfl, hb⟩

set_option maxRecDepth 100000 in
set_option maxHeartbeats 8000000 in
theorem renc_tree (d : BA) (L : List Ent) (ve : Value) (t1 t2 : Nat) (vp : Value) (au : BA) (ti : Int) (ms : BA) (hl : L.length ≤ 200) (hn : ∀ x ∈ L, x.name.size ≤ 24) (hu : ∀ x ∈ L, x.dig.1 < 2 ^ 64 ∧ x.dig.2 < 2 ^ 64) (w : World) (hE : IsEnts w ve L) :
    Calls Try.prog 28 #[.agg #[.int .i64 2, .string d, ve, .int .u64 t1, .int .u64 t2, vp, .string au, .int .i64 ti, .string ms]] w fun e w' => e = .returned (.string (numS 2 ++ numS L.length ++ catS (L.map entS))) ∧ Below w.heap.size w w' := by
  obtain ⟨a, c1, rfl, m1, _, hcE⟩ := hE
  have HC := Lib.hid hcE
  have HN := Lib.hid hn
  have HU := Lib.hid hu
  clear hcE hn m1 hu
  have h0 := Bo.fresh w 2 d (.slice a L.length c1) t1 t2 vp au ti ms
  have nl := numS_le L.length (by omega)
  have n2 := numS_le 2 (by omega)
  have a1 : ¬ 9223372036854775807 < (numS 2).size + (numS L.length).size := by omega
  go_enter Try.func28, Try.ntmps28
  go_wp2_with fail
  ((with_reducible refine (number_k 2 2 rfl (by omega) _).mono ?_); rintro e w1 ⟨rfl, hb1⟩)
  have h1 := h0.on hb1
  have H1 := Lib.hid h1
  obtain ⟨y0, -, y2, -, -, -, -, -, -, -, -⟩ := h1
  clear h0 hb1
  go_wp2_with fail
  ((with_reducible refine (number_any L.length (by omega) _).mono ?_); rintro e w2 ⟨rfl, hb2⟩)
  have H2 := Lib.hid (H1.out.on hb2)
  clear y0 y2 hb2 H1
  go_wp2
  go_loopw [3, 4] (fun s3 s4 wr => ∃ j : Nat, j ≤ L.length ∧ s4 = .int .i64 j ∧ s3 = .string (numS 2 ++ numS L.length ++ catS ((L.take j).map entS)) ∧ Hid (Bo w 2 d (.slice a L.length c1) t1 t2 vp au ti ms wr)) (fun _ i _ => L.length - (intOf i).toNat)
  case atStart => exact ⟨0, Nat.zero_le _, rfl, by rw [List.take_zero, List.map_nil, catS, app_empty], H2⟩
  case round =>
    obtain ⟨j, hj, rfl, rfl, HB⟩ := hrel
    have sz := catS_take_le entS L 60 (fun x hx => entS_le x (HN.out x hx)) j
    have ss : (numS 2 ++ numS L.length ++ catS ((L.take j).map entS)).size ≤ 20000 := by
      rw [ByteArray.size_append, ByteArray.size_append]; omega
    by_cases hlt : j < L.length
    · obtain ⟨b1, o1, rfl, hb1, hcell⟩ := HC.out.resolve_left (by intro e; rw [e] at hlt; simp at hlt)
      have et := catS_take entS L j hlt
      have hx := HN.out _ (List.getElem_mem hlt)
      have hu := HU.out _ (List.getElem_mem hlt)
      have hp : ∀ V, Below w.heap.size w V → V.cell? ⟨b1, o1 + j * 4, none⟩ = some (.string L[j].name) ∧ V.cell? ⟨b1, o1 + j * 4 + 2, none⟩ = some (.int .u64 L[j].dig.1) ∧ V.cell? ⟨b1, o1 + j * 4 + 3, none⟩ = some (.int .u64 L[j].dig.2) := by
        intro V hV
        obtain ⟨p0, p1, p2, p3⟩ := (hcell j hlt).below hV hb1
        exact ⟨p0, p2, p3⟩
      have p1 := ((hcell j hlt).below HB.out.b hb1).2.1
      have ET := Lib.hid et
      have HP := Lib.hid hp
      clear hcell et hp
      generalize L[j] = y at HP ET hx hu p1
      obtain ⟨nm, dir, d1, d2⟩ := y
      simp only at HP ET hx hu p1
      have z1 := txtS_le nm 24 hx (by omega)
      have z3 := Nat.le_of_eq (dgS_size d1 d2)
      obtain ⟨s, hs⟩ : ∃ s, numS 2 ++ numS L.length ++ catS ((L.take j).map entS) = s := ⟨_, rfl⟩
      rw [hs] at ss ⊢
      have HS := Lib.hid hs
      have c2 := HB.out.c2
      have a1 : ¬ 9223372036854775807 < s.size + (txtS nm).size := by omega
      have start := HB.out.drew
      clear hs sz
      cases dir with
      | true =>
        have z2 := numS_le 1 (by omega)
        have a2 : ¬ 9223372036854775807 < s.size + (txtS nm).size + (numS 1).size := by omega
        have a3 : ¬ 9223372036854775807 < s.size + (txtS nm).size + (numS 1).size + (dgS d1 d2).size := by omega
        go_upto_region 11 with fail
        go_region_held3 (fun V => V.cell? ⟨w.heap.size, 2, none⟩ = some (.slice (some ⟨b1, o1, none⟩) L.length c1) ∧ V.cell? ⟨b1, o1 + j * 4, none⟩ = some (.string nm) ∧ V.cell? ⟨b1, o1 + j * 4 + 2, none⟩ = some (.int .u64 d1) ∧ V.cell? ⟨b1, o1 + j * 4 + 3, none⟩ = some (.int .u64 d2)) (first | with_reducible exact ⟨hh.c2, HP.out _ hh.b⟩ | with_reducible exact ⟨start.c2, HP.out _ start.b⟩) (first | ((with_reducible refine (text_any nm (Nat.le_trans hx (by decide)) _).mono ?_); rintro e w5 ⟨rfl, hb5⟩; have hh := Bo.on (by first | with_reducible exact hh | with_reducible exact start) hb5; clear hb5) | ((with_reducible refine (number_k 1 1 rfl (by decide) _).mono ?_); rintro e w5 ⟨rfl, hb5⟩; have hh := Bo.on (by first | with_reducible exact hh | with_reducible exact start) hb5; clear hb5) | ((with_reducible refine (refBytes_any d1 d2 hu.1 hu.2 _).mono ?_); rintro e w5 ⟨rfl, hb5⟩; have hh := Bo.on (by first | with_reducible exact hh | with_reducible exact start) hb5; clear hb5))
        clear start
        have hF := Lib.hid hh
        clear hh
        go_wp2
        go_roundw
        case rel => exact ⟨j + 1, by omega, by go_num, by rw [ET.out, ← app_assoc (numS 2 ++ numS L.length), HS.out]; simp only [entS, b01, app_assoc]; rfl, hF⟩
        case measure => simp [intOf]; omega
      | false =>
        have z2 := numS_le 0 (by omega)
        have a2 : ¬ 9223372036854775807 < s.size + (txtS nm).size + (numS 0).size := by omega
        have a3 : ¬ 9223372036854775807 < s.size + (txtS nm).size + (numS 0).size + (dgS d1 d2).size := by omega
        go_upto_region 11 with fail
        go_region_held3 (fun V => V.cell? ⟨w.heap.size, 2, none⟩ = some (.slice (some ⟨b1, o1, none⟩) L.length c1) ∧ V.cell? ⟨b1, o1 + j * 4, none⟩ = some (.string nm) ∧ V.cell? ⟨b1, o1 + j * 4 + 2, none⟩ = some (.int .u64 d1) ∧ V.cell? ⟨b1, o1 + j * 4 + 3, none⟩ = some (.int .u64 d2)) (first | with_reducible exact ⟨hh.c2, HP.out _ hh.b⟩ | with_reducible exact ⟨start.c2, HP.out _ start.b⟩) (first | ((with_reducible refine (text_any nm (Nat.le_trans hx (by decide)) _).mono ?_); rintro e w5 ⟨rfl, hb5⟩; have hh := Bo.on (by first | with_reducible exact hh | with_reducible exact start) hb5; clear hb5) | ((with_reducible refine (number_k 0 0 rfl (by decide) _).mono ?_); rintro e w5 ⟨rfl, hb5⟩; have hh := Bo.on (by first | with_reducible exact hh | with_reducible exact start) hb5; clear hb5) | ((with_reducible refine (refBytes_any d1 d2 hu.1 hu.2 _).mono ?_); rintro e w5 ⟨rfl, hb5⟩; have hh := Bo.on (by first | with_reducible exact hh | with_reducible exact start) hb5; clear hb5))
        clear start
        have hF := Lib.hid hh
        clear hh
        go_wp2
        go_roundw
        case rel => exact ⟨j + 1, by omega, by go_num, by rw [ET.out, ← app_assoc (numS 2 ++ numS L.length), HS.out]; simp only [entS, b01, app_assoc]; rfl, hF⟩
        case measure => simp [intOf]; omega
    · obtain rfl : j = L.length := by omega
      rw [List.take_length] at ss ⊢
      have c2 := HB.out.c2
      have hb := HB.out.b
      go_wp2
      go_ret
      exact ⟨rfl, hb⟩

set_option maxRecDepth 100000 in
set_option maxHeartbeats 8000000 in
theorem renc_com (d : BA) (ve : Value) (t1 t2 : Nat) (P : List Dig) (vp : Value) (au : BA) (m : Nat) (ms : BA) (ht : t1 < 2 ^ 64 ∧ t2 < 2 ^ 64) (hu : ∀ x ∈ P, x.1 < 2 ^ 64 ∧ x.2 < 2 ^ 64) (hp : P.length ≤ 8) (hau : au.size ≤ 24) (hm : m ≤ 1099511627776) (hms : ms.size ≤ 200) (w : World) (hP : IsDigs w vp P) :
    Calls Try.prog 28 #[.agg #[.int .i64 3, .string d, ve, .int .u64 t1, .int .u64 t2, vp, .string au, .int .i64 m, .string ms]] w fun e w' => e = .returned (.string (numS 3 ++ (dgS t1 t2 ++ numS P.length) ++ catS (P.map digS) ++ (txtS au ++ numS m ++ txtS ms))) ∧ Below w.heap.size w w' := by
  obtain ⟨b, c2, rfl, m1, _, hcP⟩ := hP
  have HC := Lib.hid hcP
  have HU := Lib.hid hu
  clear hcP m1 hu
  have z1 := numS_le P.length (by omega)
  have z2 := Nat.le_of_eq (dgS_size t1 t2)
  have z3 := txtS_le au 24 hau (by omega)
  have z4 := numS_le m hm
  have z5 := txtS_le ms 200 hms (by omega)
  have n3 := numS_le 3 (by omega)
  have h0 := Bo.fresh w 3 d ve t1 t2 (.slice b P.length c2) au m ms
  go_enter Try.func28, Try.ntmps28
  go_wp2_with fail
  ((with_reducible refine (number_k 3 3 rfl (by omega) _).mono ?_); rintro e w1 ⟨rfl, hb1⟩)
  have h1 := h0.on hb1
  have y0 := h1.c0
  have start := h1.drew
  have a1 : ¬ 9223372036854775807 < (numS 3).size + (dgS t1 t2).size := by omega
  have a2 : ¬ 9223372036854775807 < (numS 3).size + (dgS t1 t2).size + (numS P.length).size := by omega
  clear h0 hb1 h1
  go_upto_region 14 with fail
  go_region_held3 (fun V => V.cell? ⟨w.heap.size, 3, none⟩ = some (.int .u64 t1) ∧ V.cell? ⟨w.heap.size, 4, none⟩ = some (.int .u64 t2) ∧ V.cell? ⟨w.heap.size, 5, none⟩ = some (.slice b P.length c2)) (first | with_reducible exact ⟨hh.c3, hh.c4, hh.c5⟩ | with_reducible exact ⟨start.c3, start.c4, start.c5⟩) (first | ((with_reducible refine (number_any P.length (Nat.le_trans hp (by decide)) _).mono ?_); rintro e w5 ⟨rfl, hb5⟩; have hh := Bo.on (by first | with_reducible exact hh | with_reducible exact start) hb5; clear hb5) | ((with_reducible refine (refBytes_any t1 t2 ht.1 ht.2 _).mono ?_); rintro e w5 ⟨rfl, hb5⟩; have hh := Bo.on (by first | with_reducible exact hh | with_reducible exact start) hb5; clear hb5))
  clear start y0
  have H2 := Lib.hid hh
  clear hh
  go_wp2
  go_loopw [3, 6] (fun s3 s6 wr => ∃ j : Nat, j ≤ P.length ∧ s6 = .int .i64 j ∧ s3 = .string (numS 3 ++ (dgS t1 t2 ++ numS P.length) ++ catS ((P.take j).map digS)) ∧ Hid (Bo w 3 d ve t1 t2 (.slice b P.length c2) au m ms wr)) (fun _ i _ => P.length - (intOf i).toNat)
  case atStart => exact ⟨0, Nat.zero_le _, rfl, by rw [List.take_zero, List.map_nil, catS, app_empty, app_assoc], H2⟩
  case round =>
    obtain ⟨j, hj, rfl, rfl, HB⟩ := hrel
    have sz := catS_take_le digS P 16 (fun x _ => Nat.le_of_eq (digS_size x)) j
    have ss : (numS 3 ++ (dgS t1 t2 ++ numS P.length) ++ catS ((P.take j).map digS)).size ≤ 20000 := by
      simp only [ByteArray.size_append]; omega
    by_cases hlt : j < P.length
    · obtain ⟨b1, o1, rfl, hb1, hcell⟩ := HC.out.resolve_left (by intro e; rw [e] at hlt; simp at hlt)
      obtain ⟨q0, q1⟩ := hcell j hlt
      have p0 := (HB.out.b.cell (p := ⟨b1, o1 + j * 2, none⟩) hb1).trans q0
      have p1 := (HB.out.b.cell (p := ⟨b1, o1 + j * 2 + 1, none⟩) hb1).trans q1
      have et := catS_take digS P j hlt
      have hu := HU.out _ (List.getElem_mem hlt)
      have ET := Lib.hid et
      clear hcell et q0 q1
      generalize P[j] = y at p0 p1 ET hu
      obtain ⟨d1, d2⟩ := y
      simp only at p0 p1 ET hu
      have z6 := Nat.le_of_eq (dgS_size d1 d2)
      obtain ⟨s, hs⟩ : ∃ s, numS 3 ++ (dgS t1 t2 ++ numS P.length) ++ catS ((P.take j).map digS) = s := ⟨_, rfl⟩
      rw [hs] at ss ⊢
      have HS := Lib.hid hs
      have y5 := HB.out.c5
      have a3 : ¬ 9223372036854775807 < s.size + (dgS d1 d2).size := by omega
      clear hs sz
      go_wp2_with fail
      ((with_reducible refine (refBytes_any d1 d2 hu.1 hu.2 _).mono ?_); rintro e w5 ⟨rfl, hb5⟩)
      have HF := Lib.hid (HB.out.on hb5)
      clear HB hb5 y5 p0 p1
      go_wp2
      go_roundw
      case rel => exact ⟨j + 1, by omega, by go_num, by rw [ET.out, ← HS.out]; simp only [digS, app_assoc], HF⟩
      case measure => simp [intOf]; omega
    · obtain rfl : j = P.length := by omega
      rw [List.take_length] at ss ⊢
      obtain ⟨s, hs⟩ : ∃ s, numS 3 ++ (dgS t1 t2 ++ numS P.length) ++ catS (P.map digS) = s := ⟨_, rfl⟩
      rw [hs] at ss ⊢
      have HS := Lib.hid hs
      have y5 := HB.out.c5
      have start := HB.out.drew
      have a3 : ¬ 9223372036854775807 < s.size + (txtS au).size := by omega
      have a4 : ¬ 9223372036854775807 < s.size + (txtS au).size + (numS m).size := by omega
      have a5 : ¬ 9223372036854775807 < s.size + (txtS au).size + (numS m).size + (txtS ms).size := by omega
      clear hs sz HB
      go_upto_region 19 with fail
      go_region_held3 (fun V => V.cell? ⟨w.heap.size, 6, none⟩ = some (.string au) ∧ V.cell? ⟨w.heap.size, 7, none⟩ = some (.int .i64 m) ∧ V.cell? ⟨w.heap.size, 8, none⟩ = some (.string ms)) (first | with_reducible exact ⟨hh.c6, hh.c7, hh.c8⟩ | with_reducible exact ⟨start.c6, start.c7, start.c8⟩) (first | ((with_reducible refine (text_any au (Nat.le_trans hau (by decide)) _).mono ?_); rintro e w5 ⟨rfl, hb5⟩; have hh := Bo.on (by first | with_reducible exact hh | with_reducible exact start) hb5; clear hb5) | ((with_reducible refine (text_any ms (Nat.le_trans hms (by decide)) _).mono ?_); rintro e w5 ⟨rfl, hb5⟩; have hh := Bo.on (by first | with_reducible exact hh | with_reducible exact start) hb5; clear hb5) | ((with_reducible refine (number_any m hm _).mono ?_); rintro e w5 ⟨rfl, hb5⟩; have hh := Bo.on (by first | with_reducible exact hh | with_reducible exact start) hb5; clear hb5))
      have hb := hh.b
      clear hh start
      go_wp2
      go_ret
      have e : s ++ txtS au ++ numS m ++ txtS ms = numS 3 ++ (dgS t1 t2 ++ numS P.length) ++ catS (P.map digS) ++ (txtS au ++ numS m ++ txtS ms) := by rw [HS.out]; simp only [app_assoc]
      exact ⟨congrArg (fun x => Ending.returned (Value.string x)) e, hb⟩
end Go.Proofs.Ytiaahjoldahlnaa
