/- Two changes of a value and taking either back: the law, at this translation. -/
import Derived.Test.YtgnkfikihjjpeaaAwake2
import Derived.Deep.RegionHeld3
import Derived.Deep.DeepCutAuto
namespace Go.Proofs.Ytgnkfikihjjpeaa
open Go.RowKit Go.Great Go.Maps

/-- Boxes that hold sums, each with what it reads as; nothing that lay before has turned. -/
structure Un (bx : List (Nat × Value × Value × Sm)) (w W : World) : Prop where
  b : Below w.heap.size w W
  x : ∀ t ∈ bx, SBox W t.1 t.2.1 t.2.2.1 ∧ IsSum W t.2.1 t.2.2.1 t.2.2.2
theorem Un.on {bx : List (Nat × Value × Value × Sm)} {w W W' : World} (h : Un bx w W) (hc : Below W.heap.size W W') : Un bx w W' :=
  ⟨h.b.trans (hc.mono h.b.size), fun t ht => ⟨(h.x t ht).1.below hc (h.x t ht).1.lt, (h.x t ht).2.below hc (Nat.le_refl _)⟩⟩
theorem Un.alloc {bx : List (Nat × Value × Value × Sm)} {w W : World} (h : Un bx w W) (o : Obj) : Un bx w (W.alloc o) := h.on ((Below.refl _ _).alloc (Nat.le_refl _) o)
theorem Un.drew {bx : List (Nat × Value × Value × Sm)} {w W : World} (h : Un bx w W) : Un bx w W.drew := h.on (Below.refl _ _).drew
theorem Un.h {bx : List (Nat × Value × Value × Sm)} {w W : World} {k : Nat} {a r : Value} {S : Sm} (h : Un ((k, a, r, S) :: bx) w W) : SBox W k a r := (h.x _ (List.mem_cons_self ..)).1
theorem Un.s {bx : List (Nat × Value × Value × Sm)} {w W : World} {k : Nat} {a r : Value} {S : Sm} (h : Un ((k, a, r, S) :: bx) w W) : IsSum W a r S := (h.x _ (List.mem_cons_self ..)).2
theorem Un.t {bx : List (Nat × Value × Value × Sm)} {w W : World} {t : Nat × Value × Value × Sm} (h : Un (t :: bx) w W) : Un bx w W := ⟨h.b, fun s hs => h.x s (List.mem_cons_of_mem _ hs)⟩
/-- One box more, behind all: the result of a call. -/
theorem Un.new {bx : List (Nat × Value × Value × Sm)} {w W : World} {a r : Value} {S : Sm} (h : Un bx w W) (hs : IsSum W a r S) : Un ((W.heap.size, a, r, S) :: bx) w (W.alloc (.cells #[a, r] 24)) := by
  refine ⟨(h.alloc _).b, fun t ht => ?_⟩
  rcases List.mem_cons.1 ht with rfl | ht
  · exact ⟨SBox.new W a r, hs.below ((Below.refl _ _).alloc (Nat.le_refl _) _) (Nat.le_refl _)⟩
  · exact (h.alloc _).x t ht
/-- One box more that was laid ahead and is written now. -/
theorem Un.put {bx : List (Nat × Value × Value × Sm)} {w W : World} {a1 a2 : Option Addr} {n1 n2 c1 c2 kz : Nat} {S : Sm} (h : Un bx w W) (hz : SBox W kz (.slice none 0 0) (.slice none 0 0)) (hk : w.heap.size ≤ kz) (hne : ∀ t ∈ bx, t.1 ≠ kz) (hs : IsSum W (.slice a1 n1 c1) (.slice a2 n2 c2) S) :
    Un ((kz, .slice a1 n1 c1, .slice a2 n2 c2, S) :: bx) w ((W.setCell ⟨kz, 0, none⟩ (.slice a1 n1 c1)).setCell ⟨kz, 1, none⟩ (.slice a2 n2 c2)) := by
  have hz1 := hz.set0 (.slice a1 n1 c1)
  refine ⟨(h.b.setCell (p := ⟨kz, 0, none⟩) hk _).setCell (p := ⟨kz, 1, none⟩) hk _, fun t ht => ?_⟩
  rcases List.mem_cons.1 ht with rfl | ht
  · exact ⟨hz1.set1 _, (hs.a.box hz 0 _).box hz1 1 _, (hs.r.box hz 0 _).box hz1 1 _⟩
  · have ⟨i1, i2⟩ := h.x t ht
    exact ⟨(i1.other (hne t ht) 0 _).other (hne t ht) 1 _, (i2.a.box hz 0 _).box hz1 1 _, (i2.r.box hz 0 _).box hz1 1 _⟩
theorem Un.swap {bx : List (Nat × Value × Value × Sm)} {w W : World} {s t : Nat × Value × Value × Sm} (h : Un (s :: t :: bx) w W) : Un (t :: s :: bx) w W := ⟨h.b, fun u hu => h.x u (by simp only [List.mem_cons] at hu ⊢; rcases hu with hu | hu | hu; exact .inr (.inl hu); exact .inl hu; exact .inr (.inr hu))⟩
theorem Un.lts {bx : List (Nat × Value × Value × Sm)} {w W : World} (h : Un bx w W) : ∀ t ∈ bx, t.1 < W.heap.size := fun t ht => (h.x t ht).1.lt
theorem nes {bx : List (Nat × Value × Value × Sm)} {n : Nat} (h : ∀ t ∈ bx, t.1 < n) : ∀ t ∈ bx, t.1 ≠ n := fun t ht => Nat.ne_of_lt (h t ht)
theorem str_ne {x y : BA} (h : x ≠ y) : (x.toList == y.toList) = false := beq_eq_false_iff_ne.2 fun e => h (toList_inj e)
theorem str_self (x : BA) : (x.toList == x.toList) = true := beq_self_eq_true _

set_option maxHeartbeats 2000000 in
theorem undo_out (x y z : BA) (hx : x.size ≤ maxLen ∧ y.size ≤ maxLen ∧ z.size ≤ maxLen) (h : 100 < x.size ∨ 100 < y.size ∨ 100 < z.size ∨ x = y ∨ y = z ∨ x = z) (w : World) : Calls Try.prog 8 #[.string x, .string y, .string z] w fun e w' => e = .returned (.bool true) ∧ Below w.heap.size w w' := by
  obtain ⟨b1, b2, b3⟩ := hx
  unfold maxLen at b1 b2 b3
  by_cases h1 : 100 < x.size
  · clear h
    go_enter Try.func8, Try.ntmps8
    go_wp2_with ((with_reducible refine (awake_any _).mono ?_); rintro e w1 ⟨rfl, hb1⟩)
    go_ret
    exact ⟨rfl, hb1⟩
  by_cases h2 : 100 < y.size
  · clear h
    go_enter Try.func8, Try.ntmps8
    go_wp2_with ((with_reducible refine (awake_any _).mono ?_); rintro e w1 ⟨rfl, hb1⟩)
    go_ret
    exact ⟨rfl, hb1⟩
  by_cases h3 : 100 < z.size
  · clear h
    go_enter Try.func8, Try.ntmps8
    go_wp2_with ((with_reducible refine (awake_any _).mono ?_); rintro e w1 ⟨rfl, hb1⟩)
    go_ret
    exact ⟨rfl, hb1⟩
  by_cases h4 : x = y
  · clear h
    have e4 : (x.toList == y.toList) = true := by rw [h4]; exact str_self y
    clear h4
    go_enter Try.func8, Try.ntmps8
    go_wp2_with ((with_reducible refine (awake_any _).mono ?_); rintro e w1 ⟨rfl, hb1⟩)
    go_ret
    exact ⟨rfl, hb1⟩
  have e4 := str_ne h4
  by_cases h5 : y = z
  · clear h h4
    have e5 : (y.toList == z.toList) = true := by rw [h5]; exact str_self z
    clear h5
    go_enter Try.func8, Try.ntmps8
    go_wp2_with ((with_reducible refine (awake_any _).mono ?_); rintro e w1 ⟨rfl, hb1⟩)
    go_ret
    exact ⟨rfl, hb1⟩
  have e5 := str_ne h5
  have h6 : x = z := by
    rcases h with h | h | h | h | h | h
    · exact absurd h h1
    · exact absurd h h2
    · exact absurd h h3
    · exact absurd h h4
    · exact absurd h h5
    · exact h
  have e6 : (x.toList == z.toList) = true := by rw [h6]; exact str_self z
  clear h h4 h5 h6
  · skip
    go_enter Try.func8, Try.ntmps8
    go_wp2_with ((with_reducible refine (awake_any _).mono ?_); rintro e w1 ⟨rfl, hb1⟩)
    go_ret
    exact ⟨rfl, hb1⟩

set_option maxRecDepth 100000 in
set_option maxHeartbeats 8000000 in
theorem undo_main (x y z : BA) (hx : x.size ≤ 100) (hy : y.size ≤ 100) (hz : z.size ≤ 100) (hxy : x ≠ y) (hyz : y ≠ z) (hxz : x ≠ z) (w : World) : Calls Try.prog 8 #[.string x, .string y, .string z] w fun e w' => e = .returned (.bool true) ∧ Below w.heap.size w w' := by
  have e1 := str_ne hxy
  have e2 := str_ne hyz
  have e3 := str_ne hxz
  have OX := Lib.hid (one_ok (x := x) (by omega))
  have OY := Lib.hid (one_ok (x := y) (by omega))
  have OZ := Lib.hid (one_ok (x := z) (by omega))
  have N1 := Lib.hid hxy
  have N2 := Lib.hid hyz
  have N3 := Lib.hid hxz
  clear hxy hyz hxz
  have CX := Lib.hid (show ∀ W, Calls Try.prog 19 #[.string x] W (fun e w' => ∃ a, e = .returned (sv a (.slice none 0 0)) ∧ IsSum w' a (.slice none 0 0) (one x) ∧ Below W.heap.size W w') from fun W => of_any x W)
  have CY := Lib.hid (show ∀ W, Calls Try.prog 19 #[.string y] W (fun e w' => ∃ a, e = .returned (sv a (.slice none 0 0)) ∧ IsSum w' a (.slice none 0 0) (one y) ∧ Below W.heap.size W w') from fun W => of_any y W)
  have CZ := Lib.hid (show ∀ W, Calls Try.prog 19 #[.string z] W (fun e w' => ∃ a, e = .returned (sv a (.slice none 0 0)) ∧ IsSum w' a (.slice none 0 0) (one z) ∧ Below W.heap.size W w') from fun W => of_any z W)
  go_enter Try.func8, Try.ntmps8
  go_wp2_with fail
  ((with_reducible refine (CX.out _).mono ?_); rintro e w1 ⟨va, rfl, h1, hb1⟩)
  go_wp2_with fail
  ((with_reducible refine (CY.out _).mono ?_); rintro e w2 ⟨vb, rfl, h2, hb2⟩)
  have h1 := h1.below hb2 (Nat.le_refl _)
  have B2 := hb1.trans (hb2.mono hb1.size)
  clear hb1 hb2 e1 e2 e3
  go_wp2_with fail
  ((with_reducible refine (CZ.out _).mono ?_); rintro e w3 ⟨vc, rfl, h3, hb3⟩)
  have h1 := h1.below hb3 (Nat.le_refl _)
  have h2 := h2.below hb3 (Nat.le_refl _)
  have B3 := B2.trans (hb3.mono B2.size)
  clear B2 hb3
  go_wp2_with fail
  ((with_reducible refine (merge_ok (one x) (one y) (one z) _ _ _ _ _ _ _ h1 h2 h3 (by simp [one]) OX.out OY.out OZ.out).mono ?_); rintro e w5 ⟨va, vr, M, rfl, hM, hMg, hb5⟩)
  have HG := Lib.hid (hMg.2 (fun h => N2.out (by simpa [one] using h)))
  have HE := Lib.hid (two_sides HG.out N1.out N2.out N3.out)
  have HO := Lib.hid (HG.out.ok OX.out OY.out OZ.out (by simp [one]))
  have HLA : Hid (M.A.length = 2) := Lib.hid (by rw [HE.out]; show (if bl y z = true then [y, z] else [z, y]).length = 2; split <;> rfl)
  have HLR : Hid (M.R.length = 1) := Lib.hid (by rw [HE.out]; rfl)
  obtain ⟨u7, v7, u8, v8, rfl, rfl, -, -⟩ := hM.parts
  have B5 := B3.trans (hb5.mono B3.size)
  clear hMg hb5 B3 h1 h2 h3
  have lw5 := B5.size
  have U6 := Un.new (bx := []) ⟨B5, by simp⟩ hM
  clear B5 hM
  go_upto_region 4 with fail
  obtain ⟨k, hk⟩ : ∃ k, w5.heap.size = k := ⟨_, rfl⟩
  have kw : w.heap.size ≤ k := by rw [← hk]; exact lw5
  generalize w5.alloc (.cells #[.slice u7 M.A.length v7, .slice u8 M.R.length v8] 24) = w6 at *
  rw [hk] at U6 ⊢
  clear hk lw5
  have start := U6.drew
  have startB := (U6.alloc (.cells #[.slice none 0 0, .slice none 0 0] 24)).drew
  have zB := (SBox.new w6 (.slice none 0 0) (.slice none 0 0)).drew
  have lk := U6.lts
  have lz := U6.b.size
  go_cut [9, 10] (fun sp se W => ∃ g p q p' q' M2, sp = .pointer (some ⟨g, 0, none⟩) ∧ se = .int .i64 0 ∧ Hid (M2 = ⟨[z], []⟩) ∧ w.heap.size ≤ g ∧ Un ((g, .slice p M2.A.length q, .slice p' M2.R.length q', M2) :: [(k, .slice u7 M.A.length v7, .slice u8 M.R.length v8, M)]) w W)
  case first =>
    go_region_held3 (fun V => V.cell? ⟨k, 0, none⟩ = some (.slice u7 M.A.length v7) ∧ V.cell? ⟨k, 1, none⟩ = some (.slice u8 M.R.length v8)) (first | (with_reducible exact ⟨start.h.c0, start.h.c1⟩) | (with_reducible exact ⟨startB.h.c0, startB.h.c1⟩) | (with_reducible exact ⟨hh.h.c0, hh.h.c1⟩) | (with_reducible exact ⟨(hh.alloc _).h.c0, (hh.alloc _).h.c1⟩) | (with_reducible exact ⟨(hh.put zz kz (nes nz) hM2).t.h.c0, (hh.put zz kz (nes nz) hM2).t.h.c1⟩)) (first | (go_at_call 19; (with_reducible refine (CY.out _).mono ?_); rintro e wa ⟨ya, rfl, hya, hca⟩; (first | (with_reducible (have hh := start.on hca)) | (with_reducible (have hh := startB.on hca; have zz := zB.below hca zB.lt; have kz := lz; have nz := lk))); clear hca) | (go_at_call 19; (with_reducible refine (CX.out _).mono ?_); rintro e wb ⟨xa, rfl, hxa, hcb⟩; (first | (with_reducible (have zz := zz.below hcb zz.lt; have hya := hya.below hcb (Nat.le_refl _); have hh := hh.on hcb)) | (with_reducible (have hya := hya.below hcb (Nat.le_refl _); have hh := hh.on hcb)) | (with_reducible (have hya := (hya.below ((Below.refl _ _).alloc (Nat.le_refl _) (.cells #[.slice none 0 0, .slice none 0 0] 24)) (Nat.le_refl _)).below hcb (Nat.le_refl _); have zz := (SBox.new wa (.slice none 0 0) (.slice none 0 0)).below hcb (SBox.new wa (.slice none 0 0) (.slice none 0 0)).lt; have kz := hh.b.size; have nz := hh.lts; have hh := (hh.alloc (.cells #[.slice none 0 0, .slice none 0 0] 24)).on hcb))); clear hcb) | (go_at_call 23; (first | (with_reducible refine (merge_ok (one y) M (one x) _ _ _ _ _ _ _ hya hh.s hxa (by have := HLA.out; have := HLR.out; simp [one]; omega) OY.out HO.out OX.out).mono ?_) | (with_reducible refine (merge_ok (one y) M (one x) _ _ _ _ _ _ _ (hya.below ((Below.refl _ _).alloc (Nat.le_refl _) (.cells #[.slice none 0 0, .slice none 0 0] 24)) (Nat.le_refl _)) (hh.alloc (.cells #[.slice none 0 0, .slice none 0 0] 24)).s (hxa.below ((Below.refl _ _).alloc (Nat.le_refl _) (.cells #[.slice none 0 0, .slice none 0 0] 24)) (Nat.le_refl _)) (by have := HLA.out; have := HLR.out; simp [one]; omega) OY.out HO.out OX.out).mono ?_)); rintro e wc ⟨ma, mr, M2, rfl, hM2, hMg, hcc⟩; have HG2 : Hid (M2 = ⟨[z], []⟩) := Lib.hid (undo_left HG.out (hMg.2 (len_ne (by rw [HLA.out]; simp [one])))); obtain ⟨u9, v9, u10, v10, rfl, rfl, -, -⟩ := hM2.parts; (first | ((with_reducible (have zz := zz.below hcc zz.lt; have hh := hh.on hcc)); have z0 := zz.c0; have z1 := zz.c1; have zf0 := zz.f0 0; have zf1 := zz.f0 1) | (with_reducible (have hh := hh.on hcc)) | ((with_reducible (have zz := (SBox.new wb (.slice none 0 0) (.slice none 0 0)).below hcc (SBox.new wb (.slice none 0 0) (.slice none 0 0)).lt; have kz := hh.b.size; have nz := hh.lts; have hh := (hh.alloc (.cells #[.slice none 0 0, .slice none 0 0] 24)).on hcc)); have z0 := zz.c0; have z1 := zz.c1; have zf0 := zz.f0 0; have zf1 := zz.f0 1)); clear hMg hcc))
    all_goals (go_wp2; go_meet)
    all_goals first | exact ⟨_, _, _, _, _, M2, rfl, rfl, HG2, hh.b.size, hh.new hM2⟩ | exact ⟨_, _, _, _, _, M2, rfl, rfl, HG2, kz, hh.put zz kz (nes nz) hM2⟩
  case rest =>
    clear start startB zB lk lz U6
    obtain ⟨g, p, q, p', q', M2, rfl, rfl, HM2, hg, hU⟩ := hcut
    have U7 := hU.swap
    clear hU
    go_upto_region 5 with fail
    have start := U7.drew
    have startB := (U7.alloc (.cells #[.slice none 0 0, .slice none 0 0] 24)).drew
    have zB := (SBox.new wc (.slice none 0 0) (.slice none 0 0)).drew
    have lk := U7.lts
    have lz := U7.b.size
    go_cut [11, 12] (fun sp se W => ∃ g3 p3 q3 p3' q3' M3, sp = .pointer (some ⟨g3, 0, none⟩) ∧ se = .int .i64 0 ∧ Hid (M3 = ⟨[y], []⟩) ∧ w.heap.size ≤ g3 ∧ Un ((g3, .slice p3 M3.A.length q3, .slice p3' M3.R.length q3', M3) :: [(k, .slice u7 M.A.length v7, .slice u8 M.R.length v8, M), (g, .slice p M2.A.length q, .slice p' M2.R.length q', M2)]) w W)
    case first =>
      go_region_held3 (fun V => V.cell? ⟨k, 0, none⟩ = some (.slice u7 M.A.length v7) ∧ V.cell? ⟨k, 1, none⟩ = some (.slice u8 M.R.length v8)) (first | (with_reducible exact ⟨start.h.c0, start.h.c1⟩) | (with_reducible exact ⟨startB.h.c0, startB.h.c1⟩) | (with_reducible exact ⟨hh.h.c0, hh.h.c1⟩) | (with_reducible exact ⟨(hh.alloc _).h.c0, (hh.alloc _).h.c1⟩) | (with_reducible exact ⟨(hh.put zz kz (nes nz) hM2).t.h.c0, (hh.put zz kz (nes nz) hM2).t.h.c1⟩)) (first | (go_at_call 19; (with_reducible refine (CZ.out _).mono ?_); rintro e wa ⟨ya, rfl, hya, hca⟩; (first | (with_reducible (have hh := start.on hca)) | (with_reducible (have hh := startB.on hca; have zz := zB.below hca zB.lt; have kz := lz; have nz := lk))); clear hca) | (go_at_call 19; (with_reducible refine (CX.out _).mono ?_); rintro e wb ⟨xa, rfl, hxa, hcb⟩; (first | (with_reducible (have zz := zz.below hcb zz.lt; have hya := hya.below hcb (Nat.le_refl _); have hh := hh.on hcb)) | (with_reducible (have hya := hya.below hcb (Nat.le_refl _); have hh := hh.on hcb)) | (with_reducible (have hya := (hya.below ((Below.refl _ _).alloc (Nat.le_refl _) (.cells #[.slice none 0 0, .slice none 0 0] 24)) (Nat.le_refl _)).below hcb (Nat.le_refl _); have zz := (SBox.new wa (.slice none 0 0) (.slice none 0 0)).below hcb (SBox.new wa (.slice none 0 0) (.slice none 0 0)).lt; have kz := hh.b.size; have nz := hh.lts; have hh := (hh.alloc (.cells #[.slice none 0 0, .slice none 0 0] 24)).on hcb))); clear hcb) | (go_at_call 23; (first | (with_reducible refine (merge_ok (one z) M (one x) _ _ _ _ _ _ _ hya hh.s hxa (by have := HLA.out; have := HLR.out; simp [one]; omega) OZ.out HO.out OX.out).mono ?_) | (with_reducible refine (merge_ok (one z) M (one x) _ _ _ _ _ _ _ (hya.below ((Below.refl _ _).alloc (Nat.le_refl _) (.cells #[.slice none 0 0, .slice none 0 0] 24)) (Nat.le_refl _)) (hh.alloc (.cells #[.slice none 0 0, .slice none 0 0] 24)).s (hxa.below ((Below.refl _ _).alloc (Nat.le_refl _) (.cells #[.slice none 0 0, .slice none 0 0] 24)) (Nat.le_refl _)) (by have := HLA.out; have := HLR.out; simp [one]; omega) OZ.out HO.out OX.out).mono ?_)); rintro e wc ⟨ma, mr, M3, rfl, hM2, hMg, hcc⟩; have HG2 : Hid (M3 = ⟨[y], []⟩) := Lib.hid (undo_right HG.out (hMg.2 (len_ne (by rw [HLA.out]; simp [one])))); obtain ⟨u9, v9, u10, v10, rfl, rfl, -, -⟩ := hM2.parts; (first | ((with_reducible (have zz := zz.below hcc zz.lt; have hh := hh.on hcc)); have z0 := zz.c0; have z1 := zz.c1; have zf0 := zz.f0 0; have zf1 := zz.f0 1) | (with_reducible (have hh := hh.on hcc)) | ((with_reducible (have zz := (SBox.new wb (.slice none 0 0) (.slice none 0 0)).below hcc (SBox.new wb (.slice none 0 0) (.slice none 0 0)).lt; have kz := hh.b.size; have nz := hh.lts; have hh := (hh.alloc (.cells #[.slice none 0 0, .slice none 0 0] 24)).on hcc)); have z0 := zz.c0; have z1 := zz.c1; have zf0 := zz.f0 0; have zf1 := zz.f0 1)); clear hMg hcc))
      all_goals (go_wp2; go_meet)
      all_goals first | exact ⟨_, _, _, _, _, M3, rfl, rfl, HG2, hh.b.size, hh.new hM2⟩ | exact ⟨_, _, _, _, _, M3, rfl, rfl, HG2, kz, hh.put zz kz (nes nz) hM2⟩
    case rest =>
      clear start startB zB lk lz U7
      obtain ⟨g3, p3, q3, p3', q3', M3, rfl, rfl, HM3, hg3, hU⟩ := hcut
      go_upto_region 6 with fail
      have h1 := hU.x _ (List.mem_cons_of_mem _ (List.mem_cons_of_mem _ (List.mem_cons_self ..)))
      have c0 := h1.1.c0
      have c1 := h1.1.c1
      go_wp2_with fail
      ((with_reducible refine (value_ok z M2 HM2.out (by omega) _ _ _ h1.2).mono ?_); rintro e wd ⟨rfl, hd⟩)
      have hU := hU.on hd
      clear c0 c1 h1 hd
      go_upto_region 7 with fail
      have h1 := hU.x _ (List.mem_cons_self ..)
      have c0 := h1.1.c0
      have c1 := h1.1.c1
      go_wp2_with fail
      ((with_reducible refine (value_ok y M3 HM3.out (by omega) _ _ _ h1.2).mono ?_); rintro e we ⟨rfl, hd⟩)
      have hU := hU.on hd
      clear c0 c1 h1 hd
      go_upto_region 8 with fail
      have h1 := hU.x _ (List.mem_cons_of_mem _ (List.mem_cons_self ..))
      have c0 := h1.1.c0
      have c1 := h1.1.c1
      go_wp2_with fail
      ((with_reducible refine (value_bad M _ _ _ h1.2 (by rw [HLR.out]; omega) (.inr (by rw [HLR.out]; omega))).mono ?_); rintro e wf ⟨rfl, hd⟩)
      have hU := hU.on hd
      clear c0 c1 h1 hd
      go_upto_region 9 with fail
      have h1 := hU.x _ (List.mem_cons_of_mem _ (List.mem_cons_self ..))
      have c0 := h1.1.c0
      have c1 := h1.1.c1
      have ey := str_self y
      have ez := str_self z
      go_wp2_with fail
      ((with_reducible refine (sides_any M _ _ _ h1.2 (by rw [HLR.out]; omega)).mono ?_); rintro e wg ⟨he, hd⟩)
      rw [if_pos ((chk_ok M).2 HO.out), HLA.out] at he
      subst he
      have hU := hU.on hd
      clear c0 c1 h1 hd
      go_wp2_with fail
      ((with_reducible refine (awake_any _).mono ?_); rintro e wh ⟨rfl, hd⟩)
      have hU := hU.on hd
      go_wp2
      go_ret
      exact ⟨rfl, hU.b⟩
end Go.Proofs.Ytgnkfikihjjpeaa
