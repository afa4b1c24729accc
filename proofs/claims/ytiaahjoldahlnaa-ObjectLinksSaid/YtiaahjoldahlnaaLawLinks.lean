/- For every object ObjectLinks returns true and leaves its argument as it was: blobs and conflicts have no links, a tree has one for each entry, a commit one more than parents; no link is zero. No condition. -/
import Derived.Test.YtiaahjoldahlnaaAwake
import Derived.Test.YtiaahjoldahlnaaLinks
import Derived.Test.YtiaahjoldahlnaaGreat
import Derived.Test.YtiaahjoldahlnaaOpen
namespace Go.Proofs.Ytiaahjoldahlnaa
open Go.ChangeShapes Go.WideShapes Go.ChangeAt Go.RowKit Go.Great
open Go.ChangeMaps (open_string shut_string)
attribute [local go_sem] eq_arr

theorem ents_nz (p : Option BA) (L : List Ent) (h : entsFrom p L = 0) : ∀ x ∈ L, x.dig ≠ (0, 0) := by
  induction L generalizing p with
  | nil => simp
  | cons y t ih =>
    unfold entsFrom at h
    intro x hx
    by_cases h1 : isName y.name = false
    · rw [if_pos h1] at h; cases h
    · rw [if_neg h1] at h
      have h3 : (if y.dig = (0, 0) then 1 else entsFrom (some y.name) t) = 0 := by
        cases p with
        | none => simpa using h
        | some z =>
          simp only at h
          cases hb : bl z y.name with
          | false => simp [hb] at h
          | true => simpa [hb] using h
      by_cases h4 : y.dig = (0, 0)
      · rw [if_pos h4] at h3; cases h3
      · rw [if_neg h4] at h3
        rcases List.mem_cons.1 hx with rfl | hx
        · exact h4
        · exact ih _ h3 x hx
theorem pars_nz (L : List Dig) (j : Nat) (h : parsFrom L j = 0) : ∀ i (hi : i < L.length), j ≤ i → L[i] ≠ (0, 0) := by
  intro i hi hji
  by_cases hj : j < L.length
  · by_cases e : L[j] = (0, 0)
    · rw [pars_zero hj e] at h; cases h
    · by_cases m : L[j] ∈ L.take j
      · rw [pars_old hj e m] at h; cases h
      · rw [pars_new hj e m] at h
        rcases Nat.eq_or_lt_of_le hji with rfl | hlt
        · exact e
        · exact pars_nz L (j + 1) h i hi hlt
  · omega
termination_by L.length - j
theorem lnk_nz (o : Ob) : ∀ d ∈ lnk o, d ≠ (0, 0) := by
  unfold lnk
  by_cases h : chk o = 0
  · rw [if_pos h]
    intro d hd
    have hb := fun (q : bare o = true) => (bare_iff o).1 q
    rcases chkFields_ok (chk_fields h).1 with ⟨h1, h2, h3⟩ | ⟨h1, h2, _, h4⟩ | ⟨h1, _, h3, h4⟩
    · have e1 : o.ents = [] := List.eq_nil_of_length_eq_zero h3
      have e2 : o.pars = [] := List.eq_nil_of_length_eq_zero (hb h2).2.1
      rw [e1, e2, if_neg (by omega)] at hd
      simp at hd
    · have e2 : o.pars = [] := List.eq_nil_of_length_eq_zero (hb h2).2.1
      rw [e2, if_neg (by omega)] at hd
      simp at hd
      obtain ⟨x, hx, rfl⟩ := hd
      unfold chkEnts at h4
      split at h4
      · cases h4
      · exact ents_nz _ _ h4 x hx
    · have e1 : o.ents = [] := List.eq_nil_of_length_eq_zero h3
      obtain ⟨c1, _, c3, _⟩ := chkCommit_ok h4
      rw [e1, if_pos h1] at hd
      simp at hd
      rcases hd with rfl | hd
      · exact c1
      · obtain ⟨i, hi, rfl⟩ := List.getElem_of_mem hd
        exact pars_nz _ 0 c3 i hi (Nat.zero_le _)
  · rw [if_neg h]; simp

set_option maxRecDepth 100000 in
set_option maxHeartbeats 4000000 in
theorem linksLaw_great (v : Value) (k : Int) (d : BA) (ve : Value) (t1 t2 : Nat) (vp : Value) (au : BA) (ti : Int) (ms : BA) (w : World)
    (G : ∀ W, Below w.heap.size w W → Calls Try.prog 10 #[.agg #[.int .i64 k, .string d, ve, .int .u64 t1, .int .u64 t2, vp, .string au, .int .i64 ti, .string ms]] W fun e w' => e = .returned (.bool true) ∧ Below W.heap.size W w') (hv : v = .agg #[.int .i64 k, .string d, ve, .int .u64 t1, .int .u64 t2, vp, .string au, .int .i64 ti, .string ms]) :
    Calls Try.prog 9 #[v] w fun e w' => e = .returned (.bool true) ∧ Below w.heap.size w w' := by
  subst hv
  have HG := Lib.hid G
  have h0 := Bo.fresh w k d ve t1 t2 vp au ti ms
  clear G
  go_enter Try.func9, Try.ntmps9
  go_wp2_with fail
  ((with_reducible refine (HG.out _ h0.b).mono ?_); rintro e w1 ⟨rfl, hb1⟩)
  have hb := (h0.on hb1).b
  clear h0 hb1
  go_wp2_with fail
  ((with_reducible refine (awake_any _).mono ?_); rintro e w2 ⟨rfl, hb2⟩)
  have hb' := hb.trans (hb2.mono hb.size)
  go_wp2
  go_ret
  exact ⟨rfl, hb'⟩

set_option maxRecDepth 100000 in
set_option maxHeartbeats 4000000 in
theorem linksLaw_bad (k : Int) (d : BA) (a b : Option Addr) (ne c1 np c2 : Nat) (t1 t2 : Nat) (au : BA) (ti : Int) (ms : BA) (w : World) (R : List Dig) (hz : ∀ x ∈ R, x ≠ (0, 0)) (hl : R.length = 0)  (r : Int) (hr : r ≠ 0)
    (G : ∀ W, Below w.heap.size w W → Calls Try.prog 10 #[.agg #[.int .i64 k, .string d, .slice a ne c1, .int .u64 t1, .int .u64 t2, .slice b np c2, .string au, .int .i64 ti, .string ms]] W fun e w' => e = .returned (.bool false) ∧ Below W.heap.size W w')
    (K : ∀ W, Below w.heap.size w W → Calls Try.prog 15 #[.agg #[.int .i64 k, .string d, .slice a ne c1, .int .u64 t1, .int .u64 t2, .slice b np c2, .string au, .int .i64 ti, .string ms]] W fun e w' => ∃ u, e = .returned u ∧ IsDigs w' u R ∧ Below W.heap.size W w')
    (C : ∀ W, Below w.heap.size w W → Calls Try.prog 12 #[.agg #[.int .i64 k, .string d, .slice a ne c1, .int .u64 t1, .int .u64 t2, .slice b np c2, .string au, .int .i64 ti, .string ms]] W fun e w' => e = .returned (.int .i64 r) ∧ Below W.heap.size W w') :
    Calls Try.prog 9 #[.agg #[.int .i64 k, .string d, .slice a ne c1, .int .u64 t1, .int .u64 t2, .slice b np c2, .string au, .int .i64 ti, .string ms]] w fun e w' => e = .returned (.bool true) ∧ Below w.heap.size w w' := by
  have HG := Lib.hid G
  have HK := Lib.hid K
  have HC := Lib.hid C
  have HZ := Lib.hid hz
  have h0 := Bo.fresh w k d (.slice a ne c1) t1 t2 (.slice b np c2) au ti ms
  have er : (r == 0) = false := by simpa using hr
  have el : ((R.length : Int) == 0) = true := by simp [hl]
  have hlr : R.length ≤ 500 := by omega
  have EL := Lib.hid el
  clear G K C hz hl el
  go_enter Try.func9, Try.ntmps9
  go_wp2_with fail
  ((with_reducible refine (HG.out _ h0.b).mono ?_); rintro e w1 ⟨rfl, hb1⟩)
  have h1 := h0.on hb1
  have H1 := Lib.hid h1
  obtain ⟨y0, y1, y2, y3, y4, y5, y6, y7, y8, -, yb⟩ := h1
  clear h0 hb1
  go_wp2_with fail
  ((with_reducible refine (HK.out _ yb).mono ?_); rintro e w2 ⟨u, rfl, hU, hb2⟩)
  obtain ⟨a9, c9, rfl, _, _, hcu⟩ := hU
  have h2 := H1.out.on hb2
  have HU := Lib.hid hcu
  clear y0 y1 y2 y3 y4 y5 y6 y7 y8 yb H1 hb2 hcu
  have H2 := Lib.hid h2
  obtain ⟨y0, y1, y2, y3, y4, y5, y6, y7, y8, -, yb⟩ := h2
  go_wp2_with fail
  ((with_reducible refine (HC.out _ yb).mono ?_); rintro e w3 ⟨rfl, hb3⟩)
  have h3 := H2.out.on hb3
  have HB3 := Lib.hid hb3
  clear y0 y1 y2 y3 y4 y5 y6 y7 y8 yb H2 hb3
  have H3 := Lib.hid h3
  obtain ⟨y0, y1, y2, y3, y4, y5, y6, y7, y8, -, yb⟩ := h3
  go_wp2
  clear y0 y1 y2 y3 y4 y5 y6 y7 y8 yb
  go_loopw [29] (fun s29 wr => ∃ j : Nat, j ≤ R.length ∧ s29 = .int .i64 j ∧ Below w3.heap.size w3 wr) (fun i _ => R.length - (intOf i).toNat)
  case atStart => exact ⟨0, Nat.zero_le _, rfl, Below.refl _ _⟩
  case round =>
    obtain ⟨j, hj, rfl, hBr⟩ := hrel
    by_cases hlt : j < R.length
    · obtain ⟨b1, o1, rfl, hb1, hcell⟩ := HU.out.resolve_left (by intro e; rw [e] at hlt; simp at hlt)
      obtain ⟨q0, q1⟩ := hcell j hlt
      have s23 := HB3.out.size
      have p0 := (hBr.cell (p := ⟨b1, o1 + j * 2, none⟩) (show b1 < w3.heap.size by omega)).trans ((HB3.out.cell (p := ⟨b1, o1 + j * 2, none⟩) hb1).trans q0)
      have p1 := (hBr.cell (p := ⟨b1, o1 + j * 2 + 1, none⟩) (show b1 < w3.heap.size by omega)).trans ((HB3.out.cell (p := ⟨b1, o1 + j * 2 + 1, none⟩) hb1).trans q1)
      have hx := HZ.out _ (List.getElem_mem hlt)
      clear hcell q0 q1
      generalize R[j] = x at p0 p1 hx
      obtain ⟨d1, d2⟩ := x
      simp only at p0 p1
      have ez : (((d1 : Nat) : Int) == 0 && ((d2 : Nat) : Int) == 0) = false := by
        simp only [ne_eq, Prod.mk.injEq] at hx
        simp; omega
      have hba := hBr.alloc hBr.size (.cells #[.int .u64 d1, .int .u64 d2] 25)
      clear hx
      go_wp2
      go_roundw
      case rel => exact ⟨j + 1, by omega, by go_num, hba⟩
      case measure => simp [intOf]; omega
    · obtain rfl : j = R.length := by omega
      have el := EL.out
      go_wp2_with fail
      ((with_reducible refine (awake_any _).mono ?_); rintro e w5 ⟨rfl, hb5⟩)
      have hb' := (H3.out.on (hBr.trans (hb5.mono hBr.size))).b
      go_wp2
      go_ret
      exact ⟨rfl, hb'⟩

set_option maxRecDepth 100000 in
set_option maxHeartbeats 4000000 in
theorem linksLaw_com (d : BA) (a b : Option Addr) (ne c1 np c2 : Nat) (t1 t2 : Nat) (au : BA) (ti : Int) (ms : BA) (w : World) (R : List Dig) (hz : ∀ x ∈ R, x ≠ (0, 0)) (hl : R.length = ne + np + 1)  (hne : ne ≤ 200) (hnp : np ≤ 200)
    (G : ∀ W, Below w.heap.size w W → Calls Try.prog 10 #[.agg #[.int .i64 3, .string d, .slice a ne c1, .int .u64 t1, .int .u64 t2, .slice b np c2, .string au, .int .i64 ti, .string ms]] W fun e w' => e = .returned (.bool false) ∧ Below W.heap.size W w')
    (K : ∀ W, Below w.heap.size w W → Calls Try.prog 15 #[.agg #[.int .i64 3, .string d, .slice a ne c1, .int .u64 t1, .int .u64 t2, .slice b np c2, .string au, .int .i64 ti, .string ms]] W fun e w' => ∃ u, e = .returned u ∧ IsDigs w' u R ∧ Below W.heap.size W w')
    (C : ∀ W, Below w.heap.size w W → Calls Try.prog 12 #[.agg #[.int .i64 3, .string d, .slice a ne c1, .int .u64 t1, .int .u64 t2, .slice b np c2, .string au, .int .i64 ti, .string ms]] W fun e w' => e = .returned (.int .i64 0) ∧ Below W.heap.size W w') :
    Calls Try.prog 9 #[.agg #[.int .i64 3, .string d, .slice a ne c1, .int .u64 t1, .int .u64 t2, .slice b np c2, .string au, .int .i64 ti, .string ms]] w fun e w' => e = .returned (.bool true) ∧ Below w.heap.size w w' := by
  have HG := Lib.hid G
  have HK := Lib.hid K
  have HC := Lib.hid C
  have HZ := Lib.hid hz
  have h0 := Bo.fresh w 3 d (.slice a ne c1) t1 t2 (.slice b np c2) au ti ms
  have x1 : IntKind.i64.wrap ((ne : Int) + np) = ne + np := IntWalk.i64_in _ (by omega)
  have x2 : IntKind.i64.wrap ((ne : Int) + np + 1) = ne + np + 1 := IntWalk.i64_in _ (by omega)
  have el : ((R.length : Int) == (ne : Int) + np + 1) = true := by simp; omega
  have hlr : R.length ≤ 500 := by omega
  have EL := Lib.hid el
  clear G K C hz hl el
  go_enter Try.func9, Try.ntmps9
  go_wp2_with fail
  ((with_reducible refine (HG.out _ h0.b).mono ?_); rintro e w1 ⟨rfl, hb1⟩)
  have h1 := h0.on hb1
  have H1 := Lib.hid h1
  obtain ⟨y0, y1, y2, y3, y4, y5, y6, y7, y8, -, yb⟩ := h1
  clear h0 hb1
  go_wp2_with fail
  ((with_reducible refine (HK.out _ yb).mono ?_); rintro e w2 ⟨u, rfl, hU, hb2⟩)
  obtain ⟨a9, c9, rfl, _, _, hcu⟩ := hU
  have h2 := H1.out.on hb2
  have HU := Lib.hid hcu
  clear y0 y1 y2 y3 y4 y5 y6 y7 y8 yb H1 hb2 hcu
  have H2 := Lib.hid h2
  obtain ⟨y0, y1, y2, y3, y4, y5, y6, y7, y8, -, yb⟩ := h2
  go_wp2_with fail
  ((with_reducible refine (HC.out _ yb).mono ?_); rintro e w3 ⟨rfl, hb3⟩)
  have h3 := H2.out.on hb3
  have HB3 := Lib.hid hb3
  clear y0 y1 y2 y3 y4 y5 y6 y7 y8 yb H2 hb3
  have H3 := Lib.hid h3
  obtain ⟨y0, y1, y2, y3, y4, y5, y6, y7, y8, -, yb⟩ := h3
  go_wp2
  clear y0 y1 y2 y3 y4 y5 y6 y7 y8 yb
  go_loopw [29] (fun s29 wr => ∃ j : Nat, j ≤ R.length ∧ s29 = .int .i64 j ∧ Below w3.heap.size w3 wr) (fun i _ => R.length - (intOf i).toNat)
  case atStart => exact ⟨0, Nat.zero_le _, rfl, Below.refl _ _⟩
  case round =>
    obtain ⟨j, hj, rfl, hBr⟩ := hrel
    by_cases hlt : j < R.length
    · obtain ⟨b1, o1, rfl, hb1, hcell⟩ := HU.out.resolve_left (by intro e; rw [e] at hlt; simp at hlt)
      obtain ⟨q0, q1⟩ := hcell j hlt
      have s23 := HB3.out.size
      have p0 := (hBr.cell (p := ⟨b1, o1 + j * 2, none⟩) (show b1 < w3.heap.size by omega)).trans ((HB3.out.cell (p := ⟨b1, o1 + j * 2, none⟩) hb1).trans q0)
      have p1 := (hBr.cell (p := ⟨b1, o1 + j * 2 + 1, none⟩) (show b1 < w3.heap.size by omega)).trans ((HB3.out.cell (p := ⟨b1, o1 + j * 2 + 1, none⟩) hb1).trans q1)
      have hx := HZ.out _ (List.getElem_mem hlt)
      clear hcell q0 q1
      generalize R[j] = x at p0 p1 hx
      obtain ⟨d1, d2⟩ := x
      simp only at p0 p1
      have ez : (((d1 : Nat) : Int) == 0 && ((d2 : Nat) : Int) == 0) = false := by
        simp only [ne_eq, Prod.mk.injEq] at hx
        simp; omega
      have hba := hBr.alloc hBr.size (.cells #[.int .u64 d1, .int .u64 d2] 25)
      clear hx
      go_wp2
      go_roundw
      case rel => exact ⟨j + 1, by omega, by go_num, hba⟩
      case measure => simp [intOf]; omega
    · obtain rfl : j = R.length := by omega
      have el := EL.out
      go_wp2_with fail
      ((with_reducible refine (awake_any _).mono ?_); rintro e w5 ⟨rfl, hb5⟩)
      have hb' := (H3.out.on (hBr.trans (hb5.mono hBr.size))).b
      go_wp2
      go_ret
      exact ⟨rfl, hb'⟩

set_option maxRecDepth 100000 in
set_option maxHeartbeats 4000000 in
theorem linksLaw_oth (k : Int) (d : BA) (a b : Option Addr) (ne c1 np c2 : Nat) (t1 t2 : Nat) (au : BA) (ti : Int) (ms : BA) (w : World) (R : List Dig) (hz : ∀ x ∈ R, x ≠ (0, 0)) (hl : R.length = ne + np)  (hne : ne ≤ 200) (hnp : np ≤ 200) (hk : k ≠ 3)
    (G : ∀ W, Below w.heap.size w W → Calls Try.prog 10 #[.agg #[.int .i64 k, .string d, .slice a ne c1, .int .u64 t1, .int .u64 t2, .slice b np c2, .string au, .int .i64 ti, .string ms]] W fun e w' => e = .returned (.bool false) ∧ Below W.heap.size W w')
    (K : ∀ W, Below w.heap.size w W → Calls Try.prog 15 #[.agg #[.int .i64 k, .string d, .slice a ne c1, .int .u64 t1, .int .u64 t2, .slice b np c2, .string au, .int .i64 ti, .string ms]] W fun e w' => ∃ u, e = .returned u ∧ IsDigs w' u R ∧ Below W.heap.size W w')
    (C : ∀ W, Below w.heap.size w W → Calls Try.prog 12 #[.agg #[.int .i64 k, .string d, .slice a ne c1, .int .u64 t1, .int .u64 t2, .slice b np c2, .string au, .int .i64 ti, .string ms]] W fun e w' => e = .returned (.int .i64 0) ∧ Below W.heap.size W w') :
    Calls Try.prog 9 #[.agg #[.int .i64 k, .string d, .slice a ne c1, .int .u64 t1, .int .u64 t2, .slice b np c2, .string au, .int .i64 ti, .string ms]] w fun e w' => e = .returned (.bool true) ∧ Below w.heap.size w w' := by
  have HG := Lib.hid G
  have HK := Lib.hid K
  have HC := Lib.hid C
  have HZ := Lib.hid hz
  have h0 := Bo.fresh w k d (.slice a ne c1) t1 t2 (.slice b np c2) au ti ms
  have x1 : IntKind.i64.wrap ((ne : Int) + np) = ne + np := IntWalk.i64_in _ (by omega)
  have ek : (k == 3) = false := by simpa using hk
  have el : ((R.length : Int) == (ne : Int) + np) = true := by simp; omega
  have hlr : R.length ≤ 500 := by omega
  have EL := Lib.hid el
  clear G K C hz hl el
  go_enter Try.func9, Try.ntmps9
  go_wp2_with fail
  ((with_reducible refine (HG.out _ h0.b).mono ?_); rintro e w1 ⟨rfl, hb1⟩)
  have h1 := h0.on hb1
  have H1 := Lib.hid h1
  obtain ⟨y0, y1, y2, y3, y4, y5, y6, y7, y8, -, yb⟩ := h1
  clear h0 hb1
  go_wp2_with fail
  ((with_reducible refine (HK.out _ yb).mono ?_); rintro e w2 ⟨u, rfl, hU, hb2⟩)
  obtain ⟨a9, c9, rfl, _, _, hcu⟩ := hU
  have h2 := H1.out.on hb2
  have HU := Lib.hid hcu
  clear y0 y1 y2 y3 y4 y5 y6 y7 y8 yb H1 hb2 hcu
  have H2 := Lib.hid h2
  obtain ⟨y0, y1, y2, y3, y4, y5, y6, y7, y8, -, yb⟩ := h2
  go_wp2_with fail
  ((with_reducible refine (HC.out _ yb).mono ?_); rintro e w3 ⟨rfl, hb3⟩)
  have h3 := H2.out.on hb3
  have HB3 := Lib.hid hb3
  clear y0 y1 y2 y3 y4 y5 y6 y7 y8 yb H2 hb3
  have H3 := Lib.hid h3
  obtain ⟨y0, y1, y2, y3, y4, y5, y6, y7, y8, -, yb⟩ := h3
  go_wp2
  clear y0 y1 y2 y3 y4 y5 y6 y7 y8 yb
  go_loopw [29] (fun s29 wr => ∃ j : Nat, j ≤ R.length ∧ s29 = .int .i64 j ∧ Below w3.heap.size w3 wr) (fun i _ => R.length - (intOf i).toNat)
  case atStart => exact ⟨0, Nat.zero_le _, rfl, Below.refl _ _⟩
  case round =>
    obtain ⟨j, hj, rfl, hBr⟩ := hrel
    by_cases hlt : j < R.length
    · obtain ⟨b1, o1, rfl, hb1, hcell⟩ := HU.out.resolve_left (by intro e; rw [e] at hlt; simp at hlt)
      obtain ⟨q0, q1⟩ := hcell j hlt
      have s23 := HB3.out.size
      have p0 := (hBr.cell (p := ⟨b1, o1 + j * 2, none⟩) (show b1 < w3.heap.size by omega)).trans ((HB3.out.cell (p := ⟨b1, o1 + j * 2, none⟩) hb1).trans q0)
      have p1 := (hBr.cell (p := ⟨b1, o1 + j * 2 + 1, none⟩) (show b1 < w3.heap.size by omega)).trans ((HB3.out.cell (p := ⟨b1, o1 + j * 2 + 1, none⟩) hb1).trans q1)
      have hx := HZ.out _ (List.getElem_mem hlt)
      clear hcell q0 q1
      generalize R[j] = x at p0 p1 hx
      obtain ⟨d1, d2⟩ := x
      simp only at p0 p1
      have ez : (((d1 : Nat) : Int) == 0 && ((d2 : Nat) : Int) == 0) = false := by
        simp only [ne_eq, Prod.mk.injEq] at hx
        simp; omega
      have hba := hBr.alloc hBr.size (.cells #[.int .u64 d1, .int .u64 d2] 25)
      clear hx
      go_wp2
      go_roundw
      case rel => exact ⟨j + 1, by omega, by go_num, hba⟩
      case measure => simp [intOf]; omega
    · obtain rfl : j = R.length := by omega
      have el := EL.out
      go_wp2_with fail
      ((with_reducible refine (awake_any _).mono ?_); rintro e w5 ⟨rfl, hb5⟩)
      have hb' := (H3.out.on (hBr.trans (hb5.mono hBr.size))).b
      go_wp2
      go_ret
      exact ⟨rfl, hb'⟩

theorem linksLaw_any (o : Ob) (v : Value) (w : World) (hv : IsOb w v o) (hf : o.Fit) :
    Calls Try.prog 9 #[v] w fun e w' => e = .returned (.bool true) ∧ Below w.heap.size w w' := by
  have hv0 := hv
  obtain ⟨ve, vp, rfl, hE, hP⟩ := hv
  have hB := fun (W : World) (hW : Below w.heap.size w W) => hv0.below hW (Nat.le_refl _)
  by_cases hs : o.Small
  · have hd : o.data.size ≤ 2 ^ 60 := Nat.le_trans hs.1 (by decide)
    obtain ⟨a, c1, rfl, _, _, _⟩ := hE
    obtain ⟨b, c2, rfl, _, _, _⟩ := hP
    have g1 := hs.2.1
    have g2 := hs.2.2.1
    by_cases h : chk o = 0
    · by_cases hk : o.kind = 3
      · have l : (lnk o).length = o.ents.length + o.pars.length + 1 := by
          unfold lnk
          rw [if_pos h, if_pos hk]
          simp; omega
        have key := linksLaw_com o.data a b o.ents.length c1 o.pars.length c2 o.tree.1 o.tree.2 o.author o.time o.msg w (lnk o) (lnk_nz o) l (by omega) (by omega)
        rw [← hk] at key
        exact key (fun W hW => great_no o _ W (hB W hW) hs) (fun W hW => links_any o _ W (hB W hW) hf hd) (fun W hW => check_any o _ W (hB W hW) hf hd 0 h)
      · have l : (lnk o).length = o.ents.length + o.pars.length := by
          unfold lnk
          rw [if_pos h, if_neg hk]
          simp
        exact linksLaw_oth o.kind o.data a b o.ents.length c1 o.pars.length c2 o.tree.1 o.tree.2 o.author o.time o.msg w (lnk o) (lnk_nz o) l (by omega) (by omega) hk
          (fun W hW => great_no o _ W (hB W hW) hs) (fun W hW => links_any o _ W (hB W hW) hf hd) (fun W hW => check_any o _ W (hB W hW) hf hd 0 h)
    · have l : (lnk o).length = 0 := by
        unfold lnk
        rw [if_neg h]; rfl
      exact linksLaw_bad o.kind o.data a b o.ents.length c1 o.pars.length c2 o.tree.1 o.tree.2 o.author o.time o.msg w (lnk o) (lnk_nz o) l _ h
        (fun W hW => great_no o _ W (hB W hW) hs) (fun W hW => links_any o _ W (hB W hW) hf hd) (fun W hW => check_any o _ W (hB W hW) hf hd _ rfl)
  · exact linksLaw_great _ o.kind o.data ve o.tree.1 o.tree.2 vp o.author o.time o.msg w (fun W hW => great_yes o _ W (hB W hW) hf hs) rfl

set_option maxRecDepth 100000 in
theorem links_lifted (os : Os) (started : os.Started) (H : Type) (enc : TypeId × Value → H) :
    ReturnsInHanded {} Try.checked os 9 .any (Rows.objectLinksSpec.pre6 enc Try.prog Try.f9 Rows.objectLinksRow.domain false) (Rows.objectLinksSpec.post enc Try.prog Try.f9 false true false false) := by
  refine returnsInHanded_of_change (C := Try.checked) ownK started (by kernel_rfl) Try.func9
    (ChangeSpec.witness6 (enc := enc) (C := Try.checked) false ⟨#[], #[ov 0 ⟨#[]⟩ (.slice none 0 0) (0, 0) (.slice none 0 0) ⟨#[]⟩ 0 ⟨#[]⟩], []⟩ 8 (by kernel_rfl) (by kernel_rfl) (by kernel_rfl) (by kernel_rfl)) ?_
  intro W base args ds gs before hval0 hW hcnd _
  have hval : ∀ (j : Nat) t v, Try.f9.params[j]? = some t → args[j]? = some v → Value.okWide Try.prog W .any base t v := hval0
  have hW' := hW
  obtain ⟨p, q, hA0, hV, rfl, hfz, hnd⟩ := hW
  have hA : DataW.TrodAll enc Try.prog W 0 (fun _ => true) true Try.f9.params.toList args.toList ds p := hA0
  rw [Try.params9] at hA hval
  obtain ⟨v0, d0, rfl, rfl, h0⟩ := trodAll_one hA
  obtain ⟨rfl, rfl⟩ := trodVars_none hV
  have k0 := h0
  have lt0 : ∀ x ∈ p, x.block < W.heap.size := by obtain ⟨m, hm⟩ := k0; exact DataW.trod_lt m _ _ _ hm
  obtain ⟨o, i0, hf, -⟩ := open_ob (hval 0 28 v0 rfl rfl) h0
  clear hA0 hval0
  refine (linksLaw_any o v0 W i0 hf).mono fun e W' ⟨he, bel⟩ => ?_
  subst he
  exact ⟨_, rfl, _, _, _, [], _, [], hW', trodAll_mk1 (shut_bool Try.underlying4 _), trodAll_mk1 (Below.trod laidOut (by kernel_rfl) (of_decide_eq_true (by kernel_rfl)) k0 bel lt0), rfl, bel.frame _, fun h => by cases h⟩

theorem links_holds : Rows.ObjectLinksSaid :=
  OpenClaim.holds_of_wide 9 Try.f9 rfl rfl rfl rfl rfl rfl rfl ⟨rfl, rfl, rfl, rfl, rfl⟩ rfl rfl rfl rfl rfl (by kernel_rfl) Try.func9 (by kernel_rfl)
    (of_decide_eq_true (by kernel_rfl)) (by unfold Func.isWrapper; rw [if_neg (of_decide_eq_false (by kernel_rfl))]; exact ⟨rfl, rfl⟩)
    (fun os started H enc _ => links_lifted os started H enc)
#print axioms links_holds
end Go.Proofs.Ytiaahjoldahlnaa
