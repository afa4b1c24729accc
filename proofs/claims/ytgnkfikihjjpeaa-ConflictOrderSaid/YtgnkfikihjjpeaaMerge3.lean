/- conflict.Merge of valid sums whose sides differ, at this translation. -/
import Derived.Test.YtgnkfikihjjpeaaMerge2
namespace Go.Proofs.Ytgnkfikihjjpeaa
open Go.RowKit Go.Great Go.Maps

/-- A count with some of a list's texts added, each as often as d says. -/
def fUp (g : BA → Int) (d : Int) (P : List BA) (j : Nat) : BA → Int := fun s => g s + d * ((P.take j).count s : Int)
theorem fUp_step {P : List BA} {j : Nat} (h : j < P.length) (g : BA → Int) (d : Int) (x : BA) (hx : P[j] = x) (c : Int) (hc : fUp g d P j x = c) : setAt (fUp g d P j) x (c + d) = fUp g d P (j + 1) := by
  subst hc
  exact setAt_up h g d x hx
theorem fUp_zero (g : BA → Int) (d : Int) (P : List BA) : fUp g d P 0 = g := by
  funext s; simp [fUp]
theorem fUp_full {P : List BA} : fUp (fun _ => 0) 1 P P.length = fun s => (P.count s : Int) := by
  funext s; simp [fUp]
theorem parts3 {B L R : Sm} {P N : List BA} (hP : [L.A, R.A, B.R].flatten = P) (hN : [L.R, R.R, B.A].flatten = N) (hm : L.A.length + R.A.length + B.R.length ≤ 500 ∧ L.R.length + R.R.length + B.A.length ≤ 500) (hB : Ok B) (hL : Ok L) (hR : Ok R) :
    P.length ≤ 500 ∧ N.length ≤ 500 ∧ (∀ x ∈ P, x.size ≤ maxLen) ∧ ∀ x ∈ N, x.size ≤ maxLen := by
  subst hP hN
  have e : (65536 : Nat) ≤ maxLen := by unfold maxLen; omega
  refine ⟨by simp; omega, by simp; omega, fun x hx => ?_, fun x hx => ?_⟩
  · simp only [List.flatten_cons, List.flatten_nil, List.append_nil, List.mem_append] at hx
    rcases hx with hx | hx | hx
    · exact Nat.le_trans (hL.a x hx) e
    · exact Nat.le_trans (hR.a x hx) e
    · exact Nat.le_trans (hB.r x hx) e
  · simp only [List.flatten_cons, List.flatten_nil, List.append_nil, List.mem_append] at hx
    rcases hx with hx | hx | hx
    · exact Nat.le_trans (hL.r x hx) e
    · exact Nat.le_trans (hR.r x hx) e
    · exact Nat.le_trans (hB.a x hx) e

/-- A slice of strings stays as it is while a box with two slices is written. -/
theorem IsStrs.box {w : World} {v : Value} {L : List BA} {B : Nat} {a1 a2 : Option Addr} {n1 n2 c1 c2 : Nat} (h : IsStrs w v L) (hb : SBox w B (.slice a1 n1 c1) (.slice a2 n2 c2)) (o : Nat) (u : Value) : IsStrs (w.setCell ⟨B, o, none⟩ u) v L := by
  obtain ⟨a, cap, e, h1, h2, h3⟩ := h
  refine ⟨a, cap, e, h1, h2, ?_⟩
  rcases h3 with h3 | ⟨b, off, e2, hlt, hj⟩
  · exact .inl h3
  by_cases hL : L = []
  · exact .inl hL
  have hne : b ≠ B := by
    rintro rfl
    have h0 := hj 0 (List.length_pos_iff.2 hL)
    simp only [World.cell?, show w.heap[b]? = _ from hb] at h0
    simp at h0
    have : off = 0 ∨ off = 1 ∨ 2 ≤ off := by omega
    rcases this with rfl | rfl | h
    · simp at h0
    · simp at h0
    · rw [List.getElem?_eq_none (by simpa using h)] at h0
      cases h0
  have hk := Below.heap_setCell w ⟨B, o, none⟩ u b hne
  refine .inr ⟨b, off, e2, (Array.getElem?_eq_some_iff.1 (hk.trans (Array.getElem?_eq_getElem hlt))).1, fun j h => ?_⟩
  rw [← hj j h]
  simp [World.cell?, hk]
theorem slice_inj {a b : Option Addr} {n m c d : Nat} (h : Value.slice a n c = .slice b m d) : b = a := by cases h; rfl
theorem cells3 {w : World} {g : Nat} {x y z : Value} {X Y Z : List BA} (h : w.heap[g]? = some (.cells #[x, y, z] 22 (0, 0))) (hx : IsStrs w x X) (hy : IsStrs w y Y) (hz : IsStrs w z Z) (j : Nat) (hj : j < [X, Y, Z].length) :
    ∃ v, w.cell? ⟨g, j, none⟩ = some v ∧ IsStrs w v [X, Y, Z][j] := by
  have hj' : j < 3 := hj
  have : j = 0 ∨ j = 1 ∨ j = 2 := by omega
  rcases this with rfl | rfl | rfl
  · exact ⟨x, by simp only [World.cell?, h]; rfl, hx⟩
  · exact ⟨y, by simp only [World.cell?, h]; rfl, hy⟩
  · exact ⟨z, by simp only [World.cell?, h]; rfl, hz⟩

set_option maxRecDepth 100000 in
set_option maxHeartbeats 8000000 in
theorem merge_diff0 (B L R : Sm) (a0 r0 a1 r1 a2 r2 : Value) (w : World) (h0 : IsSum w a0 r0 B) (h1 : IsSum w a1 r1 L) (h2 : IsSum w a2 r2 R) (hl : B.R.length ≤ 1000000 ∧ L.R.length ≤ 1000000 ∧ R.R.length ≤ 1000000) (hr : fstErr [B, L, R] = 0) (hd : decide (L.A = R.A) = false) (hm : L.A.length + R.A.length + B.R.length ≤ 500 ∧ L.R.length + R.R.length + B.A.length ≤ 500) (hB0 : Ok B) (hL0 : Ok L) (hR0 : Ok R) :
    Calls Try.prog 23 #[sv a0 r0, sv a1 r1, sv a2 r2] w fun e w' => ∃ va vr M, e = .returned (.tuple #[sv va vr, .int .i64 0]) ∧ IsSum w' va vr M ∧ Mrg B L R M ∧ Below w.heap.size w w' := by
  have hI0 := h0
  have hI1 := h1
  have hI2 := h2
  obtain ⟨wb, hwb⟩ : ∃ wb, (((w.alloc (.cells #[a0, r0] 24)).alloc (.cells #[a1, r1] 24)).alloc (.cells #[a2, r2] 24)).alloc (.cells #[.slice none 0 0, .slice none 0 0] 24) = wb := ⟨_, rfl⟩
  have hB := ((((Below.refl w.heap.size w).alloc (Nat.le_refl _) (.cells #[a0, r0] 24)).alloc (by simp) (.cells #[a1, r1] 24)).alloc (by simp; omega) (.cells #[a2, r2] 24)).alloc (by simp; omega) (.cells #[.slice none 0 0, .slice none 0 0] 24)
  have x0 := (((SBox.new w a0 r0).alloc (.cells #[a1, r1] 24)).alloc (.cells #[a2, r2] 24)).alloc (.cells #[.slice none 0 0, .slice none 0 0] 24)
  have x1 := ((SBox.new (w.alloc (.cells #[a0, r0] 24)) a1 r1).alloc (.cells #[a2, r2] 24)).alloc (.cells #[.slice none 0 0, .slice none 0 0] 24)
  have x2 := (SBox.new ((w.alloc (.cells #[a0, r0] 24)).alloc (.cells #[a1, r1] 24)) a2 r2).alloc (.cells #[.slice none 0 0, .slice none 0 0] 24)
  have x3 := SBox.new (((w.alloc (.cells #[a0, r0] 24)).alloc (.cells #[a1, r1] 24)).alloc (.cells #[a2, r2] 24)) (.slice none 0 0) (.slice none 0 0)
  have sz : wb.heap.size = w.heap.size + 4 := by rw [← hwb]; simp
  simp only [World.size_alloc] at x1 x2 x3
  rw [hwb] at hB x0 x1 x2 x3
  have c0 := x0.c0
  have c1 := x0.c1
  have c2 := x1.c0
  have c3 := x1.c1
  have c4 := x2.c0
  have c5 := x2.c1
  have HR := Lib.hid hr
  have HD := Lib.hid hd
  obtain ⟨P, hP⟩ : ∃ P, [L.A, R.A, B.R].flatten = P := ⟨_, rfl⟩
  obtain ⟨N, hN⟩ : ∃ N, [L.R, R.R, B.A].flatten = N := ⟨_, rfl⟩
  have pn := parts3 hP hN hm hB0 hL0 hR0
  have HP := Lib.hid hP
  have HN := Lib.hid hN
  have PX := Lib.hid pn.2.2.1
  have NX := Lib.hid pn.2.2.2
  have pl := pn.1
  have nl := pn.2.1
  clear hP hN pn hB0 hL0 hR0 hd
  have SZ := Lib.hid sz
  have HW := Lib.hid hwb
  clear hr sz hwb
  go_enter Try.func23, Try.ntmps23
  go_upto_region 1 with fail
  rw [HW.out]
  have h0 := h0.below hB (Nat.le_refl _)
  have h1 := h1.below hB (Nat.le_refl _)
  have h2 := h2.below hB (Nat.le_refl _)
  have RW := Lib.hid (row3_new wb a0 r0 a1 r1 a2 r2 B L R)
  have HS := Lib.hid (sums3 h0 h1 h2 hl)
  have X0 := Lib.hid (x0.alloc (.cells #[a0, r0, a1, r1, a2, r2] 24))
  have X1 := Lib.hid (x1.alloc (.cells #[a0, r0, a1, r1, a2, r2] 24))
  have X2 := Lib.hid (x2.alloc (.cells #[a0, r0, a1, r1, a2, r2] 24))
  have X3 := Lib.hid (x3.alloc (.cells #[a0, r0, a1, r1, a2, r2] 24))
  have B1 := (Below.refl wb.heap.size wb).alloc (Nat.le_refl _) (.cells #[a0, r0, a1, r1, a2, r2] 24)
  have Z1 : wb.heap.size < (wb.alloc (.cells #[a0, r0, a1, r1, a2, r2] 24)).heap.size := by simp
  go_wp2
  clear c0 c1 c2 c3 c4 c5
  generalize hVV : at3 (a0, r0) (a1, r1) (a2, r2) = V at RW HS
  clear hVV
  generalize wb.alloc (.cells #[a0, r0, a1, r1, a2, r2] 24) = w2 at RW B1 Z1 X0 X1 X2 X3 ⊢
  have Z2 := B1.size
  have BB : Below w.heap.size w w2 := hB.trans (B1.mono hB.size)
  obtain ⟨G, hG⟩ : ∃ G, wb.heap.size = G := ⟨_, rfl⟩
  rw [hG] at RW Z1 ⊢
  have HG := Lib.hid hG
  clear hG
  go_loopw [22] (fun s22 wr => ∃ j : Nat, j ≤ 3 ∧ s22 = .int .i64 j ∧ Hid (fstErr ([B, L, R].drop j) = 0) ∧ Below w2.heap.size w2 wr) (fun i _ => 3 - (intOf i).toNat)
  case atStart => exact ⟨0, by omega, rfl, HR, Below.refl _ _⟩
  case round =>
    obtain ⟨j, hj, rfl, HJ, hBr⟩ := hrel
    by_cases hlt : j < 3
    · obtain ⟨S, hS, hIS, hSl⟩ := HS.out j hlt
      have hIS := (hIS.below B1 (Nat.le_refl _)).below hBr (Nat.le_refl _)
      have d0 := (RW.out.below hBr Z1).c0 j hlt
      have d1 := (RW.out.below hBr Z1).c1 j hlt
      obtain ⟨pa, ca, pr, cr, ea, er, -, -⟩ := hIS.parts
      rw [ea, er] at hIS
      rw [ea] at d0
      rw [er] at d1
      rw [hS] at HJ
      have e0 := (SBox.new wr (.slice pa S.A.length ca) (.slice pr S.R.length cr)).c0
      have e1 := (SBox.new wr (.slice pa S.A.length ca) (.slice pr S.R.length cr)).c1
      have BA := (Below.refl wr.heap.size wr).alloc (Nat.le_refl _) (.cells #[.slice pa S.A.length ca, .slice pr S.R.length cr] 24)
      have hIA := hIS.below BA (Nat.le_refl _)
      obtain ⟨q, hq⟩ : ∃ q, chk S = q := ⟨_, rfl⟩
      rw [hq] at HJ
      have HQ := Lib.hid hq
      clear hS ea er hq hIS
      by_cases hq0 : q = 0
      · subst hq0
        rw [if_neg (by simp)] at HJ
        go_wp2_with fail
        ((with_reducible refine (check_any S _ _ _ hIA hSl 0 HQ.out).mono ?_); rintro e w4 ⟨rfl, hb4⟩)
        have hB4 := hBr.trans ((BA.trans (hb4.mono (by simp))).mono hBr.size)
        go_wp2
        go_roundw
        case rel => exact ⟨j + 1, by omega, by go_num, HJ, hB4⟩
        case measure => simp [intOf]; omega
      · rw [if_pos hq0] at HJ
        exact absurd HJ.out hq0
    · have h0 := h0.below B1 (Nat.le_refl _) |>.below hBr (Nat.le_refl _)
      have h1 := h1.below B1 (Nat.le_refl _) |>.below hBr (Nat.le_refl _)
      have h2 := h2.below B1 (Nat.le_refl _) |>.below hBr (Nat.le_refl _)
      have y0 := X0.out.below hBr X0.out.lt
      have y1 := X1.out.below hBr X1.out.lt
      have y2 := X2.out.below hBr X2.out.lt
      have d0 := y1.c0
      have d1 := y1.c1
      have d2 := y2.c0
      have d3 := y2.c1
      clear HJ
      go_wp2_with fail
      ((with_reducible refine (equal_any L.A R.A _ _ _ h1.a h2.a false HD.out).mono ?_); rintro e w5 ⟨rfl, hb5⟩)
      have h0 := h0.below hb5 (Nat.le_refl _)
      have h1 := h1.below hb5 (Nat.le_refl _)
      have h2 := h2.below hb5 (Nat.le_refl _)
      have y0 := y0.below hb5 y0.lt
      have y1 := y1.below hb5 y1.lt
      have y2 := y2.below hb5 y2.lt
      have B5 := hBr.trans (hb5.mono hBr.size)
      clear d0 d1 d2 d3 hb5
      have B6 := B5
      clear B5
      generalize w5 = w6 at *
      have y3 := X3.out.below B6 X3.out.lt
      have BW := BB.trans (B6.mono BB.size)
      clear B6 X0 X1 X2 X3 BB RW HS HR hBr B1 Z1 Z2
      have A6 := (Below.refl w6.heap.size w6).alloc (Nat.le_refl _) (.map #[] 0)
      have C7 := Lib.hid (isCnt_made (P := Try.prog) (k := 9) (e := 3) w6)
      have Y0 := Lib.hid (y0.alloc (.map #[] 0))
      have Y1 := Lib.hid (y1.alloc (.map #[] 0))
      have Y2 := Lib.hid (y2.alloc (.map #[] 0))
      have Y3 := Lib.hid (y3.alloc (.map #[] 0))
      have Y3K := Lib.hid (y3.alloc (.map #[] 0))
      have h0 := h0.below A6 (Nat.le_refl _)
      have h1 := h1.below A6 (Nat.le_refl _)
      have h2 := h2.below A6 (Nat.le_refl _)
      have BW := BW.alloc BW.size (.map #[] 0)
      have SZ7 := Lib.hid (World.size_alloc w6 (.map #[] 0))
      have lt6 : w.heap.size + 1 + 1 + 1 < w6.heap.size := y3.lt
      have hmm := @run_makeMap Try.prog 53 w6
      obtain ⟨u1, v1, u2, v2, rfl, rfl, -, -⟩ := h1.parts
      obtain ⟨u3, v3, u4, v4, rfl, rfl, -, -⟩ := h2.parts
      obtain ⟨u5, v5, u6, v6, rfl, rfl, -, -⟩ := h0.parts
      go_upto_region 11 with fail
      clear hmm
      generalize hmb : w6.heap.size = mb at *
      generalize w6.alloc (.map #[] 0) = w7 at *
      have sz7 : w7.heap.size = mb + 1 := SZ7.out
      have lt7 : mb < w7.heap.size := by omega
      clear sz7 A6 hmb y0 y1 y2 y3
      have d0 := Y1.out.c0
      have d1 := Y2.out.c0
      have d2 := Y0.out.c1
      have A8 := (Below.refl w7.heap.size w7).alloc (Nat.le_refl _) (.cells #[.slice u1 L.A.length v1, .slice u3 R.A.length v3, .slice u6 B.R.length v6] 22)
      have g8 := World.alloc_heap_new w7 (.cells #[.slice u1 L.A.length v1, .slice u3 R.A.length v3, .slice u6 B.R.length v6] 22)
      have H8 : Hid (∀ j (h : j < [L.A, R.A, B.R].length), ∃ v, (w7.alloc (.cells #[.slice u1 L.A.length v1, .slice u3 R.A.length v3, .slice u6 B.R.length v6] 22)).cell? ⟨w7.heap.size, j, none⟩ = some v ∧ IsStrs (w7.alloc (.cells #[.slice u1 L.A.length v1, .slice u3 R.A.length v3, .slice u6 B.R.length v6] 22)) v [L.A, R.A, B.R][j]) :=
        Lib.hid (cells3 g8 (h1.a.below A8 (Nat.le_refl _)) (h2.a.below A8 (Nat.le_refl _)) (h0.r.below A8 (Nat.le_refl _)))
      clear g8
      go_wp2_with fail
      ((with_reducible refine (concat_any [L.A, R.A, B.R] 3 rfl w7.heap.size 3 _ (by simp) H8.out (by rw [HP.out]; omega) (by omega)).mono ?_); rintro e w9 ⟨vp, rfl, hp9, hb9⟩)
      rw [HP.out] at hp9
      have A9 := A8.trans (hb9.mono (by simp))
      have C9 : Hid (IsCnt Try.prog 9 3 w9 mb 0 (fUp (fun _ => 0) 1 P 0)) := Lib.hid (by rw [fUp_zero]; exact C7.out.kept (A9.block mb lt7))
      have M9 := A9.mono (show mb ≤ w7.heap.size by omega)
      have lt9 : mb < w9.heap.size := Nat.lt_of_lt_of_le lt7 A9.size
      clear H8 A8 hb9 A9 d0 d1 d2
      have hpl := hp9
      obtain ⟨pa, pc, rfl, -, -, -⟩ := hpl
      have HP9 := Lib.hid hp9
      clear hp9
      go_wp2
      go_loopw [56] (fun s wr => ∃ j : Nat, j ≤ P.length ∧ s = .int .i64 j ∧ Hid (IsCnt Try.prog 9 3 wr mb j (fUp (fun _ => 0) 1 P j)) ∧ Hid (IsStrs wr (.slice pa P.length pc) P) ∧ Below mb w7 wr ∧ mb < wr.heap.size) (fun i _ => P.length - (intOf i).toNat)
      case atStart => exact ⟨0, Nat.zero_le _, rfl, C9, HP9, M9, lt9⟩
      case round =>
        obtain ⟨j, hj, rfl, HC, HPR, hM, hltm⟩ := hrel
        by_cases hlt : j < P.length
        · obtain ⟨pb, po, e2, hpb, hcell⟩ := let ⟨_, _, e, _, _, hh⟩ := HPR.out; (slice_inj e) ▸ hh.resolve_left (by intro e; rw [e] at hlt; simp at hlt)
          subst e2
          have p0 := hcell j hlt
          have HXS := Lib.hid (PX.out P[j] (List.getElem_mem hlt))
          obtain ⟨x, hx⟩ : ∃ x, P[j] = x := ⟨_, rfl⟩
          rw [hx] at p0 HXS
          obtain ⟨c, hc⟩ : ∃ c, fUp (fun _ => 0) 1 P j x = c := ⟨_, rfl⟩
          have c1 : -1000 ≤ c ∧ c ≤ 1000 := by
            have := List.count_le_length (l := P.take j) (a := x)
            rw [List.length_take] at this
            rw [← hc]
            simp only [fUp]
            omega
          have ST := Lib.hid (fUp_step hlt (fun _ => 0) 1 x hx c hc)
          have HCV := Lib.hid hc
          clear hcell hx hc
          go_wp2_with (first
            | (at_lookup; refine wpList_cnt_look _ rfl _ _ 53 rfl 9 3 Try.underlying9 Try.underlying3 Try.underlying53 (Try.zeroValue3 _) mb j _ rfl HC.out x HXS.out rfl ?_; rw [HCV.out])
            | (at_mapUpdate; refine wpList_cnt_put _ rfl _ _ _ 53 rfl 9 3 Try.underlying9 Try.underlying3 Try.underlying53 mb j _ rfl HC.out (by unfold maxLen; omega) x HXS.out rfl (c + 1) (wf_small (by omega) (by omega)) rfl ?_; intro w10 hc10 hg10; rw [ST.out] at hc10; have HC10 := Lib.hid hc10; have HP10 := Lib.hid (HPR.out.map HC.out hg10); have M10 := hM.grown hg10 (by omega) (fun k hk => by simp at hk; omega); have L10 := Nat.lt_of_lt_of_le hltm hg10.size; clear hc10 hg10))
          go_roundw
          case rel => exact ⟨j + 1, by omega, by go_num, HC10, HP10, M10, L10⟩
          case measure => simp [intOf]; omega
        · obtain rfl : j = P.length := by omega
          have BWr := BW.trans (hM.mono (show w.heap.size ≤ mb by omega))
          have h0 := hI0.below BWr (Nat.le_refl _)
          have h1 := hI1.below BWr (Nat.le_refl _)
          have h2 := hI2.below BWr (Nat.le_refl _)
          have V0 := Lib.hid (Y0.out.below hM (by omega))
          have V1 := Lib.hid (Y1.out.below hM (by omega))
          have V2 := Lib.hid (Y2.out.below hM (by omega))
          have V3 := Lib.hid (Y3.out.below hM (by omega))
          clear Y0 Y1 Y2 Y3 M9 lt9 C9 HP9 HPR
          have d0 := V1.out.c1
          have d1 := V2.out.c1
          have d2 := V0.out.c0
          have A8 := (Below.refl wr.heap.size wr).alloc (Nat.le_refl _) (.cells #[.slice u2 L.R.length v2, .slice u4 R.R.length v4, .slice u5 B.A.length v5] 22)
          have g8 := World.alloc_heap_new wr (.cells #[.slice u2 L.R.length v2, .slice u4 R.R.length v4, .slice u5 B.A.length v5] 22)
          have H8 : Hid (∀ j (h : j < [L.R, R.R, B.A].length), ∃ v, (wr.alloc (.cells #[.slice u2 L.R.length v2, .slice u4 R.R.length v4, .slice u5 B.A.length v5] 22)).cell? ⟨wr.heap.size, j, none⟩ = some v ∧ IsStrs (wr.alloc (.cells #[.slice u2 L.R.length v2, .slice u4 R.R.length v4, .slice u5 B.A.length v5] 22)) v [L.R, R.R, B.A][j]) :=
            Lib.hid (cells3 g8 (h1.r.below A8 (Nat.le_refl _)) (h2.r.below A8 (Nat.le_refl _)) (h0.a.below A8 (Nat.le_refl _)))
          clear g8
          go_wp2_with fail
          ((with_reducible refine (concat_any [L.R, R.R, B.A] 3 rfl wr.heap.size 3 _ (by simp) H8.out (by rw [HN.out]; omega) (by omega)).mono ?_); rintro e w11 ⟨vq, rfl, hp11, hb11⟩)
          rw [HN.out] at hp11
          have A11 := A8.trans (hb11.mono (by simp))
          have C11 : Hid (IsCnt Try.prog 9 3 w11 mb (P.length + 0) (fUp (fun s => (P.count s : Int)) (-1) N 0)) := Lib.hid (by rw [fUp_zero, ← fUp_full]; exact HC.out.kept (A11.block mb hltm))
          have M11 := hM.trans (A11.mono (Nat.le_of_lt hltm))
          have lt11 : mb < w11.heap.size := Nat.lt_of_lt_of_le hltm A11.size
          clear H8 A8 hb11 A11 d0 d1 d2 HC hM hltm V0 V1 V2 V3 BWr
          have hpl := hp11
          obtain ⟨qa, qc, rfl, -, -, -⟩ := hpl
          have HP11 := Lib.hid hp11
          clear hp11
          go_wp2
          go_loopw [74] (fun s wr => ∃ j : Nat, j ≤ N.length ∧ s = .int .i64 j ∧ Hid (IsCnt Try.prog 9 3 wr mb (P.length + j) (fUp (fun s => (P.count s : Int)) (-1) N j)) ∧ Hid (IsStrs wr (.slice qa N.length qc) N) ∧ Below mb w7 wr ∧ mb < wr.heap.size) (fun i _ => N.length - (intOf i).toNat)
          case atStart => exact ⟨0, Nat.zero_le _, rfl, C11, HP11, M11, lt11⟩
          case round =>
            obtain ⟨j, hj, rfl, HC, HPR, hM, hltm⟩ := hrel
            by_cases hlt : j < N.length
            · obtain ⟨pb, po, e2, hpb, hcell⟩ := let ⟨_, _, e, _, _, hh⟩ := HPR.out; (slice_inj e) ▸ hh.resolve_left (by intro e; rw [e] at hlt; simp at hlt)
              subst e2
              have p0 := hcell j hlt
              have HXS := Lib.hid (NX.out N[j] (List.getElem_mem hlt))
              obtain ⟨x, hx⟩ : ∃ x, N[j] = x := ⟨_, rfl⟩
              rw [hx] at p0 HXS
              obtain ⟨c, hc⟩ : ∃ c, fUp (fun s => (P.count s : Int)) (-1) N j x = c := ⟨_, rfl⟩
              have c1 : -1000 ≤ c ∧ c ≤ 1000 := by
                have i1 := List.count_le_length (l := N.take j) (a := x)
                have i2 := List.count_le_length (l := P) (a := x)
                rw [List.length_take] at i1
                rw [← hc]
                simp only [fUp]
                omega
              have ST := Lib.hid (fUp_step hlt (fun s => (P.count s : Int)) (-1) x hx c hc)
              have HCV := Lib.hid hc
              clear hcell hx hc
              go_wp2_with (first
                | (at_lookup; refine wpList_cnt_look _ rfl _ _ 53 rfl 9 3 Try.underlying9 Try.underlying3 Try.underlying53 (Try.zeroValue3 _) mb (P.length + j) _ rfl HC.out x HXS.out rfl ?_; rw [HCV.out])
                | (at_mapUpdate; refine wpList_cnt_put _ rfl _ _ _ 53 rfl 9 3 Try.underlying9 Try.underlying3 Try.underlying53 mb (P.length + j) _ rfl HC.out (by unfold maxLen; omega) x HXS.out rfl (c + -1) (wf_small (by omega) (by omega)) rfl ?_; intro w10 hc10 hg10; rw [ST.out] at hc10; have HC10 := Lib.hid hc10; have HP10 := Lib.hid (HPR.out.map HC.out hg10); have M10 := hM.grown hg10 (by omega) (fun k hk => by simp at hk; omega); have L10 := Nat.lt_of_lt_of_le hltm hg10.size; clear hc10 hg10))
              go_roundw
              case rel => exact ⟨j + 1, by omega, by go_num, HC10, HP10, M10, L10⟩
              case measure => simp [intOf]; omega
            · obtain rfl : j = N.length := by omega
              have BWr := BW.trans (hM.mono (show w.heap.size ≤ mb by omega))
              have V3 := Y3K.out.below hM (by omega)
              have hbd : ∀ x, -1000 ≤ fUp (fun s => (P.count s : Int)) (-1) N N.length x ∧ fUp (fun s => (P.count s : Int)) (-1) N N.length x ≤ 1000 := fun x => by
                have i1 := List.count_le_length (l := N) (a := x)
                have i2 := List.count_le_length (l := P) (a := x)
                simp only [fUp, List.take_length]
                omega
              have HBD := Lib.hid hbd
              have HV3 := Lib.hid V3
              clear hbd V3 HPR C11 HP11 M11 lt11
              go_wp2_with fail
              ((with_reducible refine (sum_any mb (P.length + N.length) _ _ HC.out (by omega) HBD.out).mono ?_); rintro e w12 ⟨va, vr, M, rfl, hIM, hnm, hcm, hb12⟩)
              have hMrg : Mrg B L R M := ⟨hnm, fun x => by
                rw [hcm, ← HP.out, ← HN.out]
                simp only [fUp, List.take_length, cnt, List.flatten_cons, List.flatten_nil, List.append_nil, List.count_append]
                omega⟩
              have hml := hMrg.most
              have HMR := Lib.hid hMrg
              have BW2 := BWr.trans (hb12.mono BWr.size)
              have V4 := HV3.out.below hb12 HV3.out.lt
              have hl12 : M.A.length ≤ 1000 := by omega
              obtain ⟨ma, mac, mr, mrc, rfl, rfl, -, -⟩ := hIM.parts
              have V5 := V4.alloc (.cells #[.slice ma M.A.length mac, .slice mr M.R.length mrc] 24)
              have BW3 := BW2.alloc BW2.size (.cells #[.slice ma M.A.length mac, .slice mr M.R.length mrc] 24)
              have A13 := (Below.refl w12.heap.size w12).alloc (Nat.le_refl _) (.cells #[.slice ma M.A.length mac, .slice mr M.R.length mrc] 24)
              have hIM := hIM.below A13 (Nat.le_refl _)
              have nb := SBox.new w12 (.slice ma M.A.length mac) (.slice mr M.R.length mrc)
              have hfin : IsSum (((w12.alloc (.cells #[.slice ma M.A.length mac, .slice mr M.R.length mrc] 24)).setCell ⟨w.heap.size + 1 + 1 + 1, 0, none⟩ (.slice ma M.A.length mac)).setCell ⟨w.heap.size + 1 + 1 + 1, 1, none⟩ (.slice mr M.R.length mrc)) (.slice ma M.A.length mac) (.slice mr M.R.length mrc) M :=
                ⟨(hIM.a.box V5 0 _).box (V5.set0 _) 1 _, (hIM.r.box V5 0 _).box (V5.set0 _) 1 _⟩
              have BE := (BW3.setCell (p := ⟨w.heap.size + 1 + 1 + 1, 0, none⟩) (by simp; omega) (.slice ma M.A.length mac)).setCell (p := ⟨w.heap.size + 1 + 1 + 1, 1, none⟩) (by simp; omega) (.slice mr M.R.length mrc)
              have HFI := Lib.hid hfin
              have n0 := nb.c0
              have n1 := nb.c1
              have k0 := V5.c0
              have k1 := V5.c1
              have g0 := V5.f0 0
              have g1 := V5.f0 1
              clear hfin hIM nb V4 hb12 hMrg hcm hnm
              go_wp2
              exact bodyPost_ret (v := .tuple #[sv (.slice ma M.A.length mac) (.slice mr M.R.length mrc), .int .i64 0]) (by simp [results, Try.results23, go_sem, k0, k1, World.cell?_setCell_other, World.cell?_setCell_same']) rfl ⟨_, _, M, rfl, HFI.out, HMR.out, BE⟩
end Go.Proofs.Ytgnkfikihjjpeaa
