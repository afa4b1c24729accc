/- conflict.Merge, at this translation. -/
import Derived.Test.YtgnkfikihjjpeaaSum2
import Derived.Test.YtgnkfikihjjpeaaSame
import Derived.IntWalk
import Derived.DataShut
namespace Go.Proofs.Ytgnkfikihjjpeaa
open Go.RowKit Go.Great Go.Maps

/-- The first of these sums that is not valid says why. -/
def fstErr : List Sm → Int
  | [] => 0
  | S :: t => if chk S ≠ 0 then chk S else fstErr t
/-- Three sums by value, one behind the other, in a block. -/
structure Row3 (w : World) (G : Nat) (V : Nat → Value × Value) (S : List Sm) : Prop where
  lt : G < w.heap.size
  c0 : ∀ j, j < S.length → w.cell? ⟨G, j * 2, none⟩ = some (V j).1
  c1 : ∀ j, j < S.length → w.cell? ⟨G, j * 2 + 1, none⟩ = some (V j).2
theorem Row3.below {w w' : World} {G N : Nat} {V : Nat → Value × Value} {S : List Sm} (h : Row3 w G V S) (hB : Below N w w') (hz : G < N) : Row3 w' G V S :=
  ⟨Nat.lt_of_lt_of_le h.lt hB.size, fun j hj => (hB.cell (p := ⟨G, j * 2, none⟩) hz).trans (h.c0 j hj), fun j hj => (hB.cell (p := ⟨G, j * 2 + 1, none⟩) hz).trans (h.c1 j hj)⟩
/-- The three sums, by their index. -/
def at3 (x y z : Value × Value) (j : Nat) : Value × Value := if j = 0 then x else if j = 1 then y else z
theorem row3_new (w : World) (a0 r0 a1 r1 a2 r2 : Value) (B L R : Sm) : Row3 (w.alloc (.cells #[a0, r0, a1, r1, a2, r2] 24)) w.heap.size (at3 (a0, r0) (a1, r1) (a2, r2)) [B, L, R] := by
  have h := World.alloc_heap_new w (.cells #[a0, r0, a1, r1, a2, r2] 24)
  refine ⟨by simp, fun j hj => ?_, fun j hj => ?_⟩
  all_goals
    have hj : j < 3 := hj
    have : j = 0 ∨ j = 1 ∨ j = 2 := by omega
    rcases this with rfl | rfl | rfl <;> (simp only [World.cell?, h]; simp [at3])
theorem sums3 {w : World} {a0 r0 a1 r1 a2 r2 : Value} {B L R : Sm} (h0 : IsSum w a0 r0 B) (h1 : IsSum w a1 r1 L) (h2 : IsSum w a2 r2 R) (hl : B.R.length ≤ 1000000 ∧ L.R.length ≤ 1000000 ∧ R.R.length ≤ 1000000) (j : Nat) (hj : j < 3) :
    ∃ S, fstErr ([B, L, R].drop j) = (if chk S ≠ 0 then chk S else fstErr ([B, L, R].drop (j + 1))) ∧ IsSum w (at3 (a0, r0) (a1, r1) (a2, r2) j).1 (at3 (a0, r0) (a1, r1) (a2, r2) j).2 S ∧ S.R.length ≤ 1000000 := by
  have : j = 0 ∨ j = 1 ∨ j = 2 := by omega
  rcases this with rfl | rfl | rfl
  · exact ⟨B, rfl, h0, hl.1⟩
  · exact ⟨L, rfl, h1, hl.2.1⟩
  · exact ⟨R, rfl, h2, hl.2.2⟩
/-- A slice of strings stays as it is while a map is turned. -/
theorem IsStrs.map {w w' : World} {v : Value} {L : List BA} {mb n : Nat} {f : BA → Int} (h : IsStrs w v L) (hm : IsCnt Try.prog 9 3 w mb n f) (hg : w.grownBy w' (some mb)) : IsStrs w' v L := by
  obtain ⟨a, cap, e, h1, h2, h3⟩ := h
  refine ⟨a, cap, e, h1, h2, ?_⟩
  rcases h3 with h3 | ⟨b, off, e2, hb, hj⟩
  · exact .inl h3
  by_cases hL : L = []
  · exact .inl hL
  refine .inr ⟨b, off, e2, Nat.lt_of_lt_of_le hb hg.size, fun j h => ?_⟩
  have hne : b ≠ mb := by
    rintro rfl
    obtain ⟨D, ⟨es, clock, hh, _⟩, _⟩ := hm
    have := hj j h
    simp [World.cell?, hh] at this
  have := hg.block b hb (by simpa using hne)
  rw [← hj j h]
  simp [World.cell?, this]
theorem count_take {L : List BA} {j : Nat} (h : j < L.length) (s : BA) : (L.take (j + 1)).count s = (L.take j).count s + if s = L[j] then 1 else 0 := by
  rw [List.take_succ_eq_append_getElem h, List.count_append, List.count_singleton]
  congr 1
  by_cases e : s = L[j]
  · rw [if_pos e, if_pos (by rw [e]; exact beq_self_eq_true _)]
  · rw [if_neg e, if_neg (fun h => e (eq_of_beq h).symm)]
theorem setAt_up {L : List BA} {j : Nat} (h : j < L.length) (g : BA → Int) (d : Int) (x : BA) (hx : L[j] = x) : setAt (fun s => g s + d * ((L.take j).count s : Int)) x (g x + d * ((L.take j).count x : Int) + d) = fun s => g s + d * ((L.take (j + 1)).count s : Int) := by
  funext s
  rw [count_take h, hx]
  unfold setAt
  by_cases hs : s = x
  · subst hs; simp only [if_true, Int.natCast_add, Int.mul_add, Int.natCast_one]; omega
  · simp [hs]
theorem wf_small {c : Int} (h1 : -1000000 ≤ c) (h2 : c ≤ 1000000) : (Lit.int .i64 c).wf = true := by
  rw [Lit.wf_int_iff]
  have e1 : IntKind.i64.min = -9223372036854775808 := by decide
  have e2 : IntKind.i64.max = 9223372036854775807 := by decide
  rw [e1, e2]
  omega

set_option maxRecDepth 100000 in
set_option maxHeartbeats 8000000 in
theorem merge_err (B L R : Sm) (a0 r0 a1 r1 a2 r2 : Value) (w : World) (h0 : IsSum w a0 r0 B) (h1 : IsSum w a1 r1 L) (h2 : IsSum w a2 r2 R) (hl : B.R.length ≤ 1000000 ∧ L.R.length ≤ 1000000 ∧ R.R.length ≤ 1000000) (r : Int) (hr : fstErr [B, L, R] = r) (hr0 : r ≠ 0) :
    Calls Try.prog 23 #[sv a0 r0, sv a1 r1, sv a2 r2] w fun e w' => e = .returned (.tuple #[sv (.slice none 0 0) (.slice none 0 0), .int .i64 r]) ∧ Below w.heap.size w w' := by
  obtain ⟨wb, hwb⟩ : ∃ wb, (((w.alloc (.cells #[a0, r0] 24)).alloc (.cells #[a1, r1] 24)).alloc (.cells #[a2, r2] 24)).alloc (.cells #[.slice none 0 0, .slice none 0 0] 24) = wb := ⟨_, rfl⟩
  have hB := ((((Below.refl w.heap.size w).alloc (Nat.le_refl _) (.cells #[a0, r0] 24)).alloc (by simp) (.cells #[a1, r1] 24)).alloc (by simp; omega) (.cells #[a2, r2] 24)).alloc (by simp; omega) (.cells #[.slice none 0 0, .slice none 0 0] 24)
  have x0 := (((SBox.new w a0 r0).alloc (.cells #[a1, r1] 24)).alloc (.cells #[a2, r2] 24)).alloc (.cells #[.slice none 0 0, .slice none 0 0] 24)
  have x1 := ((SBox.new (w.alloc (.cells #[a0, r0] 24)) a1 r1).alloc (.cells #[a2, r2] 24)).alloc (.cells #[.slice none 0 0, .slice none 0 0] 24)
  have x2 := (SBox.new ((w.alloc (.cells #[a0, r0] 24)).alloc (.cells #[a1, r1] 24)) a2 r2).alloc (.cells #[.slice none 0 0, .slice none 0 0] 24)
  have x3 := SBox.new (((w.alloc (.cells #[a0, r0] 24)).alloc (.cells #[a1, r1] 24)).alloc (.cells #[a2, r2] 24)) (.slice none 0 0) (.slice none 0 0)
  have sz : wb.heap.size = w.heap.size + 4 := by rw [← hwb]; simp
  simp only [World.size_alloc] at x1 x2 x3
  rw [hwb] at hB x0 x1 x2 x3
  have c0 := x0.c0
  have c1 := x0.c1
  have c2 := x1.c0
  have c3 := x1.c1
  have c4 := x2.c0
  have c5 := x2.c1
  have HR := Lib.hid hr
  have SZ := Lib.hid sz
  have HW := Lib.hid hwb
  clear hr sz hwb
  go_enter Try.func23, Try.ntmps23
  go_upto_region 1 with fail
  rw [HW.out]
  have h0 := h0.below hB (Nat.le_refl _)
  have h1 := h1.below hB (Nat.le_refl _)
  have h2 := h2.below hB (Nat.le_refl _)
  have RW := Lib.hid (row3_new wb a0 r0 a1 r1 a2 r2 B L R)
  have HS := Lib.hid (sums3 h0 h1 h2 hl)
  have X3 := Lib.hid (x3.alloc (.cells #[a0, r0, a1, r1, a2, r2] 24))
  have B1 := (Below.refl wb.heap.size wb).alloc (Nat.le_refl _) (.cells #[a0, r0, a1, r1, a2, r2] 24)
  have Z1 : wb.heap.size < (wb.alloc (.cells #[a0, r0, a1, r1, a2, r2] 24)).heap.size := by simp
  go_wp2
  clear c0 c1 c2 c3 c4 c5
  generalize hVV : at3 (a0, r0) (a1, r1) (a2, r2) = V at RW HS
  clear hVV
  generalize wb.alloc (.cells #[a0, r0, a1, r1, a2, r2] 24) = w2 at RW B1 Z1 X3 ⊢
  have Z2 := B1.size
  have BB : Below w.heap.size w w2 := hB.trans (B1.mono hB.size)
  obtain ⟨G, hG⟩ : ∃ G, wb.heap.size = G := ⟨_, rfl⟩
  rw [hG] at RW Z1 ⊢
  have HG := Lib.hid hG
  clear hG
  go_loopw [22] (fun s22 wr => ∃ j : Nat, j ≤ 3 ∧ s22 = .int .i64 j ∧ Hid (fstErr ([B, L, R].drop j) = r) ∧ Below w2.heap.size w2 wr) (fun i _ => 3 - (intOf i).toNat)
  case atStart => exact ⟨0, by omega, rfl, HR, Below.refl _ _⟩
  case round =>
    obtain ⟨j, hj, rfl, HJ, hBr⟩ := hrel
    by_cases hlt : j < 3
    · obtain ⟨S, hS, hIS, hSl⟩ := HS.out j hlt
      have hIS := (hIS.below B1 (Nat.le_refl _)).below hBr (Nat.le_refl _)
      have d0 := (RW.out.below hBr Z1).c0 j hlt
      have d1 := (RW.out.below hBr Z1).c1 j hlt
      obtain ⟨pa, ca, pr, cr, ea, er, -, -⟩ := hIS.parts
      rw [ea, er] at hIS
      rw [ea] at d0
      rw [er] at d1
      rw [hS] at HJ
      have e0 := (SBox.new wr (.slice pa S.A.length ca) (.slice pr S.R.length cr)).c0
      have e1 := (SBox.new wr (.slice pa S.A.length ca) (.slice pr S.R.length cr)).c1
      have BA := (Below.refl wr.heap.size wr).alloc (Nat.le_refl _) (.cells #[.slice pa S.A.length ca, .slice pr S.R.length cr] 24)
      have hIA := hIS.below BA (Nat.le_refl _)
      obtain ⟨q, hq⟩ : ∃ q, chk S = q := ⟨_, rfl⟩
      rw [hq] at HJ
      have HQ := Lib.hid hq
      clear hS ea er hq hIS
      by_cases hq0 : q = 0
      · subst hq0
        rw [if_neg (by simp)] at HJ
        go_wp2_with fail
        ((with_reducible refine (check_any S _ _ _ hIA hSl 0 HQ.out).mono ?_); rintro e w4 ⟨rfl, hb4⟩)
        have hB4 := hBr.trans ((BA.trans (hb4.mono (by simp))).mono hBr.size)
        go_wp2
        go_roundw
        case rel => exact ⟨j + 1, by omega, by go_num, HJ, hB4⟩
        case measure => simp [intOf]; omega
      · rw [if_pos hq0] at HJ
        obtain rfl := HJ.out
        have q1 : (q == 0) = false := by simpa using hq0
        have q2 : (q != 0) = true := by simpa using hq0
        clear hq0 HJ
        go_wp2_with fail
        ((with_reducible refine (check_any S _ _ _ hIA hSl q HQ.out).mono ?_); rintro e w4 ⟨rfl, hb4⟩)
        have hB4 := hBr.trans ((BA.trans (hb4.mono (by simp))).mono hBr.size)
        have y3 := X3.out.below hB4 X3.out.lt
        have y0 := y3.c0
        have y1 := y3.c1
        have g0 := y3.f0 0
        have g1 := y3.f0 1
        have BE := ((BB.trans (hB4.mono BB.size)).setCell (p := ⟨w.heap.size + 1 + 1 + 1, 0, none⟩) (by simp; omega) (.slice none 0 0)).setCell (p := ⟨w.heap.size + 1 + 1 + 1, 1, none⟩) (by simp; omega) (.slice none 0 0)
        go_wp2
        exact bodyPost_ret (v := .tuple #[sv (.slice none 0 0) (.slice none 0 0), .int .i64 q]) (by simp [results, Try.results23, go_sem, y0, y1, World.cell?_setCell_other, World.cell?_setCell_same']) rfl ⟨rfl, BE⟩
    · obtain rfl : j = 3 := by omega
      exact absurd HJ.out.symm hr0
end Go.Proofs.Ytgnkfikihjjpeaa
