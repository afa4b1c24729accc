/- Run, and the chapter's examples, at this translation. -/
import Derived.Test.YtldpdoakfacdbaaFuncs
namespace Go.Proofs.Ytldpdoakfacdbaa
open Go.RowKit

/-- A slice whose cells are these bools. -/
def IsBools (w : World) (v : Value) (L : List Bool) : Prop :=
  ∃ a cap, v = .slice a L.length cap ∧ L.length ≤ maxLen ∧ L.length ≤ cap ∧ (L = [] ∨ ∃ b off, a = some ⟨b, off, none⟩ ∧ b < w.heap.size ∧ ∀ j (h : j < L.length), w.cell? ⟨b, off + j, none⟩ = some (.bool L[j]))
theorem IsBools.below {w w' : World} {v : Value} {L : List Bool} {B : Nat} (h : IsBools w v L) (hB : Below B w w') (hz : w.heap.size ≤ B) : IsBools w' v L := by
  obtain ⟨a, cap, e, h1, h2, h3⟩ := h
  refine ⟨a, cap, e, h1, h2, h3.imp id ?_⟩
  rintro ⟨b, off, e2, hb, hj⟩
  exact ⟨b, off, e2, Nat.lt_of_lt_of_le hb hB.size, fun j h => (hB.cell (p := ⟨b, off + j, none⟩) (show b < B by omega)).trans (hj j h)⟩

/-- The decision at which a sequence of outcomes ends, and the number of outcomes up to there. -/
def runT (t : Tr) : List Bool → Nat → Nat → Int × Nat
  | [], p, f => (0, p + f)
  | true :: l, p, f => if t.dec (p + 1) f = 0 then runT t l (p + 1) f else (t.dec (p + 1) f, p + f + 1)
  | false :: l, p, f => if t.dec p (f + 1) = 0 then runT t l p (f + 1) else (t.dec p (f + 1), p + f + 1)

set_option maxHeartbeats 1000000 in
theorem Run_bad (gn gd bn bd an ad en ed : Int) (h : chk gn gd bn bd an ad en ed = 1) (v : Value) (w : World) :
    Calls Try.prog 17 #[trialV gn gd bn bd an ad en ed, v] w fun e w' => e = .returned (.tuple #[.int .i64 0, .int .i64 0, .int .i64 1]) ∧ Below w.heap.size w w' := by
  have H := Lib.hid h
  clear h
  go_enter Try.func17, Try.ntmps17
  go_wp2_with fail
  ((with_reducible refine (check_any gn gd bn bd an ad en ed _).mono ?_); rintro e w1 ⟨he, hb1⟩)
  rw [H.out] at he
  subst he
  go_wp2
  go_ret3
  exact ⟨rfl, ((Below.refl _ _).alloc (Nat.le_refl _) _).trans (hb1.mono (by simp))⟩
set_option maxHeartbeats 1000000 in
theorem Run_long (gn gd bn bd an ad en ed : Int) (h : chk gn gd bn bd an ad en ed = 0) (a : Option Addr) (len cap : Nat) (hl : 40 < len) (hl2 : len ≤ maxLen) (w : World) :
    Calls Try.prog 17 #[trialV gn gd bn bd an ad en ed, .slice a len cap] w fun e w' => e = .returned (.tuple #[.int .i64 0, .int .i64 0, .int .i64 4]) ∧ Below w.heap.size w w' := by
  unfold maxLen at hl2
  have hp : (40 : Int) < len := by omega
  have H := Lib.hid h
  clear h
  go_enter Try.func17, Try.ntmps17
  go_wp2_with fail
  ((with_reducible refine (check_any gn gd bn bd an ad en ed _).mono ?_); rintro e w1 ⟨he, hb1⟩)
  rw [H.out] at he
  subst he
  go_wp2
  go_ret3
  exact ⟨rfl, ((Below.refl _ _).alloc (Nat.le_refl _) _).trans (hb1.mono (by simp))⟩

theorem decide_z (t : Tr) (h : t.Ok) (z1 z2 : Int) (p f : Nat) (e1 : z1 = p) (e2 : z2 = f) (hp : p ≤ 40) (hf : f ≤ 40) (r : Int) (hr : t.dec p f = r) (w : World) :
    Calls Try.prog 27 #[trialV t.gn t.gd t.bn t.bd t.an t.ad t.en t.ed, .int .i64 z1, .int .i64 z2] w fun e w' => e = .returned (.int .i64 r) ∧ Below w.heap.size w w' := by
  subst e1 e2 hr
  exact decide_any t h p f hp hf w

set_option maxHeartbeats 2000000 in
theorem Run_good (t : Tr) (h : t.Ok) (L : List Bool) (hl : L.length ≤ 40) (v : Value) (w : World) (hv : IsBools w v L) (d : Int) (m : Nat) (hr : runT t L 0 0 = (d, m)) :
    Calls Try.prog 17 #[trialV t.gn t.gd t.bn t.bd t.an t.ad t.en t.ed, v] w fun e w' => e = .returned (.tuple #[.int .i64 d, .int .i64 m, .int .i64 0]) ∧ Below w.heap.size w w' := by
  have hv0 := Lib.hid hv
  obtain ⟨a, cap, rfl, hmax, hcap, hcells⟩ := hv
  have HC := Lib.hid hcells
  have H := Lib.hid (chk_ok h)
  have HR := Lib.hid hr
  clear hr hcells hmax
  have k := Lib.hid (L8.fresh t.gn t.gd t.bn t.bd t.an t.ad t.en t.ed w 25)
  go_enter Try.func17, Try.ntmps17
  go_wp2_with fail
  ((with_reducible refine (check_any _ _ _ _ _ _ _ _ _).mono ?_); rintro e w1 ⟨he, hb1⟩)
  rw [H.out] at he
  subst he
  have k1 := Lib.hid (k.out.below hb1 k.out.lt)
  have B1 := ((Below.refl w.heap.size w).alloc (Nat.le_refl _) _).trans (hb1.mono (by simp))
  clear hb1
  go_wp2
  go_loopw [8, 9, 23] (fun s8 s9 s23 wr => ∃ (p f q : Nat), q ≤ L.length ∧ p + f ≤ q ∧ s8 = .int .i64 p ∧ s9 = .int .i64 f ∧ s23 = .int .i64 q ∧ Hid (p + f = q) ∧ Hid (runT t (L.drop q) p f = (d, m)) ∧
      L8 t.gn t.gd t.bn t.bd t.an t.ad t.en t.ed w.heap.size wr ∧ Below w.heap.size w wr) (fun _ _ i _ => L.length - (intOf i).toNat)
  case atStart => exact ⟨0, 0, 0, Nat.zero_le _, Nat.le_refl _, rfl, rfl, rfl, rfl, HR.out, k1.out, B1⟩
  case round =>
    obtain ⟨p, f, q, hq, hpf, rfl, rfl, rfl, hpq, hrun, k2, B2⟩ := hrel
    have HQ := Lib.hid hpq
    have K := Lib.hid k2
    clear hpq
    by_cases hlt : q < L.length
    · obtain ⟨b, off, rfl, hb, hcell⟩ := HC.out.resolve_left (by intro e; rw [e] at hlt; simp at hlt)
      have hc := (B2.cell (p := ⟨b, off + q, none⟩) hb).trans (hcell q hlt)
      have hrun' : runT t (L.drop q) p f = (d, m) := hrun
      rw [List.drop_eq_getElem_cons hlt] at hrun'
      obtain ⟨c0, c1, c2, c3, c4, c5, c6, c7, lt⟩ := k2
      clear hrun hcell
      obtain hx | hx := bool_or L[q]
      · rw [hx] at hc
        rw [hx, runT] at hrun'
        by_cases hd : t.dec (p) (f + 1) = 0
        · rw [if_pos hd] at hrun'
          have HD := Lib.hid hd
          have HN := Lib.hid hrun'
          clear hd hrun' hx
          go_wp2_with fail
          ((with_reducible refine (decide_z t h _ _ (p) (f + 1) (by simp) (by simp) (by omega) (by omega) 0 HD.out _).mono ?_); rintro e w2 ⟨rfl, hb2⟩)
          go_wp2
          go_roundw
          case rel => exact ⟨p, f + 1, q + 1, by omega, by omega, rfl, rfl, by go_num, Lib.hid (by have := HQ.out.out; omega), HN.out, K.out.below hb2 K.out.lt, B2.trans (hb2.mono B2.size)⟩
          case measure => simp [intOf]; omega
        · rw [if_neg hd] at hrun'
          obtain ⟨hd1, hd2⟩ := Prod.mk.inj hrun'
          have HD := Lib.hid hd1
          have HN := Lib.hid hd2
          have hne : (d == 0) = false := by rw [← hd1]; simpa using hd
          have hne2 : (d != 0) = true := by rw [← hd1]; simpa using hd
          have HQ2 := Lib.hid (show ((p : Int) + f + 1 = m) by have := HQ.out.out; omega)
          clear hd hrun' hx hd1 hd2
          go_wp2_with fail
          ((with_reducible refine (decide_z t h _ _ (p) (f + 1) (by simp) (by simp) (by omega) (by omega) d HD.out _).mono ?_); rintro e w2 ⟨rfl, hb2⟩)
          go_wp2
          go_ret3
          exact ⟨by have := HQ2.out; simp; omega, B2.trans (hb2.mono B2.size)⟩
      · rw [hx] at hc
        rw [hx, runT] at hrun'
        by_cases hd : t.dec (p + 1) (f) = 0
        · rw [if_pos hd] at hrun'
          have HD := Lib.hid hd
          have HN := Lib.hid hrun'
          clear hd hrun' hx
          go_wp2_with fail
          ((with_reducible refine (decide_z t h _ _ (p + 1) (f) (by simp) (by simp) (by omega) (by omega) 0 HD.out _).mono ?_); rintro e w2 ⟨rfl, hb2⟩)
          go_wp2
          go_roundw
          case rel => exact ⟨p + 1, f, q + 1, by omega, by omega, rfl, rfl, by go_num, Lib.hid (by have := HQ.out.out; omega), HN.out, K.out.below hb2 K.out.lt, B2.trans (hb2.mono B2.size)⟩
          case measure => simp [intOf]; omega
        · rw [if_neg hd] at hrun'
          obtain ⟨hd1, hd2⟩ := Prod.mk.inj hrun'
          have HD := Lib.hid hd1
          have HN := Lib.hid hd2
          have hne : (d == 0) = false := by rw [← hd1]; simpa using hd
          have hne2 : (d != 0) = true := by rw [← hd1]; simpa using hd
          have HQ2 := Lib.hid (show ((p : Int) + f + 1 = m) by have := HQ.out.out; omega)
          clear hd hrun' hx hd1 hd2
          go_wp2_with fail
          ((with_reducible refine (decide_z t h _ _ (p + 1) (f) (by simp) (by simp) (by omega) (by omega) d HD.out _).mono ?_); rintro e w2 ⟨rfl, hb2⟩)
          go_wp2
          go_ret3
          exact ⟨by have := HQ2.out; simp; omega, B2.trans (hb2.mono B2.size)⟩
    · have hrun' : runT t (L.drop q) p f = (d, m) := hrun
      rw [List.drop_eq_nil_of_le (by omega), runT] at hrun'
      obtain ⟨rfl, hm⟩ := Prod.mk.inj hrun'
      have hm2 : (L.length : Int) = m := by have := HQ.out.out; omega
      have HM := Lib.hid hm2
      clear hrun hrun' hm hm2 k2
      go_wp2
      go_ret3
      exact ⟨by rw [HM.out]; rfl, B2⟩

theorem isBools_built (w : World) (x y z : Bool) (w' : World) (hB : Below (w.heap.size + 1) (w.alloc (.cells #[.bool x, .bool y, .bool z] 4)) w') : IsBools w' (.slice (some ⟨w.heap.size, 0, none⟩) 3 3) [x, y, z] := by
  refine ⟨_, 3, rfl, by show 3 ≤ maxLen; decide, Nat.le_refl _, .inr ⟨w.heap.size, 0, rfl, by have := hB.size; simp at this; omega, fun j hj => ?_⟩⟩
  rw [hB.cell (p := ⟨w.heap.size, 0 + j, none⟩) (by simp)]
  have hj : j < 3 := hj
  match j, hj with
  | 0, _ => simp [World.cell?_alloc_new]
  | 1, _ => simp [World.cell?_alloc_new]
  | 2, _ => simp [World.cell?_alloc_new]

def exT : Tr := ⟨9, 10, 1, 2, 1, 20, 1, 20⟩
theorem exT_ok : exT.Ok := by
  constructor <;> first | (constructor <;> decide) | decide

set_option maxHeartbeats 2000000 in
theorem awake_any (w : World) : Calls Try.prog 14 #[] w fun e w' => e = .returned (.bool true) ∧ Below w.heap.size w w' := by
  have d1 : exT.dec 6 0 = 1 := by decide
  have d2 : exT.dec 5 0 = 0 := by decide
  have d3 : runT exT [false, false, true] 0 0 = (2, 2) := by decide
  have D1 := Lib.hid d1
  have D2 := Lib.hid d2
  have D3 := Lib.hid d3
  clear d1 d2 d3
  go_enter Try.func14, Try.ntmps14
  go_wp2_with fail
  ((with_reducible refine (example_any _).mono ?_); rintro e w1 ⟨rfl, b1⟩)
  go_wp2_with fail
  refine (Decide_good exT exT_ok 6 0 6 0 rfl rfl (by decide) 1 D1.out _).mono ?_
  rintro e w2 ⟨rfl, b2⟩
  go_wp2_with fail
  ((with_reducible refine (example_any _).mono ?_); rintro e w3 ⟨rfl, b3⟩)
  go_wp2_with fail
  refine (Decide_good exT exT_ok 5 0 5 0 rfl rfl (by decide) 0 D2.out _).mono ?_
  rintro e w4 ⟨rfl, b4⟩
  go_wp2_with fail
  ((with_reducible refine (example_any _).mono ?_); rintro e w5 ⟨rfl, b5⟩)
  go_wp2_with fail
  refine (Run_good exT exT_ok [false, false, true] (by decide) _ _ (isBools_built w5 false false true _ (Below.refl _ _)) 2 2 D3.out).mono ?_
  rintro e w6 ⟨rfl, b6⟩
  go_wp2
  go_ret
  have B2 := b1.trans (b2.mono b1.size)
  have B3 := B2.trans (b3.mono B2.size)
  have B4 := B3.trans (b4.mono B3.size)
  have B5 := B4.trans (b5.mono B4.size)
  have B6 := B5.alloc B5.size (.cells #[.bool false, .bool false, .bool true] 4)
  exact ⟨rfl, B6.trans (b6.mono B6.size)⟩
end Go.Proofs.Ytldpdoakfacdbaa
