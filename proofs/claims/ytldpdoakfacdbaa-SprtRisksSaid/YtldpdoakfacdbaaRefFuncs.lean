/- The reference's Decide and Run, at this translation. -/
import Derived.Test.YtldpdoakfacdbaaRefDecide
import Derived.Test.YtldpdoakfacdbaaRun
namespace Go.Proofs.Ytldpdoakfacdbaa
open Go.RowKit

theorem refDecide_any (t : Tr) (h : t.Ok) (z1 z2 : Int) (p f : Nat) (e1 : z1 = p) (e2 : z2 = f) (hp : p ≤ 40) (hf : f ≤ 40) (r : Int) (hr : t.dec p f = r) (w : World) :
    Calls Try.prog 28 #[trialV t.gn t.gd t.bn t.bd t.an t.ad t.en t.ed, .int .i64 z1, .int .i64 z2] w fun e w' => e = .returned (.int .i64 r) ∧ Below w.heap.size w w' := by
  subst e1 e2
  have g := h.g
  have b := h.b
  have a := h.a
  have e := h.e
  have g1 := g.n1; have g2 := g.nd; have g3 := g.d20
  have b1 := b.n1; have b2 := b.nd; have b3 := b.d20
  have a1 := a.n1; have a2 := a.nd; have a3 := a.d20
  have x1 := e.n1; have x2 := e.nd; have x3 := e.d20
  have m1 := mul400N t.bn t.gd b1 (by omega) (by omega) g3
  have m2 := mul400N (t.bd - t.bn) t.gd (by omega) (by omega) (by omega) g3
  have m3 := mul400N t.bd t.gn (by omega) b3 g1 (by omega)
  have m4 := mul400N t.bd (t.gd - t.gn) (by omega) b3 (by omega) (by omega)
  refine refDecide_walk t.gn t.gd t.bn t.bd t.an t.ad t.en t.ed p f (t.bn * t.gd) ((t.bd - t.bn) * t.gd) (t.bd * t.gn) (t.bd * (t.gd - t.gn)) (t.bd - t.bn) (t.gd - t.gn) (t.ed - t.en) (t.ad - t.an)
    r _ _ w (wrap_nat _ _ m1.2) (wrap_sub _ _ (by omega) (by omega)) (wrap_nat _ _ m2.2) (wrap_nat _ _ m3.2) (wrap_sub _ _ (by omega) (by omega)) (wrap_nat _ _ m4.2) (wrap_sub _ _ (by omega) (by omega))
    (wrap_sub _ _ (by omega) (by omega)) hp hf m1 m2 m3 m4 ⟨by omega, by omega⟩ ⟨by omega, by omega⟩ ⟨by omega, by omega⟩ ⟨by omega, by omega⟩ ⟨by omega, by omega⟩ ⟨by omega, by omega⟩ rfl rfl ?_
  have eX : 1 * (t.bn * t.gd) ^ p * ((t.bd - t.bn) * t.gd) ^ f = t.X p f := by rw [Nat.one_mul]; rfl
  have eY : 1 * (t.bd * t.gn) ^ p * (t.bd * (t.gd - t.gn)) ^ f = t.Y p f := by rw [Nat.one_mul]; rfl
  rw [eX, eY, Nat.mul_assoc (t.Y p f), Nat.mul_assoc (t.X p f), Nat.mul_assoc (t.X p f), Nat.mul_assoc (t.Y p f)]
  show (decide (t.refuses p f) = true ∧ _) ∨ (decide (t.refuses p f) = false ∧ decide (t.accepts p f) = true ∧ _) ∨ (decide (t.refuses p f) = false ∧ decide (t.accepts p f) = false ∧ _)
  rw [← hr]
  unfold Tr.dec
  by_cases h1 : t.refuses p f
  · exact .inl ⟨decide_eq_true h1, if_pos h1⟩
  · by_cases h2 : t.accepts p f
    · exact .inr (.inl ⟨decide_eq_false h1, decide_eq_true h2, by rw [if_neg h1, if_pos h2]⟩)
    · exact .inr (.inr ⟨decide_eq_false h1, decide_eq_false h2, by rw [if_neg h1, if_neg h2]⟩)

set_option maxHeartbeats 1000000 in
theorem refDecide_bad (gn gd bn bd an ad en ed p f : Int) (h : chk gn gd bn bd an ad en ed = 1) (w : World) :
    Calls Try.prog 16 #[trialV gn gd bn bd an ad en ed, .int .i64 p, .int .i64 f] w fun e w' => e = .returned (.tuple #[.int .i64 0, .int .i64 1]) ∧ Below w.heap.size w w' := by
  have H := Lib.hid h
  clear h
  go_enter Try.func16, Try.ntmps16
  go_wp2_with fail
  ((with_reducible refine (refCheck_any gn gd bn bd an ad en ed _).mono ?_); rintro e w1 ⟨he, hb1⟩)
  rw [H.out] at he
  subst he
  go_wp2
  go_ret2
  exact ⟨rfl, ((Below.refl _ _).alloc (Nat.le_refl _) _).trans (hb1.mono (by simp))⟩

set_option maxHeartbeats 2000000 in
theorem refDecide_range (gn gd bn bd an ad en ed p f : Int) (h : chk gn gd bn bd an ad en ed = 0) (hr : p < 0 ∨ f < 0 ∨ 40 < p + f) (w : World) :
    Calls Try.prog 16 #[trialV gn gd bn bd an ad en ed, .int .i64 p, .int .i64 f] w fun e w' => e = .returned (.tuple #[.int .i64 0, .int .i64 2]) ∧ Below w.heap.size w w' := by
  have H := Lib.hid h
  clear h
  by_cases h1 : p < 0
  · clear hr
    go_enter Try.func16, Try.ntmps16
    go_wp2_with fail
    ((with_reducible refine (refCheck_any gn gd bn bd an ad en ed _).mono ?_); rintro e w1 ⟨he, hb1⟩)
    rw [H.out] at he
    subst he
    go_wp2
    go_ret2
    exact ⟨rfl, ((Below.refl _ _).alloc (Nat.le_refl _) _).trans (hb1.mono (by simp))⟩
  · by_cases h2 : f < 0
    · clear hr
      go_enter Try.func16, Try.ntmps16
      go_wp2_with fail
      ((with_reducible refine (refCheck_any gn gd bn bd an ad en ed _).mono ?_); rintro e w1 ⟨he, hb1⟩)
      rw [H.out] at he
      subst he
      go_wp2
      go_ret2
      exact ⟨rfl, ((Below.refl _ _).alloc (Nat.le_refl _) _).trans (hb1.mono (by simp))⟩
    · by_cases h3 : 40 < p
      · clear hr
        go_enter Try.func16, Try.ntmps16
        go_wp2_with fail
        ((with_reducible refine (refCheck_any gn gd bn bd an ad en ed _).mono ?_); rintro e w1 ⟨he, hb1⟩)
        rw [H.out] at he
        subst he
        go_wp2
        go_ret2
        exact ⟨rfl, ((Below.refl _ _).alloc (Nat.le_refl _) _).trans (hb1.mono (by simp))⟩
      · have h4 : 40 < p + f := by omega
        by_cases h5 : 40 < f
        · clear hr
          go_enter Try.func16, Try.ntmps16
          go_wp2_with fail
          ((with_reducible refine (refCheck_any gn gd bn bd an ad en ed _).mono ?_); rintro e w1 ⟨he, hb1⟩)
          rw [H.out] at he
          subst he
          go_wp2
          go_ret2
          exact ⟨rfl, ((Below.refl _ _).alloc (Nat.le_refl _) _).trans (hb1.mono (by simp))⟩
        · clear hr
          go_enter Try.func16, Try.ntmps16
          go_wp2_with fail
          ((with_reducible refine (refCheck_any gn gd bn bd an ad en ed _).mono ?_); rintro e w1 ⟨he, hb1⟩)
          rw [H.out] at he
          subst he
          go_wp2
          go_ret2
          exact ⟨rfl, ((Below.refl _ _).alloc (Nat.le_refl _) _).trans (hb1.mono (by simp))⟩

set_option maxHeartbeats 1000000 in
theorem refDecide_good (t : Tr) (h : t.Ok) (z1 z2 : Int) (p f : Nat) (e1 : z1 = p) (e2 : z2 = f) (hpf : p + f ≤ 40) (r : Int) (hr : t.dec p f = r) (w : World) :
    Calls Try.prog 16 #[trialV t.gn t.gd t.bn t.bd t.an t.ad t.en t.ed, .int .i64 z1, .int .i64 z2] w fun e w' => e = .returned (.tuple #[.int .i64 r, .int .i64 0]) ∧ Below w.heap.size w w' := by
  subst e1 e2
  have H := Lib.hid (chk_ok h)
  have HR := Lib.hid hr
  clear hr
  have k := Lib.hid (L8.fresh t.gn t.gd t.bn t.bd t.an t.ad t.en t.ed w 25)
  have hp1 : (p : Int) + f ≤ 40 := by omega
  go_enter Try.func16, Try.ntmps16
  go_wp2_with fail
  ((with_reducible refine (refCheck_any _ _ _ _ _ _ _ _ _).mono ?_); rintro e w1 ⟨he, hb1⟩)
  rw [H.out] at he
  subst he
  obtain ⟨c0, c1, c2, c3, c4, c5, c6, c7, lt⟩ := k.out.below hb1 k.out.lt
  go_wp2_with fail
  ((with_reducible refine (refDecide_any t h _ _ p f rfl rfl (by omega) (by omega) r HR.out _).mono ?_); rintro e w2 ⟨rfl, hb2⟩)
  go_wp2
  go_ret2
  exact ⟨rfl, (((Below.refl _ _).alloc (Nat.le_refl _) _).trans (hb1.mono (by simp))).trans (hb2.mono (by omega))⟩


set_option maxHeartbeats 1000000 in
theorem refRun_bad (gn gd bn bd an ad en ed : Int) (h : chk gn gd bn bd an ad en ed = 1) (v : Value) (w : World) :
    Calls Try.prog 18 #[trialV gn gd bn bd an ad en ed, v] w fun e w' => e = .returned (.tuple #[.int .i64 0, .int .i64 0, .int .i64 1]) ∧ Below w.heap.size w w' := by
  have H := Lib.hid h
  clear h
  go_enter Try.func18, Try.ntmps18
  go_wp2_with fail
  ((with_reducible refine (refCheck_any gn gd bn bd an ad en ed _).mono ?_); rintro e w1 ⟨he, hb1⟩)
  rw [H.out] at he
  subst he
  go_wp2
  go_ret3
  exact ⟨rfl, ((Below.refl _ _).alloc (Nat.le_refl _) _).trans (hb1.mono (by simp))⟩
set_option maxHeartbeats 1000000 in
theorem refRun_long (gn gd bn bd an ad en ed : Int) (h : chk gn gd bn bd an ad en ed = 0) (a : Option Addr) (len cap : Nat) (hl : 40 < len) (hl2 : len ≤ maxLen) (w : World) :
    Calls Try.prog 18 #[trialV gn gd bn bd an ad en ed, .slice a len cap] w fun e w' => e = .returned (.tuple #[.int .i64 0, .int .i64 0, .int .i64 4]) ∧ Below w.heap.size w w' := by
  unfold maxLen at hl2
  have hp : (40 : Int) < len := by omega
  have H := Lib.hid h
  clear h
  go_enter Try.func18, Try.ntmps18
  go_wp2_with fail
  ((with_reducible refine (refCheck_any gn gd bn bd an ad en ed _).mono ?_); rintro e w1 ⟨he, hb1⟩)
  rw [H.out] at he
  subst he
  go_wp2
  go_ret3
  exact ⟨rfl, ((Below.refl _ _).alloc (Nat.le_refl _) _).trans (hb1.mono (by simp))⟩

set_option maxHeartbeats 2000000 in
theorem refRun_good (t : Tr) (h : t.Ok) (L : List Bool) (hl : L.length ≤ 40) (v : Value) (w : World) (hv : IsBools w v L) (d : Int) (m : Nat) (hr : runT t L 0 0 = (d, m)) :
    Calls Try.prog 18 #[trialV t.gn t.gd t.bn t.bd t.an t.ad t.en t.ed, v] w fun e w' => e = .returned (.tuple #[.int .i64 d, .int .i64 m, .int .i64 0]) ∧ Below w.heap.size w w' := by
  have hv0 := Lib.hid hv
  obtain ⟨a, cap, rfl, hmax, hcap, hcells⟩ := hv
  have HC := Lib.hid hcells
  have H := Lib.hid (chk_ok h)
  have HR := Lib.hid hr
  clear hr hcells hmax
  have k := Lib.hid (L8.fresh t.gn t.gd t.bn t.bd t.an t.ad t.en t.ed w 25)
  go_enter Try.func18, Try.ntmps18
  go_wp2_with fail
  ((with_reducible refine (refCheck_any _ _ _ _ _ _ _ _ _).mono ?_); rintro e w1 ⟨he, hb1⟩)
  rw [H.out] at he
  subst he
  have k1 := Lib.hid (k.out.below hb1 k.out.lt)
  have B1 := ((Below.refl w.heap.size w).alloc (Nat.le_refl _) _).trans (hb1.mono (by simp))
  clear hb1
  go_wp2
  go_loopw [8, 9] (fun s8 s9 wr => ∃ (p f q : Nat), q ≤ L.length ∧ p + f ≤ q ∧ s8 = .int .i64 p ∧ s9 = .int .i64 q ∧ Hid (p + f = q) ∧ Hid (runT t (L.drop q) p f = (d, m)) ∧
      L8 t.gn t.gd t.bn t.bd t.an t.ad t.en t.ed w.heap.size wr ∧ Below w.heap.size w wr) (fun _ i _ => L.length - (intOf i).toNat)
  case atStart => exact ⟨0, 0, 0, Nat.zero_le _, Nat.le_refl _, rfl, rfl, rfl, HR.out, k1.out, B1⟩
  case round =>
    obtain ⟨p, f, q, hq, hpf, rfl, rfl, hpq, hrun, k2, B2⟩ := hrel
    have HQ := Lib.hid hpq
    have K := Lib.hid k2
    clear hpq
    by_cases hlt : q < L.length
    · obtain ⟨b, off, rfl, hb, hcell⟩ := HC.out.resolve_left (by intro e; rw [e] at hlt; simp at hlt)
      have hc := (B2.cell (p := ⟨b, off + q, none⟩) hb).trans (hcell q hlt)
      have hrun' : runT t (L.drop q) p f = (d, m) := hrun
      rw [List.drop_eq_getElem_cons hlt] at hrun'
      obtain ⟨c0, c1, c2, c3, c4, c5, c6, c7, lt⟩ := k2
      clear hrun hcell
      obtain hx | hx := bool_or L[q]
      · rw [hx] at hc
        rw [hx, runT] at hrun'
        by_cases hd : t.dec (p) (f + 1) = 0
        · rw [if_pos hd] at hrun'
          have HD := Lib.hid hd
          have HN := Lib.hid hrun'
          clear hd hrun' hx
          go_wp2_with fail
          ((with_reducible refine (refDecide_any t h _ _ (p) (f + 1) (by simp) (by have := HQ.out.out; omega) (by omega) (by omega) 0 HD.out _).mono ?_); rintro e w2 ⟨rfl, hb2⟩)
          go_wp2
          go_roundw
          case rel => exact ⟨p, f + 1, q + 1, by omega, by omega, rfl, by go_num, Lib.hid (by have := HQ.out.out; omega), HN.out, K.out.below hb2 K.out.lt, B2.trans (hb2.mono B2.size)⟩
          case measure => simp [intOf]; omega
        · rw [if_neg hd] at hrun'
          obtain ⟨hd1, hd2⟩ := Prod.mk.inj hrun'
          have HD := Lib.hid hd1
          have HN := Lib.hid hd2
          have hne : (d == 0) = false := by rw [← hd1]; simpa using hd
          have hne2 : (d != 0) = true := by rw [← hd1]; simpa using hd
          have HQ2 := Lib.hid (show ((q : Int) + 1 = m) by have := HQ.out.out; omega)
          clear hd hrun' hx hd1 hd2
          go_wp2_with fail
          ((with_reducible refine (refDecide_any t h _ _ (p) (f + 1) (by simp) (by have := HQ.out.out; omega) (by omega) (by omega) d HD.out _).mono ?_); rintro e w2 ⟨rfl, hb2⟩)
          go_wp2
          go_ret3
          exact ⟨by have := HQ2.out; simp; omega, B2.trans (hb2.mono B2.size)⟩
      · rw [hx] at hc
        rw [hx, runT] at hrun'
        by_cases hd : t.dec (p + 1) (f) = 0
        · rw [if_pos hd] at hrun'
          have HD := Lib.hid hd
          have HN := Lib.hid hrun'
          clear hd hrun' hx
          go_wp2_with fail
          ((with_reducible refine (refDecide_any t h _ _ (p + 1) (f) (by simp) (by have := HQ.out.out; omega) (by omega) (by omega) 0 HD.out _).mono ?_); rintro e w2 ⟨rfl, hb2⟩)
          go_wp2
          go_roundw
          case rel => exact ⟨p + 1, f, q + 1, by omega, by omega, rfl, by go_num, Lib.hid (by have := HQ.out.out; omega), HN.out, K.out.below hb2 K.out.lt, B2.trans (hb2.mono B2.size)⟩
          case measure => simp [intOf]; omega
        · rw [if_neg hd] at hrun'
          obtain ⟨hd1, hd2⟩ := Prod.mk.inj hrun'
          have HD := Lib.hid hd1
          have HN := Lib.hid hd2
          have hne : (d == 0) = false := by rw [← hd1]; simpa using hd
          have hne2 : (d != 0) = true := by rw [← hd1]; simpa using hd
          have HQ2 := Lib.hid (show ((q : Int) + 1 = m) by have := HQ.out.out; omega)
          clear hd hrun' hx hd1 hd2
          go_wp2_with fail
          ((with_reducible refine (refDecide_any t h _ _ (p + 1) (f) (by simp) (by have := HQ.out.out; omega) (by omega) (by omega) d HD.out _).mono ?_); rintro e w2 ⟨rfl, hb2⟩)
          go_wp2
          go_ret3
          exact ⟨by have := HQ2.out; simp; omega, B2.trans (hb2.mono B2.size)⟩
    · have hrun' : runT t (L.drop q) p f = (d, m) := hrun
      rw [List.drop_eq_nil_of_le (by omega), runT] at hrun'
      obtain ⟨rfl, hm⟩ := Prod.mk.inj hrun'
      have hm2 : (L.length : Int) = m := by have := HQ.out.out; omega
      have HM := Lib.hid hm2
      clear hrun hrun' hm hm2 k2
      go_wp2
      go_ret3
      exact ⟨by rw [HM.out]; rfl, B2⟩

end Go.Proofs.Ytldpdoakfacdbaa
