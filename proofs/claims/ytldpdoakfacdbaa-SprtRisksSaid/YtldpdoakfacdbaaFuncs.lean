/- Decide and the example, at this translation. -/
import Derived.Test.YtldpdoakfacdbaaDecide
import Derived.Test.YtldpdoakfacdbaaRefCheck
namespace Go.Proofs.Ytldpdoakfacdbaa
open Go.RowKit

theorem ratio01_of {n d : Int} (h : ratioB n d = true) : ∃ x y : Nat, n = x ∧ d = y ∧ Ratio01 x y := by
  obtain ⟨h1, h2, h3, h4⟩ := ratioB_true h
  exact ⟨n.toNat, d.toNat, by omega, by omega, by omega, by omega, by omega⟩
theorem ratioB_of {x y : Nat} (h : Ratio01 x y) : ratioB x y = true := by
  have := h.n1; have := h.nd; have := h.d20
  exact decide_eq_true (by omega)
theorem chk_cases (gn gd bn bd an ad en ed : Int) : chk gn gd bn bd an ad en ed = 1 ∨ (chk gn gd bn bd an ad en ed = 0 ∧ ∃ t : Tr, t.Ok ∧ gn = t.gn ∧ gd = t.gd ∧ bn = t.bn ∧ bd = t.bd ∧ an = t.an ∧ ad = t.ad ∧ en = t.en ∧ ed = t.ed) := by
  unfold chk
  obtain h | h := bool_or (chkB gn gd bn bd an ad en ed)
  · exact .inl (by rw [h]; rfl)
  · refine .inr ⟨by rw [h]; rfl, ?_⟩
    unfold chkB crossB at h
    simp only [Bool.and_eq_true, decide_eq_true_eq] at h
    obtain ⟨⟨⟨⟨h1, h2⟩, h3⟩, h4⟩, h5, h6⟩ := h
    obtain ⟨x1, y1, rfl, rfl, k1⟩ := ratio01_of h1
    obtain ⟨x2, y2, rfl, rfl, k2⟩ := ratio01_of h2
    obtain ⟨x3, y3, rfl, rfl, k3⟩ := ratio01_of h3
    obtain ⟨x4, y4, rfl, rfl, k4⟩ := ratio01_of h4
    simp only [← Int.natCast_mul, ← Int.natCast_add] at h5 h6
    exact ⟨⟨x1, y1, x2, y2, x3, y3, x4, y4⟩, ⟨k1, k2, k3, k4, by simpa using Int.ofNat_lt.1 h5, by simpa using Int.ofNat_lt.1 h6⟩, rfl, rfl, rfl, rfl, rfl, rfl, rfl, rfl⟩
theorem chk_ok {t : Tr} (h : t.Ok) : chk t.gn t.gd t.bn t.bd t.an t.ad t.en t.ed = 0 := by
  have e1 : (t.bn : Int) * t.gd < t.gn * t.bd := by rw [← Int.natCast_mul, ← Int.natCast_mul]; exact Int.ofNat_lt.2 h.bg
  have e2 : (t.an : Int) * t.ed + t.en * t.ad < t.ad * t.ed := by rw [← Int.natCast_mul, ← Int.natCast_mul, ← Int.natCast_mul, ← Int.natCast_add]; exact Int.ofNat_lt.2 h.ae
  simp [chk, chkB, crossB, ratioB_of h.g, ratioB_of h.b, ratioB_of h.a, ratioB_of h.e, e1, e2]

set_option maxHeartbeats 1000000 in
theorem Decide_bad (gn gd bn bd an ad en ed p f : Int) (h : chk gn gd bn bd an ad en ed = 1) (w : World) :
    Calls Try.prog 15 #[trialV gn gd bn bd an ad en ed, .int .i64 p, .int .i64 f] w fun e w' => e = .returned (.tuple #[.int .i64 0, .int .i64 1]) ∧ Below w.heap.size w w' := by
  have H := Lib.hid h
  clear h
  go_enter Try.func15, Try.ntmps15
  go_wp2_with fail
  ((with_reducible refine (check_any gn gd bn bd an ad en ed _).mono ?_); rintro e w1 ⟨he, hb1⟩)
  rw [H.out] at he
  subst he
  go_wp2
  go_ret2
  exact ⟨rfl, ((Below.refl _ _).alloc (Nat.le_refl _) _).trans (hb1.mono (by simp))⟩

theorem Decide_range (gn gd bn bd an ad en ed p f : Int) (h : chk gn gd bn bd an ad en ed = 0) (hr : p < 0 ∨ f < 0 ∨ 40 < p + f) (w : World) :
    Calls Try.prog 15 #[trialV gn gd bn bd an ad en ed, .int .i64 p, .int .i64 f] w fun e w' => e = .returned (.tuple #[.int .i64 0, .int .i64 2]) ∧ Below w.heap.size w w' := by
  have H := Lib.hid h
  clear h
  by_cases h1 : p < 0
  · clear hr
    go_enter Try.func15, Try.ntmps15
    go_wp2_with fail
    ((with_reducible refine (check_any gn gd bn bd an ad en ed _).mono ?_); rintro e w1 ⟨he, hb1⟩)
    rw [H.out] at he
    subst he
    go_wp2
    go_ret2
    exact ⟨rfl, ((Below.refl _ _).alloc (Nat.le_refl _) _).trans (hb1.mono (by simp))⟩
  · by_cases h2 : f < 0
    · clear hr
      go_enter Try.func15, Try.ntmps15
      go_wp2_with fail
      ((with_reducible refine (check_any gn gd bn bd an ad en ed _).mono ?_); rintro e w1 ⟨he, hb1⟩)
      rw [H.out] at he
      subst he
      go_wp2
      go_ret2
      exact ⟨rfl, ((Below.refl _ _).alloc (Nat.le_refl _) _).trans (hb1.mono (by simp))⟩
    · by_cases h3 : 40 < p
      · clear hr
        go_enter Try.func15, Try.ntmps15
        go_wp2_with fail
        ((with_reducible refine (check_any gn gd bn bd an ad en ed _).mono ?_); rintro e w1 ⟨he, hb1⟩)
        rw [H.out] at he
        subst he
        go_wp2
        go_ret2
        exact ⟨rfl, ((Below.refl _ _).alloc (Nat.le_refl _) _).trans (hb1.mono (by simp))⟩
      · have h4 : 40 - p < f := by omega
        clear hr
        go_enter Try.func15, Try.ntmps15
        go_wp2_with fail
        ((with_reducible refine (check_any gn gd bn bd an ad en ed _).mono ?_); rintro e w1 ⟨he, hb1⟩)
        rw [H.out] at he
        subst he
        go_wp2
        go_ret2
        exact ⟨rfl, ((Below.refl _ _).alloc (Nat.le_refl _) _).trans (hb1.mono (by simp))⟩

set_option maxHeartbeats 1000000 in
theorem Decide_good (t : Tr) (h : t.Ok) (z1 z2 : Int) (p f : Nat) (e1 : z1 = p) (e2 : z2 = f) (hpf : p + f ≤ 40) (r : Int) (hr : t.dec p f = r) (w : World) :
    Calls Try.prog 15 #[trialV t.gn t.gd t.bn t.bd t.an t.ad t.en t.ed, .int .i64 z1, .int .i64 z2] w fun e w' => e = .returned (.tuple #[.int .i64 r, .int .i64 0]) ∧ Below w.heap.size w w' := by
  subst e1 e2
  have H := Lib.hid (chk_ok h)
  have HR := Lib.hid hr
  clear hr
  have k := Lib.hid (L8.fresh t.gn t.gd t.bn t.bd t.an t.ad t.en t.ed w 25)
  have hp1 : ¬ (40 : Int) - p < f := by omega
  go_enter Try.func15, Try.ntmps15
  go_wp2_with fail
  ((with_reducible refine (check_any _ _ _ _ _ _ _ _ _).mono ?_); rintro e w1 ⟨he, hb1⟩)
  rw [H.out] at he
  subst he
  obtain ⟨c0, c1, c2, c3, c4, c5, c6, c7, lt⟩ := k.out.below hb1 k.out.lt
  go_wp2_with fail
  ((with_reducible refine (decide_any t h p f (by omega) (by omega) _).mono ?_); rintro e w2 ⟨he, hb2⟩)
  rw [HR.out] at he
  subst he
  go_wp2
  go_ret2
  exact ⟨rfl, (((Below.refl _ _).alloc (Nat.le_refl _) _).trans (hb1.mono (by simp))).trans (hb2.mono (by omega))⟩

theorem example_any (w : World) : Calls Try.prog 26 #[] w fun e w' => e = .returned (trialV 9 10 1 2 1 20 1 20) ∧ Below w.heap.size w w' := by
  go_enter Try.func26, Try.ntmps26
  go_wp2
  exact bodyPost_ret (v := trialV 9 10 1 2 1 20 1 20) (by simp [results, Try.results26, go_sem]) rfl ⟨rfl, (Below.refl _ _).alloc (Nat.le_refl _) _⟩
end Go.Proofs.Ytldpdoakfacdbaa
