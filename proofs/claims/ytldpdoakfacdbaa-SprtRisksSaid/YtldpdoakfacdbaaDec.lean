/- Plain mathematics of the decision of a trial: it is monotone, and its mirror mirrors it. -/
import Derived.Test.YtldpdoakfacdbaaMath
namespace Go.Proofs.Ytldpdoakfacdbaa

/-- A trial's eight numbers. -/
structure Tr where
  gn : Nat
  gd : Nat
  bn : Nat
  bd : Nat
  an : Nat
  ad : Nat
  en : Nat
  ed : Nat

/-- A ratio is between 0 and 1, with a denominator of at most 20. -/
structure Ratio01 (n d : Nat) : Prop where
  n1 : 1 ≤ n
  nd : n < d
  d20 : d ≤ 20

structure Tr.Ok (t : Tr) : Prop where
  g : Ratio01 t.gn t.gd
  b : Ratio01 t.bn t.bd
  a : Ratio01 t.an t.ad
  e : Ratio01 t.en t.ed
  bg : t.bn * t.gd < t.gn * t.bd
  ae : t.an * t.ed + t.en * t.ad < t.ad * t.ed

def Tr.X (t : Tr) (p f : Nat) : Nat := (t.bn * t.gd) ^ p * ((t.bd - t.bn) * t.gd) ^ f
def Tr.Y (t : Tr) (p f : Nat) : Nat := (t.bd * t.gn) ^ p * (t.bd * (t.gd - t.gn)) ^ f
def Tr.refuses (t : Tr) (p f : Nat) : Prop := t.Y p f * ((t.ed - t.en) * t.ad) ≤ t.X p f * (t.ed * t.an)
def Tr.accepts (t : Tr) (p f : Nat) : Prop := t.X p f * (t.ed * (t.ad - t.an)) ≤ t.Y p f * (t.en * t.ad)
instance (t : Tr) (p f : Nat) : Decidable (t.refuses p f) := by unfold Tr.refuses; infer_instance
instance (t : Tr) (p f : Nat) : Decidable (t.accepts p f) := by unfold Tr.accepts; infer_instance
def Tr.dec (t : Tr) (p f : Nat) : Int := if t.refuses p f then 2 else if t.accepts p f then 1 else 0

theorem mul_comm4 (a b c d : Nat) : a * b * (c * d) = a * c * (b * d) := by
  rw [Nat.mul_assoc, Nat.mul_assoc, Nat.mul_left_comm b c d]

/-- The product of what both risks leave is greater than that of both risks. -/
theorem Tr.Ok.gap {t : Tr} (h : t.Ok) : t.en * t.ad * (t.ed * t.an) < t.ed * (t.ad - t.an) * ((t.ed - t.en) * t.ad) := by
  obtain ⟨x, hx⟩ : ∃ x, t.ad = t.an + x := ⟨t.ad - t.an, by have := h.a.nd; omega⟩
  obtain ⟨y, hy⟩ : ∃ y, t.ed = t.en + y := ⟨t.ed - t.en, by have := h.e.nd; omega⟩
  have ae := h.ae
  have e1 : t.ad - t.an = x := by omega
  have e2 : t.ed - t.en = y := by omega
  rw [e1, e2]
  have k : t.en * t.an < x * y := by
    rw [hx, hy] at ae
    simp only [Nat.mul_add, Nat.add_mul] at ae
    have c1 := Nat.mul_comm t.en t.an
    have c2 := Nat.mul_comm t.en x
    omega
  have k2 : (t.ad * t.ed) * (t.en * t.an) < (t.ad * t.ed) * (x * y) :=
    Nat.mul_lt_mul_of_pos_left k (Nat.mul_pos (by have := h.a.nd; omega) (by have := h.e.nd; omega))
  have l : t.en * t.ad * (t.ed * t.an) = (t.ad * t.ed) * (t.en * t.an) := by
    rw [Nat.mul_comm t.en t.ad, mul_comm4]
  have r : t.ed * x * (y * t.ad) = (t.ad * t.ed) * (x * y) := by
    rw [Nat.mul_comm y t.ad, mul_comm4, Nat.mul_comm t.ed t.ad]
  rw [l, r]
  exact k2

theorem Tr.Ok.Xpos {t : Tr} (h : t.Ok) (p f : Nat) : 0 < t.X p f := by
  have := h.b.n1; have := h.b.nd; have := h.g.nd; have := h.g.n1
  exact Nat.mul_pos (Nat.pow_pos (Nat.mul_pos (by omega) (by omega))) (Nat.pow_pos (Nat.mul_pos (by omega) (by omega)))
theorem Tr.Ok.Ypos {t : Tr} (h : t.Ok) (p f : Nat) : 0 < t.Y p f := by
  have := h.b.n1; have := h.b.nd; have := h.g.nd; have := h.g.n1
  exact Nat.mul_pos (Nat.pow_pos (Nat.mul_pos (by omega) (by omega))) (Nat.pow_pos (Nat.mul_pos (by omega) (by omega)))

/-- If x·a ≤ y·b and y'·c ≤ x'·d, where x'·y ≤ x·y', then b·d is at least a·c: with the gap it can't be. -/
theorem cross (x y x' y' a b c d : Nat) (hx : 0 < x) (hy' : 0 < y') (h1 : x * a ≤ y * b) (h2 : y' * c ≤ x' * d) (h3 : x' * y ≤ x * y') (h4 : b * d < a * c) : False := by
  have k1 : (x * a) * (y' * c) ≤ (y * b) * (x' * d) := Nat.mul_le_mul h1 h2
  rw [mul_comm4, mul_comm4 y b x' d] at k1
  have k2 : y * x' * (b * d) ≤ x * y' * (b * d) := Nat.mul_le_mul_right _ (by rw [Nat.mul_comm y x']; exact h3)
  have k3 : x * y' * (b * d) < x * y' * (a * c) := Nat.mul_lt_mul_of_pos_left h4 (Nat.mul_pos hx hy')
  omega

theorem Tr.Ok.apart {t : Tr} (h : t.Ok) (p f : Nat) : t.accepts p f → ¬ t.refuses p f := fun ha hr =>
  cross _ _ _ _ _ _ _ _ (h.Xpos p f) (h.Ypos p f) ha hr (Nat.le_refl _) h.gap

theorem X_pass (t : Tr) (p f : Nat) : t.X (p + 1) f = t.X p f * (t.bn * t.gd) := by
  unfold Tr.X; rw [Nat.pow_succ]; ac_rfl
theorem Y_pass (t : Tr) (p f : Nat) : t.Y (p + 1) f = t.Y p f * (t.bd * t.gn) := by
  unfold Tr.Y; rw [Nat.pow_succ]; ac_rfl
theorem X_fail (t : Tr) (p f : Nat) : t.X p (f + 1) = t.X p f * ((t.bd - t.bn) * t.gd) := by
  unfold Tr.X; rw [Nat.pow_succ]; ac_rfl
theorem Y_fail (t : Tr) (p f : Nat) : t.Y p (f + 1) = t.Y p f * (t.bd * (t.gd - t.gn)) := by
  unfold Tr.Y; rw [Nat.pow_succ]; ac_rfl
/-- A fail speaks for the bad one. -/
theorem Tr.Ok.gb {t : Tr} (h : t.Ok) : t.bd * (t.gd - t.gn) < (t.bd - t.bn) * t.gd := by
  have := h.bg; have := h.g.nd; have := h.b.nd
  rw [Nat.mul_sub, Nat.sub_mul, Nat.mul_comm t.bd t.gn]
  have : t.gn * t.bd ≤ t.gd * t.bd := Nat.mul_le_mul_right _ (by omega)
  have : t.bn * t.gd ≤ t.bd * t.gd := Nat.mul_le_mul_right _ (by omega)
  have := Nat.mul_comm t.gd t.bd
  omega

theorem Tr.Ok.acc_pass {t : Tr} (h : t.Ok) (p f : Nat) (ha : t.accepts p f) : t.accepts (p + 1) f := by
  unfold Tr.accepts at ha ⊢
  rw [X_pass, Y_pass]
  have k : t.bn * t.gd ≤ t.bd * t.gn := by have := h.bg; rw [Nat.mul_comm t.bd t.gn]; omega
  have := Nat.mul_le_mul ha k
  calc _ = t.X p f * (t.ed * (t.ad - t.an)) * (t.bn * t.gd) := by ac_rfl
    _ ≤ _ := this
    _ = _ := by ac_rfl
theorem Tr.Ok.ref_fail {t : Tr} (h : t.Ok) (p f : Nat) (ha : t.refuses p f) : t.refuses p (f + 1) := by
  unfold Tr.refuses at ha ⊢
  rw [X_fail, Y_fail]
  have := Nat.mul_le_mul ha (Nat.le_of_lt h.gb)
  calc _ = t.Y p f * ((t.ed - t.en) * t.ad) * (t.bd * (t.gd - t.gn)) := by ac_rfl
    _ ≤ _ := this
    _ = _ := by ac_rfl

theorem Tr.dec_two (t : Tr) (p f : Nat) : t.dec p f = 2 ↔ t.refuses p f := by
  unfold Tr.dec; split
  · simp [*]
  · split <;> simp [*]
theorem Tr.Ok.dec_one {t : Tr} (h : t.Ok) (p f : Nat) : t.dec p f = 1 ↔ t.accepts p f := by
  unfold Tr.dec; split
  · have := h.apart p f; simp; intro ha; exact this ha (by assumption)
  · split <;> simp [*]
theorem Tr.dec_cases (t : Tr) (p f : Nat) : t.dec p f = 0 ∨ t.dec p f = 1 ∨ t.dec p f = 2 := by
  unfold Tr.dec; split
  · simp
  · split <;> simp
theorem Tr.Ok.dec_pass {t : Tr} (h : t.Ok) (p f : Nat) (e : t.dec p f = 1) : t.dec (p + 1) f = 1 :=
  (h.dec_one _ _).2 (h.acc_pass _ _ ((h.dec_one _ _).1 e))
theorem Tr.Ok.dec_fail {t : Tr} (h : t.Ok) (p f : Nat) (e : t.dec p f = 2) : t.dec p (f + 1) = 2 :=
  (t.dec_two _ _).2 (h.ref_fail _ _ ((t.dec_two _ _).1 e))

def Tr.mirror (t : Tr) : Tr := { gn := t.bd - t.bn, gd := t.bd, bn := t.gd - t.gn, bd := t.gd, an := t.en, ad := t.ed, en := t.an, ed := t.ad }
theorem Ratio01.other {n d : Nat} (h : Ratio01 n d) : Ratio01 (d - n) d := ⟨by have := h.nd; omega, by have := h.n1; have := h.nd; omega, h.d20⟩
theorem Tr.Ok.mirror {t : Tr} (h : t.Ok) : t.mirror.Ok where
  g := h.b.other
  b := h.g.other
  a := h.e
  e := h.a
  bg := by have := h.gb; show (t.gd - t.gn) * t.bd < (t.bd - t.bn) * t.gd; rw [Nat.mul_comm]; exact this
  ae := by have := h.ae; show t.en * t.ad + t.an * t.ed < t.ed * t.ad; rw [Nat.mul_comm t.ed t.ad]; omega
theorem Tr.Ok.mX {t : Tr} (h : t.Ok) (p f : Nat) : t.mirror.X f p = t.Y p f := by
  have e : t.gd - (t.gd - t.gn) = t.gn := by have := h.g.nd; omega
  show ((t.gd - t.gn) * t.bd) ^ f * ((t.gd - (t.gd - t.gn)) * t.bd) ^ p = (t.bd * t.gn) ^ p * (t.bd * (t.gd - t.gn)) ^ f
  rw [e, Nat.mul_comm t.bd t.gn, Nat.mul_comm t.bd (t.gd - t.gn), Nat.mul_comm]
theorem Tr.Ok.mY {t : Tr} (h : t.Ok) (p f : Nat) : t.mirror.Y f p = t.X p f := by
  have e : t.bd - (t.bd - t.bn) = t.bn := by have := h.b.nd; omega
  show (t.gd * (t.bd - t.bn)) ^ f * (t.gd * (t.bd - (t.bd - t.bn))) ^ p = (t.bn * t.gd) ^ p * ((t.bd - t.bn) * t.gd) ^ f
  rw [e, Nat.mul_comm t.gd t.bn, Nat.mul_comm t.gd (t.bd - t.bn), Nat.mul_comm]
theorem Tr.Ok.m_ref {t : Tr} (h : t.Ok) (p f : Nat) : t.mirror.refuses f p ↔ t.accepts p f := by
  unfold Tr.refuses Tr.accepts
  rw [h.mX, h.mY]
  show t.X p f * ((t.ad - t.an) * t.ed) ≤ t.Y p f * (t.ad * t.en) ↔ _
  rw [Nat.mul_comm (t.ad - t.an) t.ed, Nat.mul_comm t.ad t.en]
theorem Tr.Ok.m_acc {t : Tr} (h : t.Ok) (p f : Nat) : t.mirror.accepts f p ↔ t.refuses p f := by
  unfold Tr.refuses Tr.accepts
  rw [h.mX, h.mY]
  show t.Y p f * (t.ad * (t.ed - t.en)) ≤ t.X p f * (t.an * t.ed) ↔ _
  rw [Nat.mul_comm t.ad (t.ed - t.en), Nat.mul_comm t.an t.ed]
/-- Exchanging the roles exchanges the decisions. -/
theorem Tr.Ok.dec_mirror {t : Tr} (h : t.Ok) (p f : Nat) : (t.dec p f = 0 ∧ t.mirror.dec f p = 0) ∨ (t.dec p f = 1 ∧ t.mirror.dec f p = 2) ∨ (t.dec p f = 2 ∧ t.mirror.dec f p = 1) := by
  have h1 := h.dec_one p f
  have h2 := t.dec_two p f
  have m1 := h.mirror.dec_one f p
  have m2 := t.mirror.dec_two f p
  rw [h.m_acc] at m1
  rw [h.m_ref] at m2
  rcases t.dec_cases p f with e | e | e <;> rcases t.mirror.dec_cases f p with e' | e' | e' <;> simp_all
end Go.Proofs.Ytldpdoakfacdbaa
