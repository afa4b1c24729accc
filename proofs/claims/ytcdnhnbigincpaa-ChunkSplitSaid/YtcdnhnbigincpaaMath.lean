/- Content-defined chunks, as mathematics: the ends of a list of bytes; the rolling hash is the hash of the window. -/
namespace Go.Proofs.Ytcdnhnbigincpaa

/-- The parameters. -/
structure Pm where
  least : Nat
  most : Nat
  window : Nat
  bits : Nat
structure Pm.Ok (p : Pm) : Prop where
  w1 : 1 ≤ p.window
  lw : p.window ≤ p.least
  ml : p.least ≤ p.most
  m : p.most ≤ 65536
  b : p.bits ≤ 16

abbrev Md : Int := 4294967296
abbrev Fc : Int := 16777619
/-- The hash without its bound. -/
def poly (xs : List Nat) : Int := xs.foldl (fun (h : Int) (b : Nat) => h * Fc + (b : Int) + 1) 0
def hs (xs : List Nat) : Int := poly xs % Md
theorem poly_acc (xs : List Nat) (h : Int) : xs.foldl (fun (h : Int) (b : Nat) => h * Fc + (b : Int) + 1) h = h * Fc ^ xs.length + poly xs := by
  induction xs generalizing h with
  | nil => simp [poly]
  | cons b xs ih =>
    have e : poly (b :: xs) = (0 * Fc + (b : Int) + 1) * Fc ^ xs.length + poly xs := by rw [poly, List.foldl_cons, ih]
    rw [List.foldl_cons, ih, e, List.length_cons, Int.pow_succ]
    simp only [Int.add_mul, Int.zero_mul, Int.zero_add, Int.mul_assoc, Int.add_assoc]
    rw [Int.mul_comm Fc (Fc ^ xs.length)]
theorem poly_snoc (xs : List Nat) (b : Nat) : poly (xs ++ [b]) = poly xs * Fc + b + 1 := by simp [poly]
theorem poly_cons (a : Nat) (xs : List Nat) : poly (a :: xs) = (a + 1) * Fc ^ xs.length + poly xs := by
  rw [poly, List.foldl_cons, poly_acc]; simp
theorem hs_nil : hs [] = 0 := rfl
theorem hs_lo (xs : List Nat) : 0 ≤ hs xs := Int.emod_nonneg _ (by decide)
theorem hs_hi (xs : List Nat) : hs xs < Md := Int.emod_lt_of_pos _ (by decide)
theorem hs_snoc (xs : List Nat) (b : Nat) : (hs xs * Fc + b + 1) % Md = hs (xs ++ [b]) := by
  unfold hs
  rw [poly_snoc]
  simp only [Md, Fc]
  omega
/-- The byte that leaves is taken away. -/
theorem hs_slide (a : Nat) (xs : List Nat) (k : Nat) (hk : xs.length = k) (lv : Int) (hl : lv = Fc ^ k % Md) : (hs (a :: xs) - ((a : Int) + 1) * lv) % Md = hs xs := by
  subst hl hk
  unfold hs
  rw [poly_cons]
  generalize Fc ^ xs.length = B
  generalize poly xs = q
  generalize (a : Int) + 1 = c
  have h1 := Int.emod_def (c * B + q) Md
  have h2 := Int.emod_def B Md
  generalize (c * B + q) / Md = qa at h1
  generalize B / Md = qb at h2
  rw [h1, h2]
  have h3 : c * (Md * qb) = Md * (c * qb) := Int.mul_left_comm _ _ _
  have key : c * B + q - Md * qa - c * (B - Md * qb) = q + Md * (c * qb - qa) := by
    rw [Int.mul_sub c, h3, Int.mul_sub Md]; omega
  rw [key, Int.add_mul_emod_self_left]

/-- The bytes of the window that ends at e. -/
def win (w : Nat) (l : List Nat) (e : Nat) : List Nat := (l.take e).drop (e - w)
theorem win_zero (w : Nat) (l : List Nat) : win w l 0 = [] := by simp [win]
theorem win_grow (w : Nat) (l : List Nat) (i : Nat) (hi : i < l.length) (h : i < w) : win w l (i + 1) = win w l i ++ [l[i]] := by
  unfold win
  rw [show i + 1 - w = 0 by omega, show i - w = 0 by omega, List.drop_zero, List.drop_zero]
  exact List.take_succ_eq_append_getElem hi
theorem win_slide (w : Nat) (l : List Nat) (i : Nat) (hi : i < l.length) (h : w ≤ i) (h1 : 1 ≤ w) : win w l i ++ [l[i]] = l[i - w] :: win w l (i + 1) := by
  unfold win
  have e1 : (l.take i).drop (i - w) ++ [l[i]] = (l.take (i + 1)).drop (i - w) := by
    rw [List.take_succ_eq_append_getElem hi, List.drop_append_of_le_length (by rw [List.length_take]; omega)]
  rw [e1, List.drop_eq_getElem_cons (by rw [List.length_take]; omega), List.getElem_take, show i - w + 1 = i + 1 - w by omega]
theorem win_length (w : Nat) (l : List Nat) (e : Nat) (he : e ≤ l.length) (h : w ≤ e) : (win w l e).length = w := by
  unfold win; rw [List.length_drop, List.length_take]; omega

/-- The hash of the window. -/
def hw (w : Nat) (l : List Nat) (e : Nat) : Int := hs (win w l e)
theorem hw_zero (w : Nat) (l : List Nat) : hw w l 0 = 0 := by rw [hw, win_zero, hs_nil]
theorem hw_lo (w : Nat) (l : List Nat) (e : Nat) : 0 ≤ hw w l e := hs_lo _
theorem hw_hi (w : Nat) (l : List Nat) (e : Nat) : hw w l e < 4294967296 := hs_hi _
theorem hw_grow (w : Nat) (l : List Nat) (i : Nat) (hi : i < l.length) (h : i < w) : (hw w l i * 16777619 + (l[i] : Int) + 1) % 4294967296 = hw w l (i + 1) := by
  rw [hw, hw, win_grow w l i hi h]; exact hs_snoc _ _
theorem hw_slide (w : Nat) (l : List Nat) (i : Nat) (hi : i < l.length) (h : w ≤ i) (h1 : 1 ≤ w) (lv : Int) (hl : lv = Fc ^ w % Md) :
    ((hw w l i * 16777619 + (l[i] : Int) + 1) % 4294967296 - ((l[i - w] : Int) + 1) * lv) % 4294967296 = hw w l (i + 1) := by
  have e := hs_snoc (win w l i) l[i]
  rw [win_slide w l i hi h h1] at e
  rw [hw, hw]
  simp only [Md, Fc] at e
  rw [e]
  exact hs_slide _ _ w (win_length w l (i + 1) (by omega) (by omega)) lv hl

section
variable (tst : Nat → Int → Bool) (p : Pm)
/-- Does a chunk that begins at b end at e? -/
def stops (l : List Nat) (b e : Nat) : Prop := (p.least ≤ e - b ∧ tst p.bits (hw p.window l e) = true) ∨ p.most ≤ e - b ∨ l.length ≤ e
instance (l : List Nat) (b e : Nat) : Decidable (stops tst p l b e) := by unfold stops; exact inferInstance
def go (l : List Nat) : (n i b : Nat) → List Nat
  | 0, _, _ => []
  | n + 1, i, b => if stops tst p l b (i + 1) then (i + 1) :: go l n (i + 1) (i + 1) else go l n (i + 1) b
/-- The ends. -/
def ends (l : List Nat) : List Nat := go tst p l l.length 0 0
theorem go_stop {l : List Nat} {n i b : Nat} (h : stops tst p l b (i + 1)) : go tst p l (n + 1) i b = (i + 1) :: go tst p l n (i + 1) (i + 1) := by rw [go, if_pos h]
theorem go_on {l : List Nat} {n i b : Nat} (h : ¬ stops tst p l b (i + 1)) : go tst p l (n + 1) i b = go tst p l n (i + 1) b := by rw [go, if_neg h]

/-- What the ends are like. -/
def Good (len : Nat) : Nat → List Nat → Prop
  | b, [] => b = len
  | b, e :: E => b < e ∧ e ≤ len ∧ e - b ≤ p.most ∧ (E ≠ [] → p.least ≤ e - b) ∧ Good len e E
variable {tst p}
theorem go_good (hp : p.Ok) (l : List Nat) : ∀ n i b, i + n = l.length → b ≤ i → i - b < p.most → (n = 0 → b = i) → Good p l.length b (go tst p l n i b)
  | 0, i, b, h, _, _, h3 => by show b = l.length; have := h3 rfl; omega
  | n + 1, i, b, h, h1, h2, h3 => by
    by_cases hst : stops tst p l b (i + 1)
    · rw [go_stop _ _ hst]
      have hm := hp.ml
      have hw := hp.w1
      have hlw := hp.lw
      refine ⟨by omega, by omega, by omega, fun hne => ?_, go_good hp l n (i + 1) (i + 1) (by omega) (Nat.le_refl _) (by omega) (fun _ => rfl)⟩
      rcases hst with ⟨h4, _⟩ | h4 | h4
      · exact h4
      · omega
      · have : n = 0 := by omega
        subst this
        exact absurd rfl hne
    · rw [go_on _ _ hst]
      have hst' : ¬ (p.most ≤ i + 1 - b) ∧ ¬ (l.length ≤ i + 1) := ⟨fun h => hst (.inr (.inl h)), fun h => hst (.inr (.inr h))⟩
      exact go_good hp l n (i + 1) b (by omega) (by omega) (by omega) (by omega)
theorem ends_good (hp : p.Ok) (l : List Nat) : Good p l.length 0 (ends tst p l) :=
  go_good hp l _ 0 0 (by omega) (Nat.le_refl _) (by have := hp.ml; have := hp.w1; have := hp.lw; omega) (fun _ => rfl)

theorem win_drop (w : Nat) (l : List Nat) (b e : Nat) (h : w ≤ e - b) (_hb : b ≤ e) : win w (l.drop b) (e - b) = win w l e := by
  unfold win
  rw [← List.drop_take, List.drop_drop, show b + (e - b - w) = e - w by omega]
theorem win_take (w : Nat) (l : List Nat) (m e : Nat) (h : e ≤ m) : win w (l.take m) e = win w l e := by
  unfold win; rw [List.take_take, Nat.min_eq_left h]
theorem stops_drop (hp : p.Ok) (l : List Nat) (b c e : Nat) (hc : c ≤ b) (hb : b < e) : stops tst p (l.drop c) (b - c) (e - c) ↔ stops tst p l b e := by
  unfold stops
  rw [show e - c - (b - c) = e - b by omega, List.length_drop]
  have h3 : l.length - c ≤ e - c ↔ l.length ≤ e := by omega
  rw [h3]
  by_cases h : p.least ≤ e - b
  · have := hp.lw
    have e1 : hw p.window (l.drop c) (e - c) = hw p.window l e := by rw [hw, win_drop _ _ _ _ (by omega) (by omega), hw]
    rw [e1]
  · simp [h]
theorem go_shift (hp : p.Ok) (l : List Nat) : ∀ n i b c, c ≤ b → b ≤ i → i + n = l.length → go tst p l n i b = (go tst p (l.drop c) n (i - c) (b - c)).map (· + c)
  | 0, _, _, _, _, _, _ => rfl
  | n + 1, i, b, c, h1, h2, h3 => by
    have e := stops_drop (tst := tst) hp l b c (i + 1) h1 (by omega)
    rw [show i + 1 - c = i - c + 1 by omega] at e
    by_cases hst : stops tst p l b (i + 1)
    · rw [go_stop _ _ hst, go_stop _ _ (e.2 hst), List.map_cons, go_shift hp l n (i + 1) (i + 1) c (by omega) (Nat.le_refl _) (by omega), show i + 1 - c = i - c + 1 by omega, show i - c + 1 + c = i + 1 by omega]
    · rw [go_on _ _ hst, go_on _ _ (fun h => hst (e.1 h)), go_shift hp l n (i + 1) b c h1 (by omega) (by omega), show i + 1 - c = i - c + 1 by omega]

/-- The first end. -/
theorem go_first (l : List Nat) : ∀ n i, i + n = l.length → 0 < n → ∃ f, i < f ∧ f ≤ l.length ∧ stops tst p l 0 f ∧ (∀ e, i < e → e < f → ¬ stops tst p l 0 e) ∧ go tst p l n i 0 = f :: go tst p l (l.length - f) f f
  | 0, _, _, h => absurd h (Nat.lt_irrefl _)
  | n + 1, i, h, _ => by
    by_cases hst : stops tst p l 0 (i + 1)
    · exact ⟨i + 1, by omega, by omega, hst, fun e h1 h2 => by omega, by rw [go_stop _ _ hst, show l.length - (i + 1) = n by omega]⟩
    · have hn : 0 < n := by
        rcases Nat.eq_zero_or_pos n with rfl | h'
        · exact absurd (.inr (.inr (by omega))) hst
        · exact h'
      obtain ⟨f, f1, f2, f3, f4, f5⟩ := go_first l n (i + 1) (by omega) hn
      refine ⟨f, by omega, f2, f3, fun e h1 h2 => ?_, by rw [go_on _ _ hst, f5]⟩
      by_cases he : e = i + 1
      · subst he; exact hst
      · exact f4 e (by omega) h2
theorem ends_nil : ends tst p [] = [] := rfl
theorem ends_cons (hp : p.Ok) (l : List Nat) (hl : 0 < l.length) : ∃ f, 0 < f ∧ f ≤ l.length ∧ stops tst p l 0 f ∧ (∀ e, 0 < e → e < f → ¬ stops tst p l 0 e) ∧ ends tst p l = f :: (ends tst p (l.drop f)).map (· + f) := by
  obtain ⟨f, f1, f2, f3, f4, f5⟩ := go_first (tst := tst) (p := p) l l.length 0 (by omega) hl
  refine ⟨f, f1, f2, f3, f4, ?_⟩
  rw [ends, f5, go_shift hp l _ f f f (Nat.le_refl _) (Nat.le_refl _) (by omega), Nat.sub_self, ends, List.length_drop]

theorem stops_take (l : List Nat) (m e : Nat) (he : e ≤ m) (_h : e < m ∨ stops tst p l 0 e ∨ e = m) (hm : m ≤ l.length) : stops tst p (l.take m) 0 e ↔ (stops tst p l 0 e ∨ e = m) := by
  unfold stops
  have e1 : hw p.window (l.take m) e = hw p.window l e := by rw [hw, win_take _ _ _ _ he, hw]
  rw [e1, List.length_take, Nat.min_eq_left hm]
  constructor
  · rintro (h1 | h1 | h1)
    · exact .inl (.inl h1)
    · exact .inl (.inr (.inl h1))
    · exact .inr (by omega)
  · rintro ((h1 | h1 | h1) | h1)
    · exact .inl h1
    · exact .inr (.inl h1)
    · exact .inr (.inr (by omega))
    · exact .inr (.inr (by omega))
/-- The first end is the least place at which a chunk stops. -/
theorem first_unique {l : List Nat} {f g : Nat} (f0 : 0 < f) (f1 : stops tst p l 0 f) (f2 : ∀ e, 0 < e → e < f → ¬ stops tst p l 0 e) (g0 : 0 < g) (g1 : stops tst p l 0 g) (g2 : ∀ e, 0 < e → e < g → ¬ stops tst p l 0 e) : f = g := by
  rcases Nat.lt_trichotomy f g with h | h | h
  · exact absurd f1 (g2 f f0 h)
  · exact h
  · exact absurd g1 (f2 g g0 h)

/-- From an end on, and up to an end. -/
theorem ends_split (hp : p.Ok) : ∀ (n : Nat) (l : List Nat), l.length = n → ∀ k (hk : k < (ends tst p l).length),
    ends tst p (l.take (ends tst p l)[k]) = (ends tst p l).take (k + 1) ∧ ends tst p l = (ends tst p l).take (k + 1) ++ (ends tst p (l.drop (ends tst p l)[k])).map (· + (ends tst p l)[k]) := by
  intro n
  induction n using Nat.strongRecOn with
  | _ n ih =>
    intro l hn k hk
    by_cases h0 : l.length = 0
    · rw [List.eq_nil_of_length_eq_zero h0, ends_nil] at hk; exact absurd hk (Nat.not_lt_zero _)
    obtain ⟨f, f1, f2, f3, f4, f5⟩ := ends_cons (tst := tst) hp l (by omega)
    -- the data up to any place from f on has the same first end
    have firstT : ∀ m, f ≤ m → m ≤ l.length → ends tst p (l.take m) = f :: (ends tst p ((l.drop f).take (m - f))).map (· + f) := by
      intro m h1 h2
      obtain ⟨g, g1, g2, g3, g4, g5⟩ := ends_cons (tst := tst) hp (l.take m) (by rw [List.length_take]; omega)
      rw [List.length_take, Nat.min_eq_left h2] at g2
      have : g = f := by
        refine first_unique (l := l.take m) (tst := tst) (p := p) g1 g3 g4 f1 ((stops_take l m f h1 (.inr (.inl f3)) h2).2 (.inl f3)) (fun e e1 e2 h => ?_)
        rcases (stops_take (tst := tst) (p := p) l m e (by omega) (.inl (by omega)) h2).1 h with h3 | h3
        · exact f4 e e1 e2 h3
        · omega
      subst this
      rw [g5, List.drop_take]
    generalize hE : ends tst p l = E at hk f5 ⊢
    subst f5
    cases k with
    | zero =>
      simp only [List.getElem_cons_zero, List.take_succ_cons, List.take_zero]
      refine ⟨?_, rfl⟩
      rw [firstT f (Nat.le_refl _) f2, Nat.sub_self, List.take_zero, ends_nil, List.map_nil]
    | succ k =>
      simp only [List.length_cons, List.length_map] at hk
      have hk' : k < (ends tst p (l.drop f)).length := by omega
      obtain ⟨i1, i2⟩ := ih (l.drop f).length (by rw [List.length_drop]; omega) (l.drop f) rfl k hk'
      simp only [List.getElem_cons_succ, List.getElem_map, List.take_succ_cons]
      have gg := ends_good (tst := tst) hp (l.drop f)
      have hlt : (ends tst p (l.drop f))[k] ≤ (l.drop f).length := by
        have : ∀ (E : List Nat) (b : Nat), Good p (l.drop f).length b E → ∀ j (hj : j < E.length), E[j] ≤ (l.drop f).length := by
          intro E
          induction E with
          | nil => intro b _ j hj; exact absurd hj (Nat.not_lt_zero _)
          | cons e E ihE =>
            rintro b ⟨_, h2, _, _, h5⟩ j hj
            cases j with
            | zero => exact h2
            | succ j => exact ihE e h5 j (by simpa using hj)
        exact this _ _ gg k hk'
      generalize (ends tst p (l.drop f))[k] = e' at i1 i2 hlt ⊢
      rw [List.length_drop] at hlt
      refine ⟨?_, ?_⟩
      · rw [firstT (e' + f) (by omega) (by omega), show e' + f - f = e' by omega, i1, List.map_take]
      · rw [List.drop_drop] at i2
        rw [show f + e' = e' + f by omega] at i2
        conv => lhs; rw [i2]
        rw [List.map_append, List.map_map, List.map_take, List.cons_append]
        congr 2
        apply List.map_congr_left
        intro x _
        simp; omega
end
end Go.Proofs.Ytcdnhnbigincpaa
