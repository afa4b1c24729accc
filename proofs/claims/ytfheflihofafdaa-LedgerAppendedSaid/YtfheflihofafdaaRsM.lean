/- The roots that result from a growth proof, of program and reference, at this translation. -/
import Derived.Test.YtfheflihofafdaaRes
import Derived.Test.YtfheflihofafdaaRoots
namespace Go.Proofs.Ytfheflihofafdaa
open Go.RowKit Go.Great Pt Tr

abbrev Zd : Dig := (0, 0)
/-- What the program says: the proof's elements from behind. -/
def rsP : Nat → Nat → Dig → List Dig → Bool → (Dig × Dig) × Bool
  | n, m, old, [], wh => if n = m ∧ wh = true then ((old, old), true) else ((Zd, Zd), false)
  | n, m, old, p :: t, wh => if n = m then (if wh then ((old, old), false) else if t = [] then ((p, p), true) else ((Zd, Zd), false))
    else if n ≤ leftN m then (((rsP n (leftN m) old t wh).1.1, pairD (rsP n (leftN m) old t wh).1.2 p), (rsP n (leftN m) old t wh).2)
    else ((pairD p (rsP (n - leftN m) (m - leftN m) old t false).1.1, pairD p (rsP (n - leftN m) (m - leftN m) old t false).1.2), (rsP (n - leftN m) (m - leftN m) old t false).2)
/-- What the reference says. -/
def rsR : Nat → Nat → Dig → List Dig → Bool → (Dig × Dig) × Bool
  | n, m, old, [], wh => if n = m ∧ wh = true then ((old, old), true) else ((Zd, Zd), false)
  | n, m, old, p :: t, wh => if n = m then (if wh then ((old, old), false) else ((p, p), decide (t = [])))
    else if n ≤ leftN m then (((rsR n (leftN m) old t wh).1.1, pairD (rsR n (leftN m) old t wh).1.2 p), (rsR n (leftN m) old t wh).2)
    else ((pairD p (rsR (n - leftN m) (m - leftN m) old t false).1.1, pairD p (rsR (n - leftN m) (m - leftN m) old t false).1.2), (rsR (n - leftN m) (m - leftN m) old t false).2)
theorem rs_same : ∀ (R : List Dig) (n m : Nat) (old : Dig) (wh : Bool), (rsP n m old R wh).2 = (rsR n m old R wh).2 ∧ ((rsP n m old R wh).2 = true → (rsP n m old R wh).1 = (rsR n m old R wh).1)
  | [], n, m, old, wh => ⟨rfl, fun _ => rfl⟩
  | p :: t, n, m, old, wh => by
    unfold rsP rsR
    by_cases h : n = m
    · rw [if_pos h, if_pos h]
      cases wh
      · by_cases ht : t = []
        · simp [ht]
        · simp [ht]
      · simp
    · rw [if_neg h, if_neg h]
      by_cases hk : n ≤ leftN m
      · rw [if_pos hk, if_pos hk]
        obtain ⟨h1, h2⟩ := rs_same t n (leftN m) old wh
        exact ⟨h1, fun e => by rw [h2 e]⟩
      · rw [if_neg hk, if_neg hk]
        obtain ⟨h1, h2⟩ := rs_same t (n - leftN m) (m - leftN m) old false
        exact ⟨h1, fun e => by rw [h2 e]⟩
def r4 (x : (Dig × Dig) × Bool) : Value := .tuple #[.agg #[.int .u64 x.1.1.1, .int .u64 x.1.1.2, .int .u64 x.1.2.1, .int .u64 x.1.2.2], .bool x.2]
def r22 (x : (Dig × Dig) × Bool) : Value := .tuple #[x.1.1.v, x.1.2.v, .bool x.2]
theorem nil_slice {w : World} {v : Value} (h : IsDigs w v []) : ∃ a c, v = .slice a 0 c := by
  obtain ⟨a, c, e, _⟩ := h
  exact ⟨a, c, e⟩
theorem res_any : ∀ (R : List Dig) (n m : Nat) (old : Dig) (wh : Bool) (w : World) (v : Value), IsDigs w v R.reverse → 1 ≤ n → n ≤ m → m ≤ 10000 →
    Calls Try.prog 46 #[.int .i64 n, .int .i64 m, old.v, v, .bool wh] w fun e w' => e = .returned (r4 (rsP n m old R wh)) ∧ Below w.heap.size w w'
  | [], n, m, old, wh, w, v, hv, h1, hnm, hm => by
    obtain ⟨a, c, rfl⟩ := nil_slice hv
    unfold rsP
    by_cases h : n = m
    · subst h
      cases wh with
      | true => rw [if_pos ⟨rfl, rfl⟩]; exact res_whole 0 c a n old.1 old.2 true rfl w
      | false => rw [if_neg (by simp)]; exact res_part 0 c a n old.1 old.2 (by omega) w
    · rw [if_neg (fun e => h e.1)]
      exact res_none c a n m old.1 old.2 wh (by omega) w
  | p :: t, n, m, old, wh, w, v, hv, h1, hnm, hm => by
    rw [List.reverse_cons] at hv
    obtain ⟨b, off, c, rfl, hc1, hc2, hb, e0, e1, hv2⟩ := hv.last
    rw [List.length_reverse] at hc1 e0 e1 hv2 ⊢
    unfold rsP
    by_cases h : n = m
    · subst h
      rw [if_pos rfl]
      cases wh with
      | true =>
        rw [if_pos rfl]
        exact res_whole (t.length + 1) c _ n old.1 old.2 false (by simp; omega) w
      | false =>
        rw [if_neg (by simp)]
        by_cases ht : t = []
        · subst ht
          rw [if_pos rfl]
          exact res_one c b off n old.1 old.2 p.1 p.2 w (by simpa using e0) (by simpa using e1) hb
        · rw [if_neg ht]
          have : t.length ≠ 0 := fun e => ht (List.length_eq_zero_iff.1 e)
          exact res_part (t.length + 1) c _ n old.1 old.2 (by omega) w
    · rw [if_neg h]
      obtain ⟨_, _, _, _, hk, hk2⟩ := leftN_spec m (by omega) (by omega)
      have hpos : 1 ≤ leftN m := Nat.pow_pos (by decide)
      have hm2' : 2 ≤ m := by omega
      by_cases hnk : n ≤ leftN m
      · rw [if_pos hnk]
        have ih := fun W (hW : Below w.heap.size w W) => res_any t n (leftN m) old wh W _ (hv2.below hW) h1 hnk (by omega)
        generalize rsP n (leftN m) old t wh = x at *
        obtain ⟨⟨⟨x0, x1⟩, ⟨y0, y1⟩⟩, ok⟩ := x
        have hp := fun W => pairD_any (y0, y1) p W
        simp only
        generalize pairD (y0, y1) p = s at *
        obtain ⟨s0, s1⟩ := s
        exact res_less m (leftN m) b off c t.length n old.1 old.2 p.1 p.2 x0 x1 y0 y1 s0 s1 wh ok rfl hm2' hm (by omega) (by omega) hc1 hc2 w e0 e1 hb ih hp
      · rw [if_neg hnk]
        have ih := fun W (hW : Below w.heap.size w W) => res_any t (n - leftN m) (m - leftN m) old false W _ (hv2.below hW) (by omega) (by omega) (by omega)
        rw [Int.natCast_sub (by omega), Int.natCast_sub (by omega)] at ih
        generalize rsP (n - leftN m) (m - leftN m) old t false = x at *
        obtain ⟨⟨⟨x0, x1⟩, ⟨y0, y1⟩⟩, ok⟩ := x
        have hp := fun W => pairD_any p (x0, x1) W
        have hp2 := fun W => pairD_any p (y0, y1) W
        simp only
        generalize pairD p (x0, x1) = s at *
        generalize pairD p (y0, y1) = u at *
        obtain ⟨s0, s1⟩ := s
        obtain ⟨u0, u1⟩ := u
        exact res_more m (leftN m) b off c t.length n old.1 old.2 p.1 p.2 x0 x1 y0 y1 s0 s1 u0 u1 wh ok rfl hk hm2' hm (by omega) (by omega) hc1 hc2 w e0 e1 hb ih hp hp2
theorem roots_any : ∀ (R : List Dig) (n m : Nat) (old : Dig) (wh : Bool) (w : World) (v : Value), IsDigs w v R.reverse → 1 ≤ n → n ≤ m → m ≤ 10000 →
    Calls Try.prog 47 #[.int .i64 n, .int .i64 m, old.v, v, .bool wh] w fun e w' => e = .returned (r22 (rsR n m old R wh)) ∧ Below w.heap.size w w'
  | [], n, m, old, wh, w, v, hv, h1, hnm, hm => by
    obtain ⟨a, c, rfl⟩ := nil_slice hv
    unfold rsR
    by_cases h : n = m
    · subst h
      cases wh with
      | true => rw [if_pos ⟨rfl, rfl⟩]; exact roots_whole 0 c a n old.1 old.2 true rfl w
      | false => rw [if_neg (by simp)]; exact roots_none c a n n old.1 old.2 false (by simp) w
    · rw [if_neg (fun e => h e.1)]
      exact roots_none c a n m old.1 old.2 wh (by simp; omega) w
  | p :: t, n, m, old, wh, w, v, hv, h1, hnm, hm => by
    rw [List.reverse_cons] at hv
    obtain ⟨b, off, c, rfl, hc1, hc2, hb, e0, e1, hv2⟩ := hv.last
    rw [List.length_reverse] at hc1 e0 e1 hv2 ⊢
    unfold rsR
    by_cases h : n = m
    · subst h
      rw [if_pos rfl]
      cases wh with
      | true =>
        rw [if_pos rfl]
        exact roots_whole (t.length + 1) c _ n old.1 old.2 false (by simp; omega) w
      | false =>
        rw [if_neg (by simp)]
        refine roots_part t.length c b off n old.1 old.2 p.1 p.2 _ ?_ hc1 hc2 w e0 e1 hb
        by_cases ht : t = []
        · simp [ht]
        · have : t.length ≠ 0 := fun e => ht (List.length_eq_zero_iff.1 e)
          simp [ht]; omega
    · rw [if_neg h]
      obtain ⟨_, _, _, _, hk, hk2⟩ := leftN_spec m (by omega) (by omega)
      have hpos : 1 ≤ leftN m := Nat.pow_pos (by decide)
      have hm2' : 2 ≤ m := by omega
      by_cases hnk : n ≤ leftN m
      · rw [if_pos hnk]
        have ih := fun W (hW : Below w.heap.size w W) => roots_any t n (leftN m) old wh W _ (hv2.below hW) h1 hnk (by omega)
        generalize rsR n (leftN m) old t wh = x at *
        obtain ⟨⟨⟨x0, x1⟩, ⟨y0, y1⟩⟩, ok⟩ := x
        have hp := fun W => refPairD_any (y0, y1) p W
        simp only
        generalize pairD (y0, y1) p = s at *
        obtain ⟨s0, s1⟩ := s
        exact roots_less m (leftN m) b off c t.length n old.1 old.2 p.1 p.2 x0 x1 y0 y1 s0 s1 wh ok rfl hm2' hm (by omega) (by omega) hc1 hc2 w e0 e1 hb ih hp
      · rw [if_neg hnk]
        have ih := fun W (hW : Below w.heap.size w W) => roots_any t (n - leftN m) (m - leftN m) old false W _ (hv2.below hW) (by omega) (by omega) (by omega)
        rw [Int.natCast_sub (by omega), Int.natCast_sub (by omega)] at ih
        generalize rsR (n - leftN m) (m - leftN m) old t false = x at *
        obtain ⟨⟨⟨x0, x1⟩, ⟨y0, y1⟩⟩, ok⟩ := x
        have hp := fun W => refPairD_any p (x0, x1) W
        have hp2 := fun W => refPairD_any p (y0, y1) W
        simp only
        generalize pairD p (x0, x1) = s at *
        generalize pairD p (y0, y1) = u at *
        obtain ⟨s0, s1⟩ := s
        obtain ⟨u0, u1⟩ := u
        exact roots_more m (leftN m) b off c t.length n old.1 old.2 p.1 p.2 x0 x1 y0 y1 s0 s1 u0 u1 wh ok rfl hk hm2' hm (by omega) (by omega) hc1 hc2 w e0 e1 hb ih hp hp2
end Go.Proofs.Ytfheflihofafdaa
