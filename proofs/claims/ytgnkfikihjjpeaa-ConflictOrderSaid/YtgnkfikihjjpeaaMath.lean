/- Sums of texts: signed counts, ascending lists, and when two of them are the same. -/
import Derived.Sort.Walk0
import Derived.Lib.Strings
import Derived.Shelf.Spec.SearchS
namespace Go.Proofs.Ytgnkfikihjjpeaa

abbrev BA := ByteArray
instance lawfulBA : LawfulBEq ByteArray where
  eq_of_beq {a b} h := (Go.MapKept.bytes_beq a b).1 h
  rfl {a} := (Go.MapKept.bytes_beq a a).2 rfl
theorem toList_inj {x y : BA} (h : x.toList = y.toList) : x = y := by
  rw [ByteArray.toList_eq, ByteArray.toList_eq] at h
  exact ByteArray.ext (Array.toList_inj.1 h)
/-- The order of texts. -/
def bl (x y : BA) : Bool := Op.bytesLess x.toList y.toList
theorem bl_lt (x y : BA) : bl x y = true ↔ x.toList < y.toList := by
  unfold bl; rw [Go.Proofs.bytesLess_eq]; simp
theorem bl_le (x y : BA) : bl y x = false ↔ x.toList ≤ y.toList := by
  unfold bl; rw [Go.Proofs.bytesLess_eq]; simp [List.not_lt]
theorem bl_irr (x : BA) : bl x x = false := (bl_le x x).2 (List.le_refl _)
theorem le_tr {x y z : BA} (h1 : bl y x = false) (h2 : bl z y = false) : bl z x = false :=
  (bl_le x z).2 (List.le_trans ((bl_le x y).1 h1) ((bl_le y z).1 h2))
theorem le_anti {x y : BA} (h1 : bl y x = false) (h2 : bl x y = false) : x = y :=
  toList_inj (List.le_antisymm ((bl_le x y).1 h1) ((bl_le y x).1 h2))
theorem lt_le {x y : BA} (h : bl x y = true) : bl y x = false := (bl_le x y).2 (List.le_of_lt ((bl_lt x y).1 h))
theorem lt_of_le_ne {x y : BA} (h : bl y x = false) (hn : x ≠ y) : bl x y = true := by
  cases e : bl x y
  · exact absurd (le_anti h e) hn
  · rfl

/-- Ascending. -/
def asc (L : List BA) : Prop := L.Pairwise fun a b => bl b a = false
theorem asc_cons {x : BA} {t : List BA} (h : asc t) (hx : ∀ y, t.head? = some y → bl y x = false) : asc (x :: t) := by
  refine List.pairwise_cons.2 ⟨fun z hz => ?_, h⟩
  cases t with
  | nil => simp at hz
  | cons y t =>
    have h0 := hx y rfl
    rcases List.mem_cons.1 hz with rfl | hz
    · exact h0
    · exact le_tr h0 ((List.pairwise_cons.1 h).1 z hz)
theorem asc_ext {L M : List BA} (h1 : asc L) (h2 : asc M) (h : ∀ x, L.count x = M.count x) : L = M :=
  List.Perm.eq_of_pairwise (le := fun a b => bl b a = false) (fun _ _ _ _ => le_anti) h1 h2 (List.perm_iff_count.2 h)

/-- A sum: what it adds, and what it removes. -/
structure Sm where
  A : List BA
  R : List BA
theorem Sm.ext' {S T : Sm} (h1 : S.A = T.A) (h2 : S.R = T.R) : S = T := by cases S; cases T; simp at h1 h2; rw [h1, h2]
def cnt (S : Sm) (x : BA) : Int := (S.A.count x : Int) - (S.R.count x : Int)
structure Norm (S : Sm) : Prop where
  a : asc S.A
  r : asc S.R
  d : ∀ x, x ∈ S.A → x ∉ S.R
theorem Norm.zero {S : Sm} (h : Norm S) (x : BA) : S.A.count x = 0 ∨ S.R.count x = 0 := by
  by_cases hx : x ∈ S.A
  · exact .inr (List.count_eq_zero.2 (h.d x hx))
  · exact .inl (List.count_eq_zero.2 hx)
theorem Norm.ext {S T : Sm} (h1 : Norm S) (h2 : Norm T) (h : ∀ x, cnt S x = cnt T x) : S = T := by
  refine Sm.ext' (asc_ext h1.a h2.a fun x => ?_) (asc_ext h1.r h2.r fun x => ?_)
  all_goals
    have e := h x
    have a := h1.zero x
    have b := h2.zero x
    unfold cnt at e
    omega

theorem count_le_length : ∀ (l m : List BA), (∀ x, l.count x ≤ m.count x) → l.length ≤ m.length
  | [], _, _ => Nat.zero_le _
  | x :: l, m, h => by
    have hx : x ∈ m := by
      have := h x
      rw [List.count_cons_self] at this
      exact List.count_pos_iff.1 (by omega)
    have := count_le_length l (m.erase x) fun y => by
      have := h y
      rw [List.count_cons] at this
      rw [List.count_erase]
      omega
    rw [List.length_erase_of_mem hx] at this
    have := List.length_pos_of_mem hx
    simp; omega

/-- M is the sum of L and R without B. -/
structure Mrg (B L R M : Sm) : Prop where
  n : Norm M
  c : ∀ x, cnt M x = cnt L x + cnt R x - cnt B x
theorem Mrg.uniq {B L R M N : Sm} (h1 : Mrg B L R M) (h2 : Mrg B L R N) : M = N := h1.n.ext h2.n fun x => by rw [h1.c, h2.c]
theorem Mrg.length {B L R M : Sm} (h : Mrg B L R M) : M.A.length + L.R.length + R.R.length + B.A.length = M.R.length + L.A.length + R.A.length + B.R.length := by
  have := List.Perm.length_eq (l₁ := M.A ++ (L.R ++ (R.R ++ B.A))) (l₂ := M.R ++ (L.A ++ (R.A ++ B.R))) (List.perm_iff_count.2 fun x => by
    have := h.c x
    unfold cnt at this
    simp only [List.count_append]
    omega)
  simp only [List.length_append] at this
  omega
theorem Mrg.most {B L R M : Sm} (h : Mrg B L R M) : M.A.length ≤ L.A.length + R.A.length + B.R.length := by
  have := count_le_length M.A (L.A ++ (R.A ++ B.R)) fun x => by
    have h1 := h.c x
    have h2 := h.n.zero x
    unfold cnt at h1
    simp only [List.count_append]
    omega
  simp only [List.length_append] at this
  omega
theorem Mrg.memA {B L R M : Sm} (h : Mrg B L R M) {x : BA} (hx : x ∈ M.A) : x ∈ L.A ∨ x ∈ R.A ∨ x ∈ B.R := by
  have h1 := h.c x
  have h2 := h.n.zero x
  have h3 := List.count_pos_iff.2 hx
  unfold cnt at h1
  simp only [← List.count_pos_iff]
  omega
theorem Mrg.memR {B L R M : Sm} (h : Mrg B L R M) {x : BA} (hx : x ∈ M.R) : x ∈ L.R ∨ x ∈ R.R ∨ x ∈ B.A := by
  have h1 := h.c x
  have h2 := h.n.zero x
  have h3 := List.count_pos_iff.2 hx
  unfold cnt at h1
  simp only [← List.count_pos_iff]
  omega
theorem Mrg.comm {B L R M : Sm} (h : Mrg B L R M) : Mrg B R L M := ⟨h.n, fun x => by rw [h.c]; omega⟩
theorem Mrg.base_left {B R M : Sm} (h : Mrg B B R M) (hR : Norm R) : M = R := h.n.ext hR fun x => by rw [h.c]; omega
theorem Mrg.base_right {B L M : Sm} (h : Mrg B L B M) (hL : Norm L) : M = L := h.n.ext hL fun x => by rw [h.c]; omega

/-- The terms of these keys, each as often as its count says. -/
def mk (f : BA → Int) (K : List BA) : Sm := ⟨K.flatMap fun x => List.replicate (f x).toNat x, K.flatMap fun x => List.replicate (-f x).toNat x⟩
theorem count_flat (g : BA → Nat) : ∀ (K : List BA), K.Nodup → ∀ x, (K.flatMap fun y => List.replicate (g y) y).count x = if x ∈ K then g x else 0
  | [], _, x => by simp
  | y :: K, hK, x => by
    have hK' := List.nodup_cons.1 hK
    rw [List.flatMap_cons, List.count_append, count_flat g K hK'.2 x, List.count_replicate]
    by_cases e : x = y
    · subst e
      simp [hK'.1]
    · simp [e, Ne.symm e]
theorem asc_flat (g : BA → Nat) {K : List BA} (hK : asc K) : asc (K.flatMap fun y => List.replicate (g y) y) := by
  unfold asc
  rw [List.pairwise_flatMap]
  refine ⟨fun a _ => ?_, hK.imp fun {a b} h x hx y hy => ?_⟩
  · rw [List.pairwise_replicate]
    exact .inr (bl_irr a)
  · rw [List.eq_of_mem_replicate hx, List.eq_of_mem_replicate hy]
    exact h
theorem mk_norm (f : BA → Int) {K : List BA} (hK : asc K) (hn : K.Nodup) : Norm (mk f K) := by
  refine ⟨asc_flat _ hK, asc_flat _ hK, fun x h1 h2 => ?_⟩
  have h1 := List.count_pos_iff.2 h1
  have h2 := List.count_pos_iff.2 h2
  simp only [mk] at h1 h2
  rw [count_flat _ K hn] at h1 h2
  split at h1
  · rename_i e
    rw [if_pos e] at h2
    omega
  · omega
theorem mk_cnt (f : BA → Int) {K : List BA} (hn : K.Nodup) (h0 : ∀ x, f x ≠ 0 → x ∈ K) (x : BA) : cnt (mk f K) x = f x := by
  unfold cnt
  simp only [mk]
  rw [count_flat _ K hn, count_flat _ K hn]
  by_cases e : x ∈ K
  · simp only [e, if_true]; omega
  · simp only [e, if_false]
    have : f x = 0 := Decidable.byContradiction fun h => e (h0 x h)
    omega

/-- Why a list of texts is not valid, behind a text. -/
def chkFrom : Option BA → List BA → Int
  | _, [] => 0
  | none, x :: t => if 65536 < x.size then 4 else chkFrom (some x) t
  | some y, x :: t => if 65536 < x.size then 4 else if bl x y = true then 10 else chkFrom (some x) t
/-- Why a list of texts is not valid. -/
def chkT (L : List BA) : Int := chkFrom none L
/-- The text ahead of an index. -/
def prv (L : List BA) : Nat → Option BA
  | 0 => none
  | j + 1 => L[j]?
theorem chk_end {L : List BA} {j : Nat} (h : L.length ≤ j) (p : Option BA) : chkFrom p (L.drop j) = 0 := by
  rw [List.drop_eq_nil_of_le h]; cases p <;> rfl
theorem chk_zero {L : List BA} (h : 0 < L.length) : chkFrom (prv L 0) (L.drop 0) = if 65536 < L[0].size then 4 else chkFrom (prv L 1) (L.drop 1) := by
  cases L with
  | nil => simp at h
  | cons x t => rfl
theorem chk_succ {L : List BA} {j : Nat} (h : j + 1 < L.length) : chkFrom (prv L (j + 1)) (L.drop (j + 1)) = if 65536 < L[j + 1].size then 4 else if bl L[j + 1] L[j] = true then 10 else chkFrom (prv L (j + 2)) (L.drop (j + 2)) := by
  rw [List.drop_eq_getElem_cons h]
  simp only [prv, List.getElem?_eq_getElem (show j < L.length by omega), List.getElem?_eq_getElem h]
  rfl
theorem chkFrom_zero : ∀ (p : Option BA) (L : List BA), chkFrom p L = 0 ↔ (∀ x ∈ L, x.size ≤ 65536) ∧ asc L ∧ (∀ y, p = some y → ∀ x, L.head? = some x → bl x y = false)
  | p, [] => by cases p <;> simp [chkFrom, asc]
  | none, x :: t => by
    rw [chkFrom]
    by_cases h : 65536 < x.size
    · simp only [h, if_true]
      exact ⟨fun e => absurd e (by decide), fun e => absurd (e.1 x (by simp)) (by omega)⟩
    · rw [if_neg h, chkFrom_zero]
      constructor
      · rintro ⟨h1, h2, h3⟩
        refine ⟨by simpa using ⟨by omega, h1⟩, asc_cons h2 (h3 x rfl), by simp⟩
      · rintro ⟨h1, h2, h3⟩
        refine ⟨fun y hy => h1 y (by simp [hy]), (List.pairwise_cons.1 h2).2, ?_⟩
        rintro y e z hz
        cases e
        exact (List.pairwise_cons.1 h2).1 z (List.mem_of_head? hz)
  | some y, x :: t => by
    rw [chkFrom]
    by_cases h : 65536 < x.size
    · simp only [h, if_true]
      exact ⟨fun e => absurd e (by decide), fun e => absurd (e.1 x (by simp)) (by omega)⟩
    · rw [if_neg h]
      by_cases h' : bl x y = true
      · simp only [h', if_true]
        exact ⟨fun e => absurd e (by decide), fun e => absurd (e.2.2 y rfl x rfl) (by simp [h'])⟩
      rw [if_neg h', chkFrom_zero]
      constructor
      · rintro ⟨h1, h2, h3⟩
        refine ⟨by simpa using ⟨by omega, h1⟩, asc_cons h2 (h3 x rfl), ?_⟩
        intro z e u hu
        cases e; cases hu
        simpa using h'
      · rintro ⟨h1, h2, h3⟩
        refine ⟨fun y hy => h1 y (by simp [hy]), (List.pairwise_cons.1 h2).2, ?_⟩
        rintro y e z hz
        cases e
        exact (List.pairwise_cons.1 h2).1 z (List.mem_of_head? hz)
theorem chkT_zero (L : List BA) : chkT L = 0 ↔ (∀ x ∈ L, x.size ≤ 65536) ∧ asc L := by
  unfold chkT; rw [chkFrom_zero]; simp

/-- Why a sum is not valid. -/
def chk (S : Sm) : Int :=
  if S.A.length ≠ S.R.length + 1 then 11 else if 1000 < S.A.length then 4 else if chkT S.A ≠ 0 then chkT S.A else if chkT S.R ≠ 0 then chkT S.R else
    if (S.R.any fun x => decide (x ∈ S.A)) = true then 7 else 0
/-- A valid sum. -/
structure Ok (S : Sm) : Prop where
  l : S.A.length = S.R.length + 1
  m : S.A.length ≤ 1000
  n : Norm S
  a : ∀ x ∈ S.A, x.size ≤ 65536
  r : ∀ x ∈ S.R, x.size ≤ 65536
theorem chk_ok (S : Sm) : chk S = 0 ↔ Ok S := by
  unfold chk
  by_cases h1 : S.A.length ≠ S.R.length + 1
  · rw [if_pos h1]; exact ⟨fun e => absurd e (by decide), fun e => absurd e.l h1⟩
  rw [if_neg h1]
  by_cases h2 : 1000 < S.A.length
  · rw [if_pos h2]; exact ⟨fun e => absurd e (by decide), fun e => absurd e.m (by omega)⟩
  rw [if_neg h2]
  by_cases h3 : chkT S.A ≠ 0
  · rw [if_pos h3]; exact ⟨fun e => absurd e h3, fun e => absurd ((chkT_zero _).2 ⟨e.a, e.n.a⟩) h3⟩
  rw [if_neg h3]
  by_cases h4 : chkT S.R ≠ 0
  · rw [if_pos h4]; exact ⟨fun e => absurd e h4, fun e => absurd ((chkT_zero _).2 ⟨e.r, e.n.r⟩) h4⟩
  rw [if_neg h4]
  by_cases h5 : (S.R.any fun x => decide (x ∈ S.A)) = true
  · rw [if_pos h5]
    obtain ⟨x, hx, hx2⟩ := List.any_eq_true.1 h5
    exact ⟨fun e => absurd e (by decide), fun e => absurd hx (e.n.d x (by simpa using hx2))⟩
  rw [if_neg h5]
  have a := (chkT_zero _).1 (Decidable.not_not.1 h3)
  have r := (chkT_zero _).1 (Decidable.not_not.1 h4)
  refine ⟨fun _ => ⟨by omega, by omega, ⟨a.2, r.2, fun x hx hr => h5 (List.any_eq_true.2 ⟨x, hr, by simpa using hx⟩)⟩, a.1, r.1⟩, fun _ => rfl⟩
/-- The search in an ascending list. -/
theorem search_asc {A : List BA} (hA : asc A) (x : BA) (k : Nat) (hk : k = Lib.bsGo (fun t => Op.bytesLess (A.getD t x).toList x.toList) A.length 0 A.length) : decide (k < A.length ∧ A.getD k x = x) = decide (x ∈ A) := by
  obtain ⟨m, hm, h1, h2⟩ : ∃ m, m ≤ A.length ∧ (∀ t (h : t < A.length), t < m → bl A[t] x = true) ∧ ∀ t (h : t < A.length), m ≤ t → bl A[t] x = false := by
    clear hk
    induction A with
    | nil => exact ⟨0, Nat.le_refl _, fun t h => absurd h (Nat.not_lt_zero _), fun t h => absurd h (Nat.not_lt_zero _)⟩
    | cons y A ih =>
      have hp := List.pairwise_cons.1 hA
      obtain ⟨m, hm, h1, h2⟩ := ih hp.2
      by_cases hy : bl y x = true
      · refine ⟨m + 1, by simpa using hm, ?_, ?_⟩
        · intro t ht htm
          cases t with
          | zero => exact hy
          | succ t => exact h1 t (by simpa using ht) (by omega)
        · intro t ht htm
          cases t with
          | zero => omega
          | succ t => exact h2 t (by simpa using ht) (by omega)
      · have hy : bl y x = false := by simpa using hy
        refine ⟨0, Nat.zero_le _, fun t _ h => absurd h (Nat.not_lt_zero _), fun t ht _ => ?_⟩
        cases t with
        | zero => exact hy
        | succ t => exact le_tr hy (hp.1 _ (List.getElem_mem (by simpa using ht)))
  have hkm : k = m := by
    rw [hk]
    refine Lib.bsGo_spec _ m (fun t ht => ?_) (fun t ht => ?_) _ _ _ (by omega) (Nat.zero_le _) hm
    · have := h1 t (by omega) ht
      simpa [bl, List.getD_eq_getElem?_getD, List.getElem?_eq_getElem (show t < A.length by omega)] using this
    · by_cases hl : t < A.length
      · have := h2 t hl ht
        simpa [bl, List.getD_eq_getElem?_getD, List.getElem?_eq_getElem hl] using this
      · have e : A.getD t x = x := by rw [List.getD_eq_getElem?_getD, List.getElem?_eq_none (by omega)]; rfl
        rw [e]
        exact bl_irr x
  clear hk
  subst hkm
  rw [decide_eq_decide]
  constructor
  · rintro ⟨a, b⟩
    rw [List.getD_eq_getElem?_getD, List.getElem?_eq_getElem a] at b
    exact b ▸ List.getElem_mem a
  · intro hx
    obtain ⟨i, hi, e⟩ := List.getElem_of_mem hx
    have hki : k ≤ i := by
      refine Decidable.byContradiction fun h => ?_
      have := h1 i hi (by omega)
      rw [e, bl_irr] at this
      cases this
    have hk : k < A.length := by omega
    refine ⟨hk, ?_⟩
    rw [List.getD_eq_getElem?_getD, List.getElem?_eq_getElem hk]
    show A[k] = x
    refine le_anti ?_ (h2 k hk (Nat.le_refl _))
    rw [← e]
    rcases Nat.eq_or_lt_of_le hki with rfl | h
    · exact bl_irr _
    · exact List.pairwise_iff_getElem.1 hA k i hk hi h
end Go.Proofs.Ytgnkfikihjjpeaa
