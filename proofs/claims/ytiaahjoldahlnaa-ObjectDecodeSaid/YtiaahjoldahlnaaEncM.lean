/- The encoding of an object, and what valid fields are, at this translation. -/
import Derived.Test.YtiaahjoldahlnaaParts
import Derived.Test.YtiaahjoldahlnaaBytes
namespace Go.Proofs.Ytiaahjoldahlnaa
open Go.RowKit Go.Great

/-- Strings one behind another. -/
def catS : List BA → BA
  | [] => ⟨#[]⟩
  | x :: t => x ++ catS t
theorem app_assoc (x y z : BA) : x ++ y ++ z = x ++ (y ++ z) := ByteArray.append_assoc
theorem app_empty (x : BA) : x ++ ⟨#[]⟩ = x := by apply ByteArray.ext; simp
theorem empty_app (x : BA) : (⟨#[]⟩ : BA) ++ x = x := by apply ByteArray.ext; simp
theorem catS_snoc (L : List BA) (x : BA) : catS (L ++ [x]) = catS L ++ x := by
  induction L with
  | nil => simp [catS, app_empty, empty_app]
  | cons y t ih => simp only [List.cons_append, catS, ih, app_assoc]
theorem catS_le (L : List BA) (m : Nat) (h : ∀ x ∈ L, x.size ≤ m) : (catS L).size ≤ L.length * m := by
  induction L with
  | nil => simp [catS]; rfl
  | cons y t ih =>
    have h1 := h y (by simp)
    have h2 := ih (fun x hx => h x (by simp [hx]))
    rw [catS, ByteArray.size_append, List.length_cons, Nat.add_mul]
    omega
theorem catS_take {α : Type} (f : α → BA) (L : List α) (j : Nat) (h : j < L.length) : catS ((L.take (j + 1)).map f) = catS ((L.take j).map f) ++ f L[j] := by
  rw [List.take_succ_eq_append_getElem h, List.map_append, List.map_singleton, catS_snoc]
theorem catS_take_le {α : Type} (f : α → BA) (L : List α) (m : Nat) (h : ∀ x ∈ L, (f x).size ≤ m) (j : Nat) : (catS ((L.take j).map f)).size ≤ L.length * m := by
  refine Nat.le_trans (catS_le _ m fun x hx => ?_) ?_
  · obtain ⟨y, hy, rfl⟩ := List.mem_map.1 hx
    exact h y (List.mem_of_mem_take hy)
  · rw [List.length_map]
    exact Nat.mul_le_mul_right _ (by rw [List.length_take]; omega)

theorem isName_le {s : BA} (h : isName s = true) : s.size ≤ 24 := by
  unfold isName isChars at h
  simp only [Bool.and_eq_true, decide_eq_true_eq] at h
  exact h.1.1.2
theorem ents_names (p : Option BA) (L : List Ent) (h : entsFrom p L = 0) : ∀ x ∈ L, isName x.name = true := by
  induction L generalizing p with
  | nil => simp
  | cons y t ih =>
    unfold entsFrom at h
    intro x hx
    by_cases h1 : isName y.name = false
    · rw [if_pos h1] at h; cases h
    · rw [if_neg h1] at h
      have h3 : (if y.dig = (0, 0) then 1 else entsFrom (some y.name) t) = 0 := by
        cases p with
        | none => simpa using h
        | some z =>
          simp only at h
          cases hb : bl z y.name with
          | false => simp [hb] at h
          | true => simpa [hb] using h
      by_cases h4 : y.dig = (0, 0)
      · rw [if_pos h4] at h3; cases h3
      · rw [if_neg h4] at h3
        rcases List.mem_cons.1 hx with rfl | hx
        · simpa using h1
        · exact ih _ h3 x hx
theorem chkEnts_ok {L : List Ent} (h : chkEnts L = 0) : L.length ≤ 200 ∧ ∀ x ∈ L, x.name.size ≤ 24 := by
  unfold chkEnts at h
  by_cases h1 : 200 < L.length
  · rw [if_pos h1] at h; cases h
  · rw [if_neg h1] at h
    exact ⟨by omega, fun x hx => isName_le (ents_names _ _ h x hx)⟩
theorem chkCommit_ok {o : Ob} (h : chkCommit o = 0) : o.tree ≠ (0, 0) ∧ o.pars.length ≤ 8 ∧ parsFrom o.pars 0 = 0 ∧ isName o.author = true ∧ 0 ≤ o.time ∧ o.time ≤ 1099511627776 ∧ o.msg.size ≤ 200 := by
  unfold chkCommit at h
  split at h
  · cases h
  rename_i h1
  split at h
  · cases h
  rename_i h2
  split at h
  · rename_i h3; exact absurd h h3
  rename_i h3
  split at h
  · cases h
  rename_i h4
  split at h
  · cases h
  rename_i h5
  split at h
  · cases h
  rename_i h6
  exact ⟨h1, by omega, by omega, by simpa using h4, by omega, by omega, by omega⟩

/-- What objects with valid fields are. -/
theorem chkFields_ok {o : Ob} (h : chkFields o = 0) :
    ((o.kind = 1 ∨ o.kind = 4) ∧ bare o = true ∧ o.ents.length = 0) ∨ (o.kind = 2 ∧ bare o = true ∧ o.data = ⟨#[]⟩ ∧ chkEnts o.ents = 0) ∨ (o.kind = 3 ∧ o.data = ⟨#[]⟩ ∧ o.ents.length = 0 ∧ chkCommit o = 0) := by
  unfold chkFields at h
  split at h
  · rename_i h1
    split at h
    · rename_i h2; exact .inl ⟨h1, h2.1, h2.2⟩
    · cases h
  split at h
  · rename_i h1
    split at h
    · rename_i h2; exact .inr (.inl ⟨h1, h2.1, h2.2, h⟩)
    · cases h
  split at h
  · rename_i h1
    split at h
    · rename_i h2; exact .inr (.inr ⟨h1, h2.1, h2.2, h⟩)
    · cases h
  · cases h

/-- An entry's bytes. -/
def entS (x : Ent) : BA := txtS x.name ++ numS (b01 x.dir) ++ dgS x.dig.1 x.dig.2
def digS (d : Dig) : BA := dgS d.1 d.2
theorem dgS_size (a b : Nat) : (dgS a b).size = 16 := by rw [dgS, ByteArray.size_append, s8_size, s8_size]
theorem digS_size (d : Dig) : (digS d).size = 16 := dgS_size _ _
theorem txtS_le (s : BA) (m : Nat) (h : s.size ≤ m) (hm : m ≤ 65536) : (txtS s).size ≤ m + 6 := by
  rw [txtS_size]
  have := Cd.enc6 s.size (by omega)
  omega
theorem b01_le (b : Bool) : b01 b ≤ 1 := by cases b <;> decide
theorem entS_le (x : Ent) (h : x.name.size ≤ 24) : (entS x).size ≤ 60 := by
  have h1 := txtS_le x.name 24 h (by omega)
  have h2 := numS_le (b01 x.dir) (by have := b01_le x.dir; omega)
  rw [entS, ByteArray.size_append, ByteArray.size_append, dgS_size]
  omega
/-- What stands ahead of the parents, and behind them. -/
def comHead (o : Ob) : BA := digS o.tree ++ numS o.pars.length
def comTail (au : BA) (ti : Nat) (ms : BA) : BA := txtS au ++ numS ti ++ txtS ms
/-- The encoding. -/
def encS (o : Ob) : BA :=
  if o.kind = 2 then numS 2 ++ numS o.ents.length ++ catS (o.ents.map entS)
  else if o.kind = 3 then numS 3 ++ comHead o ++ catS (o.pars.map digS) ++ comTail o.author o.time.toNat o.msg
  else numS o.kind.toNat ++ txtS o.data
end Go.Proofs.Ytiaahjoldahlnaa
