/- Objects, names and why an object is not valid. -/
import Derived.Sort.Walk0
import Derived.Lib.Strings
import Derived.Shelf.Spec.SearchS
namespace Go.Proofs.Ytiaahjoldahlnaa

abbrev BA := ByteArray
instance lawfulBA : LawfulBEq ByteArray where
  eq_of_beq {a b} h := (Go.MapKept.bytes_beq a b).1 h
  rfl {a} := (Go.MapKept.bytes_beq a a).2 rfl
theorem toList_inj {x y : BA} (h : x.toList = y.toList) : x = y := by
  rw [ByteArray.toList_eq, ByteArray.toList_eq] at h
  exact ByteArray.ext (Array.toList_inj.1 h)
theorem str_eq (x y : BA) : (x.toList == y.toList) = decide (x = y) := by
  by_cases h : x = y
  · subst h; simp
  · rw [decide_eq_false h]
    exact beq_eq_false_iff_ne.2 fun e => h (toList_inj e)
def bl (x y : BA) : Bool := Op.bytesLess x.toList y.toList
theorem bl_lt (x y : BA) : bl x y = true ↔ x.toList < y.toList := by
  unfold bl; rw [Go.Proofs.bytesLess_eq]; simp
theorem bl_le (x y : BA) : bl y x = false ↔ x.toList ≤ y.toList := by
  unfold bl; rw [Go.Proofs.bytesLess_eq]; simp [List.not_lt]

/-- A byte of a name. -/
def nameByte (c : Nat) : Bool := decide (97 ≤ c ∧ c ≤ 122) || decide (65 ≤ c ∧ c ≤ 90) || decide (48 ≤ c ∧ c ≤ 57) || decide (c = 46) || decide (c = 95) || decide (c = 45)
/-- All bytes from an index on are bytes of names. -/
def charsFrom (s : BA) (j : Nat) : Bool := (s.data.toList.drop j).all fun b => nameByte b.toNat
theorem chars_step (s : BA) (j : Nat) (h : j < s.size) : charsFrom s j = (nameByte (s[j]'h).toNat && charsFrom s (j + 1)) := by
  unfold charsFrom
  have h' : j < s.data.toList.length := by simpa using h
  rw [List.drop_eq_getElem_cons h', List.all_cons]
  rfl
theorem chars_end (s : BA) (j : Nat) (h : s.size ≤ j) : charsFrom s j = true := by
  unfold charsFrom
  rw [List.drop_eq_nil_of_le (by simpa using h)]
  rfl
/-- A string of name bytes of the right length. -/
def isChars (s : BA) : Bool := charsFrom s 0 && decide (1 ≤ s.size) && decide (s.size ≤ 24)
def dot1 : BA := ⟨#[46]⟩
def dot2 : BA := ⟨#[46, 46]⟩
def isName (s : BA) : Bool := isChars s && !decide (s = dot1) && !decide (s = dot2)

abbrev Dig := Nat × Nat
structure Ent where
  name : BA
  dir : Bool
  dig : Dig
structure Ob where
  kind : Int
  data : BA
  ents : List Ent
  tree : Dig
  pars : List Dig
  author : BA
  time : Int
  msg : BA
/-- Why entries are not valid, behind one. -/
def entsFrom : Option BA → List Ent → Int
  | _, [] => 0
  | p, x :: t => if isName x.name = false then 6 else if (match p with | none => false | some y => !bl y x.name) = true then 10 else if x.dig = (0, 0) then 1 else entsFrom (some x.name) t
def chkEnts (L : List Ent) : Int := if 200 < L.length then 4 else entsFrom none L
/-- Why parents are not valid, from an index on. -/
def parsFrom (L : List Dig) (j : Nat) : Int :=
  if h : j < L.length then (if L[j] = (0, 0) then 1 else if L[j] ∈ L.take j then 7 else parsFrom L (j + 1)) else 0
  termination_by L.length - j
def chkCommit (o : Ob) : Int :=
  if o.tree = (0, 0) then 1 else if 8 < o.pars.length then 4 else if parsFrom o.pars 0 ≠ 0 then parsFrom o.pars 0 else if isName o.author = false then 6 else if o.time < 0 ∨ 1099511627776 < o.time then 2 else if 200 < o.msg.size then 4 else 0
/-- No field but these. -/
def bare (o : Ob) : Bool := decide (o.tree = (0, 0)) && decide (o.pars.length = 0) && decide (o.author = ⟨#[]⟩) && decide (o.time = 0) && decide (o.msg = ⟨#[]⟩)
def chkFields (o : Ob) : Int :=
  if o.kind = 1 ∨ o.kind = 4 then (if bare o = true ∧ o.ents.length = 0 then 0 else 1)
  else if o.kind = 2 then (if bare o = true ∧ o.data = ⟨#[]⟩ then chkEnts o.ents else 1)
  else if o.kind = 3 then (if o.data = ⟨#[]⟩ ∧ o.ents.length = 0 then chkCommit o else 1)
  else 9
end Go.Proofs.Ytiaahjoldahlnaa
