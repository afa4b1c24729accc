/- Digests, entries and objects in memory, at this translation. -/
import Derived.Test.YtiaahjoldahlnaaNames
import Derived.Below
import Derived.OwnWalkIn
import Derived.Maps.AppendAt
namespace Go.Proofs.Ytiaahjoldahlnaa
open Go.RowKit Go.Great

/-- Two digests are compared number by number. -/
theorem eq_arr (a b c d : Int) (w : World) : (Op.equalIn 10000 25 (.agg #[.int .u64 a, .int .u64 b]) (.agg #[.int .u64 c, .int .u64 d])).run Try.prog w = .ok (a == c && b == d) w := by
  have hi := fun (n : Nat) (x y : Int) (w : World) => run_equalIn_int (P := Try.prog) w n 23 .u64 .u64 x y Try.underlying23
  show (Op.equalIn (9998 + 1 + 1) 25 _ _).run Try.prog w = _
  generalize 9998 = n
  unfold Op.equalIn
  simp [go_sem, run_underlying Try.underlying25, Try.sizeOf23]
  rw [show List.range' 0 2 = [0, 1] from rfl]
  simp only [List.forIn_cons, List.forIn_nil]
  cases h1 : (a == c) <;> cases h2 : (b == d) <;> simp [go_sem, Try.isAgg23, hi, h1, h2]
attribute [local go_sem] eq_arr

abbrev dgv (d : Dig) : Value := .agg #[.int .u64 d.1, .int .u64 d.2]
/-- A slice whose cells are these digests. -/
def IsDigs (w : World) (v : Value) (L : List Dig) : Prop :=
  ∃ a cap, v = .slice a L.length cap ∧ L.length ≤ maxLen ∧ L.length ≤ cap ∧ (L = [] ∨ ∃ b off, a = some ⟨b, off, none⟩ ∧ b < w.heap.size ∧ ∀ j (h : j < L.length), w.cell? ⟨b, off + j * 2, none⟩ = some (.int .u64 L[j].1) ∧ w.cell? ⟨b, off + j * 2 + 1, none⟩ = some (.int .u64 L[j].2))
theorem IsDigs.below {w w' : World} {v : Value} {L : List Dig} {B : Nat} (h : IsDigs w v L) (hB : Below B w w') (hz : w.heap.size ≤ B) : IsDigs w' v L := by
  obtain ⟨a, cap, e, h1, h2, h3⟩ := h
  refine ⟨a, cap, e, h1, h2, h3.imp id ?_⟩
  rintro ⟨b, off, e2, hb, hj⟩
  have c : ∀ o, w'.cell? ⟨b, o, none⟩ = w.cell? ⟨b, o, none⟩ := fun o => hB.cell (p := ⟨b, o, none⟩) (show b < B by omega)
  exact ⟨b, off, e2, Nat.lt_of_lt_of_le hb hB.size, fun j h => ⟨(c _).trans (hj j h).1, (c _).trans (hj j h).2⟩⟩
theorem isDigs_nil (w : World) : IsDigs w (.slice none 0 0) [] := ⟨none, 0, rfl, Nat.zero_le _, Nat.zero_le _, .inl rfl⟩
/-- The four cells of an entry. -/
def EntAt (w : World) (b off : Nat) (x : Ent) : Prop :=
  w.cell? ⟨b, off, none⟩ = some (.string x.name) ∧ w.cell? ⟨b, off + 1, none⟩ = some (.bool x.dir) ∧ w.cell? ⟨b, off + 2, none⟩ = some (.int .u64 x.dig.1) ∧ w.cell? ⟨b, off + 3, none⟩ = some (.int .u64 x.dig.2)
theorem EntAt.below {w w' : World} {b off : Nat} {x : Ent} {B : Nat} (h : EntAt w b off x) (hB : Below B w w') (hb : b < B) : EntAt w' b off x :=
  ⟨(hB.cell (p := ⟨b, _, none⟩) hb).trans h.1, (hB.cell (p := ⟨b, _, none⟩) hb).trans h.2.1, (hB.cell (p := ⟨b, _, none⟩) hb).trans h.2.2.1, (hB.cell (p := ⟨b, _, none⟩) hb).trans h.2.2.2⟩
/-- A slice whose cells are these entries. -/
def IsEnts (w : World) (v : Value) (L : List Ent) : Prop :=
  ∃ a cap, v = .slice a L.length cap ∧ L.length ≤ maxLen ∧ L.length ≤ cap ∧ (L = [] ∨ ∃ b off, a = some ⟨b, off, none⟩ ∧ b < w.heap.size ∧ ∀ j (h : j < L.length), EntAt w b (off + j * 4) L[j])
theorem IsEnts.below {w w' : World} {v : Value} {L : List Ent} {B : Nat} (h : IsEnts w v L) (hB : Below B w w') (hz : w.heap.size ≤ B) : IsEnts w' v L := by
  obtain ⟨a, cap, e, h1, h2, h3⟩ := h
  refine ⟨a, cap, e, h1, h2, h3.imp id ?_⟩
  rintro ⟨b, off, e2, hb, hj⟩
  exact ⟨b, off, e2, Nat.lt_of_lt_of_le hb hB.size, fun j h => (hj j h).below hB (by omega)⟩
theorem isEnts_nil (w : World) : IsEnts w (.slice none 0 0) [] := ⟨none, 0, rfl, Nat.zero_le _, Nat.zero_le _, .inl rfl⟩

abbrev ov (k : Int) (d : BA) (ve : Value) (t : Dig) (vp : Value) (au : BA) (ti : Int) (ms : BA) : Value :=
  .agg #[.int .i64 k, .string d, ve, .int .u64 t.1, .int .u64 t.2, vp, .string au, .int .i64 ti, .string ms]
abbrev oc (k : Int) (d : BA) (ve : Value) (t : Dig) (vp : Value) (au : BA) (ti : Int) (ms : BA) : Obj :=
  .cells #[.int .i64 k, .string d, ve, .int .u64 t.1, .int .u64 t.2, vp, .string au, .int .i64 ti, .string ms] 28
/-- An object's value. -/
def IsOb (w : World) (v : Value) (o : Ob) : Prop := ∃ ve vp, v = ov o.kind o.data ve o.tree vp o.author o.time o.msg ∧ IsEnts w ve o.ents ∧ IsDigs w vp o.pars
theorem IsOb.below {w w' : World} {v : Value} {o : Ob} {B : Nat} (h : IsOb w v o) (hB : Below B w w') (hz : w.heap.size ≤ B) : IsOb w' v o := by
  obtain ⟨vs, vp, e, h1, h2⟩ := h
  exact ⟨vs, vp, e, h1.below hB hz, h2.below hB hz⟩
/-- Strings that fit into memory. -/
def Ob.Fit (o : Ob) : Prop := o.data.size ≤ maxLen ∧ o.author.size ≤ maxLen ∧ o.msg.size ≤ maxLen ∧ (∀ x ∈ o.ents, x.name.size ≤ maxLen)

theorem empty_list : (⟨#[]⟩ : BA).toList = [] := by rw [ByteArray.toList_eq]
theorem eq_empty (s : BA) : (s.toList == []) = decide (s = ⟨#[]⟩) := by
  have := str_eq s ⟨#[]⟩
  rwa [empty_list] at this

/-- What remains of an object is nothing. -/
def restOk (d : BA) (n1 : Nat) (t : Dig) (n2 : Nat) (au : BA) (ti : Int) (ms : BA) : Prop :=
  t = (0, 0) ∧ n2 = 0 ∧ au = ⟨#[]⟩ ∧ ti = 0 ∧ ms = ⟨#[]⟩ ∧ d = ⟨#[]⟩ ∧ n1 = 0

set_option maxHeartbeats 2000000 in
theorem rest_ok (k : Int) (a b : Option Addr) (c1 c2 : Nat) (w : World) :
    Calls Try.prog 41 #[ov k ⟨#[]⟩ (.slice a 0 c1) (0, 0) (.slice b 0 c2) ⟨#[]⟩ 0 ⟨#[]⟩] w fun e w' => e = .returned (.int .i64 0) ∧ Below w.heap.size w w' := by
  have hB := (Below.refl w.heap.size w).alloc (Nat.le_refl _) (oc k ⟨#[]⟩ (.slice a 0 c1) (0, 0) (.slice b 0 c2) ⟨#[]⟩ 0 ⟨#[]⟩)
  go_enter Try.func41, Try.ntmps41
  go_wp2
  go_ret
  exact ⟨rfl, hB⟩

set_option maxHeartbeats 4000000 in
theorem rest_bad (k : Int) (d : BA) (a b : Option Addr) (n1 c1 n2 c2 : Nat) (t : Dig) (au : BA) (ti : Int) (ms : BA) (_hn1 : n1 ≤ maxLen) (_hn2 : n2 ≤ maxLen) (h : ¬ restOk d n1 t n2 au ti ms) (w : World) :
    Calls Try.prog 41 #[ov k d (.slice a n1 c1) t (.slice b n2 c2) au ti ms] w fun e w' => e = .returned (.int .i64 1) ∧ Below w.heap.size w w' := by
  have hB := (Below.refl w.heap.size w).alloc (Nat.le_refl _) (oc k d (.slice a n1 c1) t (.slice b n2 c2) au ti ms)
  unfold maxLen at _hn1 _hn2
  obtain ⟨t1, t2⟩ := t
  by_cases h1 : t1 = 0 ∧ t2 = 0
  · obtain ⟨rfl, rfl⟩ := h1
    by_cases h2 : n2 = 0
    · subst h2
      by_cases h3 : au = ⟨#[]⟩
      · subst h3
        by_cases h4 : ti = 0
        · subst h4
          by_cases h5 : ms = ⟨#[]⟩
          · subst h5
            by_cases h6 : d = ⟨#[]⟩
            · subst h6
              have h7 : ¬ n1 = 0 := fun h7 => h ⟨rfl, rfl, rfl, rfl, rfl, rfl, h7⟩
              have e7 : ((n1 : Int) != 0) = true := by simp; omega
              clear h
              go_enter Try.func41, Try.ntmps41
              go_wp2
              go_ret
              exact ⟨rfl, hB⟩
            · have e6 : (d.toList == []) = false := by rw [eq_empty]; simp [h6]
              clear h h6
              go_enter Try.func41, Try.ntmps41
              go_wp2
              go_ret
              exact ⟨rfl, hB⟩
          · have e5 : (ms.toList == []) = false := by rw [eq_empty]; simp [h5]
            clear h h5
            go_enter Try.func41, Try.ntmps41
            go_wp2
            go_ret
            exact ⟨rfl, hB⟩
        · have e4 : (ti == 0) = false := by simp [h4]
          clear h
          go_enter Try.func41, Try.ntmps41
          go_wp2
          go_ret
          exact ⟨rfl, hB⟩
      · have e3 : (au.toList == []) = false := by rw [eq_empty]; simp [h3]
        clear h h3
        go_enter Try.func41, Try.ntmps41
        go_wp2
        go_ret
        exact ⟨rfl, hB⟩
    · have e2 : ((n2 : Int) == 0) = false := by simp; omega
      clear h
      go_enter Try.func41, Try.ntmps41
      go_wp2
      go_ret
      exact ⟨rfl, hB⟩
  · have e1 : (((t1 : Nat) : Int) == 0 && ((t2 : Nat) : Int) == 0) = false := by simp; omega
    clear h h1
    go_enter Try.func41, Try.ntmps41
    go_wp2
    go_ret
    exact ⟨rfl, hB⟩
end Go.Proofs.Ytiaahjoldahlnaa
