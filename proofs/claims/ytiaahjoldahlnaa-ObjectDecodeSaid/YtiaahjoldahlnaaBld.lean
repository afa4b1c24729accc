/- A strings.Builder that holds a string: what is written to it, what it leaves as it was. -/
import Derived.Test.YtiaahjoldahlnaaCdPutText
import Derived.Test.YtiaahjoldahlnaaEncM
namespace Go.Proofs.Ytiaahjoldahlnaa
open Go.Shelf Go.RowKit

theorem strCells_app (s x : BA) : Lib.strCells (s ++ x) = Lib.strCells s ++ Lib.strCells x := by
  simp [Lib.strCells]
theorem strCells_none : Lib.strCells ⟨#[]⟩ = [] := rfl
/-- Rows of other types than bytes are as they were, all but one. -/
def Kept (b : Nat) (w w' : World) : Prop := ∀ (j : Nat) (cs : Array Value) (T : TypeId), w.heap[j]? = some (.cells cs T (0, 0)) → T ≠ 5 → j ≠ b → w'.heap[j]? = some (.cells cs T (0, 0))

set_option maxHeartbeats 2000000 in
set_option maxRecDepth 100000 in
theorem writeStr_any (B b : Nat) (s x : BA) (w : World) (h : Lib.IsBuilder 71 5 B b (Lib.strCells s) w) (hlen : s.size + x.size ≤ 140737488355328) (hBw : B ≤ w.heap.size) :
    Calls Try.prog 51 #[.pointer (some ⟨b, 0, none⟩), .string x] w fun e w' => e = .returned (.tuple #[.int .i64 x.size, .nilIface]) ∧ (Lib.IsBuilder 71 5 B b (Lib.strCells (s ++ x)) w' ∧ Below B w w' ∧ Kept b w w') := by
  obtain ⟨i0, hi, hz0, hz1, hz2⟩ := info_parts Cd.info5'
  rw [strCells_app]
  go_enter Try.func51, Try.ntmps51
  have cc : Calls Try.prog 76 #[.pointer (some ⟨b, 0, none⟩)] w fun e w' => e = .returned (.tuple #[]) ∧ (Lib.BuilderAt 71 5 B b (.pointer (some ⟨b, 0, none⟩)) (Lib.strCells s) w' ∧ Below B w w' ∧ Kept b w w') := by
    rcases h with h | h
    · refine (Cd.copyCheck_fresh b w h.cell0 h.shape h.frozen0).mono ?_
      rintro e w' ⟨rfl, rfl⟩
      exact ⟨rfl, h.used _, (Below.refl B w).setCell (p := ⟨b, 0, none⟩) h.1 _, fun j cs T hj _ hne => (Below.heap_setCell w ⟨b, 0, none⟩ _ j hne).trans hj⟩
    · refine (Cd.copyCheck_used b w h.cell0).mono ?_
      rintro e w' ⟨rfl, rfl⟩
      exact ⟨rfl, h, Below.refl B _, fun j cs T hj _ _ => hj⟩
  go_wp2_with (go_at_call 76; refine cc.mono ?_)
  rintro e w1 ⟨rfl, h1, hb1, k1⟩
  obtain ⟨hB, v, hbk, hown, hne⟩ := h1
  have c0 : w1.cell? ⟨b, 0, none⟩ = some (.pointer (some ⟨b, 0, none⟩)) := by rw [Lib.cell_of_heap hbk]; rfl
  have c1 : w1.cell? ⟨b, 1, none⟩ = some v := by rw [Lib.cell_of_heap hbk]; rfl
  have hK1 := Lib.hid k1
  clear k1 cc
  go_wp2_with (at_builtin; refine Lib.wpList_append_own_string _ rfl _ _ 69 9 rfl B 5 i0 Try.underlying69 Try.underlying9 hi hz0 hz1 hz2 _ _ _ rfl hown x rfl ?c3 ?c4 ?c5 ?_)
  case c3 => rw [Lib.strCells_length]; unfold maxLen; omega
  case c4 => rw [Lib.strCells_length]; omega
  case c5 => have := hb1.size; omega
  intro v' w2 hown' hgrow _
  have hb2 : w2.heap[b]? = some (.cells #[.pointer (some ⟨b, 0, none⟩), v] 71 (0, 0)) := by
    rw [hgrow.block b (lt_of_block hbk) (fun e => hne e.symm)]
    exact hbk
  have d0 : w2.cell? ⟨b, 0, none⟩ = some (.pointer (some ⟨b, 0, none⟩)) := by rw [Lib.cell_of_heap hb2]; rfl
  have d1 : w2.cell? ⟨b, 1, none⟩ = some v := by rw [Lib.cell_of_heap hb2]; rfl
  have f1 : w2.frozen? ⟨b, 1, none⟩ = false := Lib.frozen_of_heap hb2 1
  have K2 : Hid (∀ u, Kept b w (w2.setCell ⟨b, 1, none⟩ u)) := Lib.hid fun u j cs T hj hT hjb => by
    have h1 := hK1.out j cs T hj hT hjb
    refine (Below.heap_setCell w2 ⟨b, 1, none⟩ u j hjb).trans ?_
    rw [hgrow.block j (lt_of_block h1) (fun e => Lib.ownBlock_ne hown h1 hT e.symm)]
    exact h1
  obtain ⟨ao, n', cap, rfl⟩ : ∃ ao n' cap, v' = .slice ao n' cap := by
    rcases hown'.2 with ⟨hv, _⟩ | ⟨g, cap, cur, hv, _⟩
    · exact ⟨_, _, _, hv⟩
    · exact ⟨_, _, _, hv⟩
  go_wp2
  go_ret2
  refine ⟨rfl, .inr ?_, ?_, K2.out _⟩
  · exact Lib.BuilderAt.put (T := 71) (e := 5) hB hb2 (bs' := Lib.strCells s ++ Lib.strCells x) (by simpa [Lib.strCells_length] using hown') (by decide)
  · exact (hb1.grown hgrow (by have := hb1.size; omega) (fun k hk => (hown.lt k hk).1)).setCell (p := ⟨b, 1, none⟩) hB _

theorem bldStr_any (B b : Nat) (s : BA) (w : World) (h : Lib.IsBuilder 71 5 B b (Lib.strCells s) w) (hBw : B ≤ w.heap.size) :
    Calls Try.prog 56 #[.pointer (some ⟨b, 0, none⟩)] w fun e w' => e = .returned (.string s) ∧ Below B w w' := by
  refine (Try.Builder_String_any B b s.data.toList w h hBw).mono ?_
  rintro e w' ⟨rfl, hb⟩
  exact ⟨rfl, hb⟩
theorem pInt_k (k : Int) (m : Nat) (hk : k = m) (hm : m ≤ 1099511627776) (w : World) :
    Calls Try.prog 52 #[.int .i64 k] w fun e w' => e = .returned (.string (numS m)) ∧ Below w.heap.size w w' := by
  subst hk
  exact pInt_any m hm w
end Go.Proofs.Ytiaahjoldahlnaa
