/- For every three texts ConflictUndo returns true and leaves its arguments as they were: two different changes of a value yield a conflict with two sides, and when either is taken back, the value of the other one is left. No condition. -/
import Derived.Test.YtgnkfikihjjpeaaLawUndo
import Derived.Test.YtgnkfikihjjpeaaOpen
namespace Go.Proofs.Ytgnkfikihjjpeaa
open Go.ChangeShapes Go.WideShapes Go.ChangeAt Go.RowKit
open Go.ChangeMaps (open_string shut_string)

theorem undo_any (x y z : BA) (hx : x.size ≤ maxLen) (hy : y.size ≤ maxLen) (hz : z.size ≤ maxLen) (w : World) : Calls Try.prog 8 #[.string x, .string y, .string z] w fun e w' => e = .returned (.bool true) ∧ Below w.heap.size w w' := by
  by_cases h1 : 100 < x.size
  · exact undo_out x y z ⟨hx, hy, hz⟩ (.inl h1) w
  by_cases h2 : 100 < y.size
  · exact undo_out x y z ⟨hx, hy, hz⟩ (.inr (.inl h2)) w
  by_cases h3 : 100 < z.size
  · exact undo_out x y z ⟨hx, hy, hz⟩ (.inr (.inr (.inl h3))) w
  by_cases h4 : x = y
  · exact undo_out x y z ⟨hx, hy, hz⟩ (.inr (.inr (.inr (.inl h4)))) w
  by_cases h5 : y = z
  · exact undo_out x y z ⟨hx, hy, hz⟩ (.inr (.inr (.inr (.inr (.inl h5))))) w
  by_cases h6 : x = z
  · exact undo_out x y z ⟨hx, hy, hz⟩ (.inr (.inr (.inr (.inr (.inr h6))))) w
  exact undo_main x y z (by omega) (by omega) (by omega) h4 h5 h6 w

set_option maxRecDepth 100000 in
theorem undo_lifted (os : Os) (started : os.Started) (H : Type) (enc : TypeId × Value → H) :
    ReturnsInHanded {} Try.checked os 8 .any (Rows.conflictUndoSpec.pre6 enc Try.prog Try.f8 Rows.conflictUndoRow.domain false) (Rows.conflictUndoSpec.post enc Try.prog Try.f8 false true false false) := by
  refine returnsInHanded_of_change (C := Try.checked) ownK started (by kernel_rfl) Try.func8
    (ChangeSpec.witness6 (enc := enc) (C := Try.checked) false ⟨#[], #[.string ⟨#[]⟩, .string ⟨#[]⟩, .string ⟨#[]⟩], []⟩ 8 (by kernel_rfl) (by kernel_rfl) (by kernel_rfl) (by kernel_rfl)) ?_
  intro W base args ds gs before hval0 hW hcnd _
  have hval : ∀ (j : Nat) t v, Try.f8.params[j]? = some t → args[j]? = some v → Value.okWide Try.prog W .any base t v := hval0
  have hW' := hW
  obtain ⟨p, q, hA0, hV, rfl, hfz, hnd⟩ := hW
  have hA : DataW.TrodAll enc Try.prog W 0 (fun _ => true) true Try.f8.params.toList args.toList ds p := hA0
  rw [Try.params8] at hA hval
  obtain ⟨v0, v1, v2, d0, d1, d2, p0, p1, p2, rfl, rfl, rfl, h0, h1, h2⟩ := trodAll_three hA
  obtain ⟨rfl, rfl⟩ := trodVars_none hV
  obtain ⟨x, rfl, rfl, rfl, w0⟩ := open_string Try.underlying9 (hval 0 9 v0 rfl rfl) h0
  obtain ⟨y, rfl, rfl, rfl, w1⟩ := open_string Try.underlying9 (hval 1 9 v1 rfl rfl) h1
  obtain ⟨z, rfl, rfl, rfl, w2⟩ := open_string Try.underlying9 (hval 2 9 v2 rfl rfl) h2
  clear hA0 hval0
  refine (undo_any x y z w0 w1 w2 W).mono fun e W' ⟨he, bel⟩ => ?_
  subst he
  exact ⟨_, rfl, _, _, _, [], _, [], hW', trodAll_mk1 (shut_bool Try.underlying4 _), (trodAll_cons_mk (shut_string Try.underlying9 w0) (trodAll_cons_mk (shut_string Try.underlying9 w1) (trodAll_cons_mk (shut_string Try.underlying9 w2) trodAll_mk0))), rfl, bel.frame _, fun h => by cases h⟩

theorem undo_holds : Rows.ConflictUndoSaid :=
  OpenClaim.holds_of_wide 8 Try.f8 rfl rfl rfl rfl rfl rfl rfl ⟨rfl, rfl, rfl, rfl, rfl⟩ rfl rfl rfl rfl rfl (by kernel_rfl) Try.func8 (by kernel_rfl)
    (of_decide_eq_true (by kernel_rfl)) (by unfold Func.isWrapper; rw [if_neg (of_decide_eq_false (by kernel_rfl))]; exact ⟨rfl, rfl⟩)
    (fun os started H enc _ => undo_lifted os started H enc)
#print axioms undo_holds
end Go.Proofs.Ytgnkfikihjjpeaa
