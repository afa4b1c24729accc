/- The chapter's examples, at this translation. -/
import Derived.Test.YtpkggijjjpefbaaPutText
namespace Go.Proofs.Ytpkggijjjpefbaa
open Go.RowKit Go.Shelf

theorem isStrs_built (w w' : World) (x y : ByteArray) (hB : Below (w.heap.size + 1) (w.alloc (.cells #[.string x, .string y] 9)) w') : IsStrs w' (.slice (some ⟨w.heap.size, 0, none⟩) 2 2) [x, y] := by
  refine ⟨_, 2, rfl, by show 2 ≤ maxLen; decide, Nat.le_refl _, .inr ⟨w.heap.size, 0, rfl, by have := hB.size; simp at this; omega, fun j hj => ?_⟩⟩
  rw [hB.cell (p := ⟨w.heap.size, 0 + j, none⟩) (by simp)]
  have hj : j < 2 := hj
  match j, hj with
  | 0, _ => simp [World.cell?_alloc_new]
  | 1, _ => simp [World.cell?_alloc_new]

theorem ex_300 : strN (enc7 300) = ⟨#[172, 2]⟩ := by
  rw [enc7_big 300 (by omega), enc7_small _ (by omega)]; rfl
theorem ex_texts : strN (encTs [⟨#[]⟩, ⟨#[97, 98]⟩]) = ⟨#[2, 0, 2, 97, 98]⟩ := by
  show strN (enc7 2 ++ (enc7 0 ++ [] ++ (enc7 2 ++ [97, 98] ++ []))) = _
  rw [enc7_small 2 (by omega), enc7_small 0 (by omega)]; rfl
theorem ex_zero : getL 12 13 6 0 0 (nats ⟨#[128, 0]⟩) = (0, 0, 13) := by
  show getL 12 13 6 0 0 [128, 0] = _
  decide

set_option maxHeartbeats 2000000 in
theorem awake_any (w : World) : Calls Try.prog 11 #[] w fun e w' => e = .returned (.bool true) ∧ Below w.heap.size w w' := by
  have E1 := Lib.hid ex_300
  have E2 := Lib.hid ex_texts
  have E3 := Lib.hid ex_zero
  go_enter Try.func11, Try.ntmps11
  go_wp2_with fail
  ((with_reducible refine (putInt_good 300 300 rfl (by omega) _).mono ?_); rintro e w1 ⟨he, b1⟩)
  rw [E1.out] at he
  subst he
  go_wp2_with fail
  refine (putTexts_good [⟨#[]⟩, ⟨#[97, 98]⟩] (by decide) (by decide) _ _ (isStrs_built w1 _ ⟨#[]⟩ ⟨#[97, 98]⟩ (Below.refl _ _))).mono ?_
  rintro e w2 ⟨he, b2⟩
  rw [E2.out] at he
  subst he
  go_wp2_with fail
  ((with_reducible refine (getInt_any ⟨#[128, 0]⟩ 0 0 13 E3.out _).mono ?_); rintro e w3 ⟨rfl, b3⟩)
  go_wp2
  go_ret
  have B2 := (b1.alloc b1.size (.cells #[.string ⟨#[]⟩, .string ⟨#[97, 98]⟩] 9)).trans (b2.mono (b1.alloc b1.size _).size)
  exact ⟨rfl, B2.trans (b3.mono B2.size)⟩
end Go.Proofs.Ytpkggijjjpefbaa
