/- The chapter's examples, at this translation. -/
import Derived.Test.YtcdnhnbigincpaaSplit
import Derived.Test.YtcdnhnbigincpaaSame
namespace Go.Proofs.Ytcdnhnbigincpaa
open Go.RowKit

def ex1 : Pm := ⟨1, 3, 1, 0⟩
def ex2 : Pm := ⟨2, 2, 1, 16⟩
theorem ex1_ok : ex1.Ok := ⟨by decide, by decide, by decide, by decide, by decide⟩
theorem ex2_ok : ex2.Ok := ⟨by decide, by decide, by decide, by decide, by decide⟩
def sA : List ByteArray := [⟨#[97]⟩, ⟨#[98]⟩, ⟨#[99]⟩]
def sB : List ByteArray := [⟨#[97, 98]⟩, ⟨#[99, 100]⟩, ⟨#[101]⟩]
theorem ex1_is : pieces ⟨#[97, 98, 99]⟩ 0 (ends tst ex1 (nats ⟨#[97, 98, 99]⟩)) = sA := by decide
theorem ex2_is : pieces ⟨#[97, 98, 99, 100, 101]⟩ 0 (ends tst ex2 (nats ⟨#[97, 98, 99, 100, 101]⟩)) = sB := by decide

theorem strs_built (w : World) (a b c : ByteArray) : IsStrs (w.alloc (.cells #[.string a, .string b, .string c] 9)) (.slice (some ⟨w.heap.size, 0, none⟩) 3 3) [a, b, c] := by
  refine ⟨_, 3, rfl, by show 3 ≤ maxLen; decide, Nat.le_refl _, .inr ⟨w.heap.size, 0, rfl, by simp, fun j hj => ?_⟩⟩
  match j, hj with
  | 0, _ => simp [World.cell?_alloc_new]
  | 1, _ => simp [World.cell?_alloc_new]
  | 2, _ => simp [World.cell?_alloc_new]

set_option maxRecDepth 100000 in
set_option maxHeartbeats 4000000 in
theorem awake_any (w : World) : Calls Try.prog 9 #[] w fun e w' => e = .returned (.bool true) ∧ Below w.heap.size w w' := by
  have S1 : ∀ W, Calls Try.prog 10 #[.string ⟨#[97, 98, 99]⟩, pv 1 3 1 0] W fun e w' => ∃ v, e = .returned (.tuple #[v, .int .i64 0]) ∧ IsStrs w' v sA ∧ Below W.heap.size W w' := fun W => by
    have := split_ok ex1 ex1_ok ⟨#[97, 98, 99]⟩ (by decide) W
    rw [ex1_is] at this
    exact this
  have S2 : ∀ W, Calls Try.prog 10 #[.string ⟨#[97, 98, 99, 100, 101]⟩, pv 2 2 1 16] W fun e w' => ∃ v, e = .returned (.tuple #[v, .int .i64 0]) ∧ IsStrs w' v sB ∧ Below W.heap.size W w' := fun W => by
    have := split_ok ex2 ex2_ok ⟨#[97, 98, 99, 100, 101]⟩ (by decide) W
    rw [ex2_is] at this
    exact this
  have HS1 := Lib.hid S1
  have HS2 := Lib.hid S2
  clear S1 S2
  go_enter Try.func9, Try.ntmps9
  go_wp2_with fail
  ((with_reducible refine (HS1.out _).mono ?_); rintro e w1 ⟨v1, rfl, d1, hb1⟩)
  go_wp2_with fail
  ((with_reducible refine (HS2.out _).mono ?_); rintro e w2 ⟨v2, rfl, d2, hb2⟩)
  have B2 := hb1.trans (hb2.mono hb1.size)
  have d1 := Lib.hid (d1.below hb2 (Nat.le_refl _))
  have d2 := Lib.hid d2
  clear hb1 hb2
  go_wp2_with fail
  have Ba := B2.alloc B2.size (.cells #[.string ⟨#[97]⟩, .string ⟨#[98]⟩, .string ⟨#[99]⟩] 9)
  have ka := (Below.refl w2.heap.size w2).alloc (Nat.le_refl _) (.cells #[.string ⟨#[97]⟩, .string ⟨#[98]⟩, .string ⟨#[99]⟩] 9)
  ((with_reducible refine (sameS_any sA _ _ _ (d1.out.below ka (Nat.le_refl _)) (strs_built w2 _ _ _)).mono ?_); rintro e w3 ⟨rfl, hb3⟩)
  have B3 := Ba.trans (hb3.mono Ba.size)
  have d3 := Lib.hid ((d2.out.below ka (Nat.le_refl _)).below hb3 (Nat.le_refl _))
  go_wp2_with fail
  have Bb := B3.alloc B3.size (.cells #[.string ⟨#[97, 98]⟩, .string ⟨#[99, 100]⟩, .string ⟨#[101]⟩] 9)
  have kb := (Below.refl w3.heap.size w3).alloc (Nat.le_refl _) (.cells #[.string ⟨#[97, 98]⟩, .string ⟨#[99, 100]⟩, .string ⟨#[101]⟩] 9)
  ((with_reducible refine (sameS_any sB _ _ _ (d3.out.below kb (Nat.le_refl _)) (strs_built w3 _ _ _)).mono ?_); rintro e w4 ⟨rfl, hb4⟩)
  have B4 := Bb.trans (hb4.mono Bb.size)
  go_wp2
  go_ret
  exact ⟨rfl, B4⟩
end Go.Proofs.Ytcdnhnbigincpaa
