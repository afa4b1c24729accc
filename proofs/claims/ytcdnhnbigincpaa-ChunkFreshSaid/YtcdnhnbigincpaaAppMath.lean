/- What is appended leaves all chunks but the last one. -/
import Derived.Test.YtcdnhnbigincpaaFresh
import Derived.Test.YtcdnhnbigincpaaLocMath
import Derived.Test.YtcdnhnbigincpaaMeet
namespace Go.Proofs.Ytcdnhnbigincpaa
open Go.RowKit

theorem ends_app {p : Pm} (hp : p.Ok) (B : List Nat) : ∀ (n : Nat) (A : List Nat), A.length = n →
    (ends tst p (A ++ B)).take ((ends tst p A).length - 1) = (ends tst p A).take ((ends tst p A).length - 1) ∧ (ends tst p A).length ≤ (ends tst p (A ++ B)).length := by
  intro n
  induction n using Nat.strongRecOn with
  | _ n ih =>
    intro A hn
    by_cases h0 : A.length = 0
    · rw [List.eq_nil_of_length_eq_zero h0, ends_nil]; simp
    obtain ⟨f, f1, f2, f3, f4, f5⟩ := ends_cons (tst := tst) hp A (by omega)
    obtain ⟨g, g1, g2, g3, g4, g5⟩ := ends_cons (tst := tst) hp (A ++ B) (by rw [List.length_append]; omega)
    have st := fun e (he : e ≤ A.length) (h : e < A.length ∨ stops tst p (A ++ B) 0 e ∨ e = A.length) => stops_take (tst := tst) (p := p) (A ++ B) A.length e he h (by rw [List.length_append]; omega)
    rw [List.take_left] at st
    by_cases hf : f = A.length
    · have e : ends tst p A = [f] := by rw [f5, hf, List.drop_length, ends_nil]; rfl
      rw [e, g5]; simp
    · have : g = f := by
        refine first_unique (l := A ++ B) (tst := tst) (p := p) g1 g3 g4 f1 ?_ (fun e e1 e2 h => f4 e e1 e2 ((st e (by omega) (.inl (by omega))).2 (.inl h)))
        exact ((st f f2 (.inl (by omega))).1 f3).resolve_right hf
      subst this
      have hd : (A ++ B).drop g = A.drop g ++ B := by rw [List.drop_append_of_le_length (by omega)]
      rw [hd] at g5
      obtain ⟨i1, i2⟩ := ih (A.drop g).length (by rw [List.length_drop]; omega) (A.drop g) rfl
      have hp1 := ends_pos hp (A.drop g) (by rw [List.length_drop]; omega)
      rw [f5, g5]
      simp only [List.length_cons, List.length_map, Nat.add_sub_cancel]
      refine ⟨?_, by omega⟩
      obtain ⟨m, hm⟩ : ∃ m, (ends tst p (A.drop g)).length = m + 1 := ⟨_, (Nat.sub_add_cancel hp1).symm⟩
      rw [hm, Nat.add_sub_cancel] at i1
      rw [hm, List.take_succ_cons, List.take_succ_cons, ← List.map_take, ← List.map_take, i1]

theorem freshN_zero (L : List ByteArray) : ∀ X, (∀ x ∈ X, x ∈ L) → freshN L X = 0
  | [], _ => rfl
  | x :: X, h => by
    rw [freshN, if_pos (hasB_iff.2 (h x List.mem_cons_self)), freshN_zero L X (fun y hy => h y (List.mem_cons_of_mem _ hy))]

/-- All that ChunkAppends asks. -/
theorem app_facts {p : Pm} (hp : p.Ok) (s t : ByteArray) (LA LT : List ByteArray) (hA : pieces s 0 (ends tst p (nats s)) = LA) (hT : pieces (s ++ t) 0 (ends tst p (nats (s ++ t))) = LT) :
    freshN LA LA = 0 ∧ LA.length ≤ LT.length ∧ LT.take (LA.length - 1) = LA.take (LA.length - 1) ∧ freshN LA LT ≤ s.size + t.size ∧ (∀ (h : 0 < LA.length), freshN LA LT ≤ (LA[LA.length - 1]'(by omega)).size + t.size) ∧ (LA.length = 0 → freshN LA LT ≤ t.size) := by
  have tA := total_all hp s
  have tT := total_all hp (s ++ t)
  rw [hA] at tA
  rw [hT, ByteArray.size_append] at tT
  have g := ends_good (tst := tst) hp (nats s)
  rw [nats_length] at g
  obtain ⟨e1, e2⟩ := ends_app hp (nats t) _ (nats s) rfl
  rw [← nats_append] at e1 e2
  have lA : LA.length = (ends tst p (nats s)).length := by rw [← hA, pieces_length]
  have lT : LT.length = (ends tst p (nats (s ++ t))).length := by rw [← hT, pieces_length]
  have pre : LT.take (LA.length - 1) = LA.take (LA.length - 1) := by
    have hs : (s ++ t).extract 0 s.size = s := by
      apply ByteArray.ext
      simp [ByteArray.data_extract, ByteArray.data_append]
    rw [lA, ← hT, ← hA, ← pieces_take, ← pieces_take, e1]
    have := pieces_cut (s ++ t) s.size ((ends tst p (nats s)).take ((ends tst p (nats s)).length - 1)) 0 (fun x hx => good_le _ _ g x (List.mem_of_mem_take hx))
    rw [← this, hs]
  have key : freshN LA LT + total (LA.take (LA.length - 1)) ≤ s.size + t.size := by
    have h1 : LT = LT.take (LA.length - 1) ++ LT.drop (LA.length - 1) := (List.take_append_drop _ _).symm
    have h2 := freshN_append LA (LT.take (LA.length - 1)) (LT.drop (LA.length - 1))
    have h3 := total_append (LT.take (LA.length - 1)) (LT.drop (LA.length - 1))
    rw [← h1] at h2 h3
    have h4 := freshN_zero LA (LT.take (LA.length - 1)) (fun x hx => by rw [pre] at hx; exact List.mem_of_mem_take hx)
    have h5 := freshN_le LA (LT.drop (LA.length - 1))
    rw [pre] at h3
    omega
  have last : total LA = total (LA.take (LA.length - 1)) + total (LA.drop (LA.length - 1)) := by
    rw [← total_append, List.take_append_drop]
  refine ⟨freshN_zero _ _ (fun _ h => h), by omega, pre, by omega, fun h => ?_, fun h => ?_⟩
  · have hd : LA.drop (LA.length - 1) = [LA[LA.length - 1]'(by omega)] := by
      rw [List.drop_eq_getElem_cons (by omega), List.drop_of_length_le (by omega)]
    rw [hd] at last
    simp only [total] at last
    omega
  · have : LA = [] := List.eq_nil_of_length_eq_zero h
    rw [this] at tA
    simp [total] at tA
    omega
end Go.Proofs.Ytcdnhnbigincpaa
