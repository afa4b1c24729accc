/- The pieces up to an end, and from an end on. -/
import Derived.Test.YtcdnhnbigincpaaOpen
namespace Go.Proofs.Ytcdnhnbigincpaa
open Go.RowKit

theorem nats_extract (s : ByteArray) (a b : Nat) : nats (s.extract a b) = ((nats s).take b).drop a := by
  simp only [nats, ByteArray.data_extract, Array.toList_extract, List.extract_eq_take_drop, List.map_drop, List.map_take]
  rw [List.drop_take]
theorem nats_to (s : ByteArray) (e : Nat) : nats (s.extract 0 e) = (nats s).take e := by rw [nats_extract, List.drop_zero]
theorem nats_from (s : ByteArray) (e : Nat) : nats (s.extract e s.size) = (nats s).drop e := by
  rw [nats_extract, List.take_of_length_le (by rw [nats_length]; exact Nat.le_refl _)]

theorem good_le {p : Pm} {len : Nat} : ∀ (E : List Nat) (b : Nat), Good p len b E → ∀ x ∈ E, x ≤ len
  | [], _, _, _, hx => by simp at hx
  | e :: E, _, h, x, hx => by
    rcases List.mem_cons.1 hx with rfl | hx
    · exact h.2.1
    · exact good_le E e h.2.2.2.2 x hx
theorem pieces_cut (s : ByteArray) (e : Nat) : ∀ (E : List Nat) (b : Nat), (∀ x ∈ E, x ≤ e) → pieces (s.extract 0 e) b E = pieces s b E
  | [], _, _ => rfl
  | x :: E, b, h => by
    rw [pieces, pieces, pieces_cut s e E x (fun y hy => h y (List.mem_cons_of_mem _ hy)), ByteArray.extract_extract]
    have := h x List.mem_cons_self
    congr 2 <;> omega
theorem pieces_from (s : ByteArray) (e : Nat) : ∀ (E : List Nat) (b : Nat), (∀ x ∈ E, x + e ≤ s.size) → pieces (s.extract e s.size) b E = pieces s (b + e) (E.map (· + e))
  | [], _, _ => rfl
  | x :: E, b, h => by
    rw [pieces, List.map_cons, pieces, pieces_from s e E x (fun y hy => h y (List.mem_cons_of_mem _ hy)), ByteArray.extract_extract]
    have := h x List.mem_cons_self
    congr 2 <;> omega
theorem pieces_take (s : ByteArray) : ∀ (E : List Nat) (b m : Nat), pieces s b (E.take m) = (pieces s b E).take m
  | [], _, m => by cases m <;> rfl
  | x :: E, b, 0 => rfl
  | x :: E, b, m + 1 => by rw [List.take_succ_cons, pieces, pieces, List.take_succ_cons, pieces_take s E x m]

/-- Up to an end. -/
theorem pieces_to_end {p : Pm} (hp : p.Ok) (s : ByteArray) (E : List Nat) (hE : ends tst p (nats s) = E) (k : Nat) (hk : k < E.length) :
    pieces (s.extract 0 E[k]) 0 (ends tst p (nats (s.extract 0 E[k]))) = (pieces s 0 E).take (k + 1) := by
  subst hE
  have g := ends_good (tst := tst) hp (nats (s.extract 0 (ends tst p (nats s))[k]))
  obtain ⟨i1, _⟩ := ends_split (tst := tst) hp _ (nats s) rfl k hk
  rw [nats_to] at g ⊢
  rw [i1] at g ⊢
  rw [pieces_cut, pieces_take]
  intro x hx
  have := good_le _ _ g x hx
  rw [List.length_take] at this
  omega
/-- From an end on. -/
theorem pieces_from_end {p : Pm} (hp : p.Ok) (s : ByteArray) (E : List Nat) (hE : ends tst p (nats s) = E) (k : Nat) (hk : k < E.length) :
    pieces (s.extract E[k] s.size) 0 (ends tst p (nats (s.extract E[k] s.size))) = (pieces s 0 E).drop (k + 1) := by
  subst hE
  have g0 := ends_good (tst := tst) hp (nats s)
  obtain ⟨_, g2, _, _, g5⟩ := good_mid _ 0 g0 k hk
  have g := ends_good (tst := tst) hp (nats (s.extract (ends tst p (nats s))[k] s.size))
  obtain ⟨_, i2⟩ := ends_split (tst := tst) hp _ (nats s) rfl k hk
  rw [nats_from] at g ⊢
  have hb : ∀ x ∈ ends tst p (List.drop (ends tst p (nats s))[k] (nats s)), x + (ends tst p (nats s))[k] ≤ s.size := by
    intro x hx
    have := good_le _ _ g x hx
    rw [List.length_drop, nats_length] at this
    rw [nats_length] at g2
    omega
  rw [pieces_from _ _ _ _ hb, Nat.zero_add]
  have e : pieces s 0 (ends tst p (nats s)) = (pieces s 0 (ends tst p (nats s))).take (k + 1) ++ pieces s (ends tst p (nats s))[k] ((ends tst p (List.drop (ends tst p (nats s))[k] (nats s))).map (· + (ends tst p (nats s))[k])) := by
    conv => lhs; rw [i2]
    rw [pieces_append, pieces_take, g5]
  have l1 : ((pieces s 0 (ends tst p (nats s))).take (k + 1)).length = k + 1 := by rw [List.length_take, pieces_length]; omega
  have key : ∀ (A B C : List ByteArray), C = A ++ B → A.length = k + 1 → B = C.drop (k + 1) := by
    rintro A B _ rfl h
    rw [← h, List.drop_left]
  exact key _ _ _ e l1
theorem ends_pos {p : Pm} (hp : p.Ok) (l : List Nat) (h : 0 < l.length) : 0 < (ends tst p l).length := by
  obtain ⟨f, _, _, _, _, e⟩ := ends_cons (tst := tst) hp l h
  rw [e]; simp

/-- A part of a slice of strings. -/
theorem strs_to {W : World} {a : Option Addr} {cap : Nat} {L : List ByteArray} (h : IsStrs W (.slice a L.length cap) L) (m : Nat) (hm : m ≤ L.length) : IsStrs W (.slice a m cap) (L.take m) := by
  obtain ⟨a', cap', e, h1, h2, h3⟩ := h
  cases e
  have hl : (L.take m).length = m := by rw [List.length_take]; omega
  refine ⟨a, cap, by rw [hl], by omega, by omega, ?_⟩
  rcases h3 with rfl | ⟨b, off, rfl, hb, hc⟩
  · left; simp
  · right
    exact ⟨b, off, rfl, hb, fun j hj => by rw [hc j (by omega), List.getElem_take]⟩
theorem strs_from {W : World} {b off cap : Nat} {L : List ByteArray} (h : IsStrs W (.slice (some ⟨b, off, none⟩) L.length cap) L) (m : Nat) (hm : m ≤ L.length) : IsStrs W (.slice (some ⟨b, off + m, none⟩) (L.length - m) (cap - m)) (L.drop m) := by
  obtain ⟨a', cap', e, h1, h2, h3⟩ := h
  cases e
  have hl : (L.drop m).length = L.length - m := by rw [List.length_drop]
  refine ⟨_, cap - m, by rw [hl], by omega, by omega, ?_⟩
  rcases h3 with rfl | ⟨b', off', e, hb, hc⟩
  · left; simp
  · right
    cases e
    exact ⟨b, off + m, rfl, hb, fun j hj => by rw [List.getElem_drop, Nat.add_assoc]; exact hc (m + j) (by omega)⟩
theorem strs_none (W : World) (a : Option Addr) (cap : Nat) : IsStrs W (.slice a 0 cap) [] := ⟨a, cap, rfl, Nat.zero_le _, Nat.zero_le _, .inl rfl⟩
end Go.Proofs.Ytcdnhnbigincpaa
