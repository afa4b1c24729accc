/- How parameters that come in read, at this translation; valid parameters. -/
import Derived.Test.YtcdnhnbigincpaaRows
import Derived.Test.YtcdnhnbigincpaaAwake
import Derived.WalkKit
import Derived.ProofKit
import Derived.OpenShut
import Derived.ShutString
import Derived.ChangeOld
import Derived.Below
import Derived.Deep.Grids
namespace Go.Proofs.Ytcdnhnbigincpaa
open Go.ChangeShapes Go.WideShapes Go.ChangeAt Go.RowKit
open Go.ChangeMaps (open_string shut_string)

theorem ownK : ownKnob Try.prog.godebug = none := by kernel_rfl
theorem laidOut : laidOutB Try.prog = true := by kernel_rfl
theorem cells23 : Try.prog.cellsOf 23 = 4 := by kernel_rfl
theorem cells3 : Try.prog.cellsOf 3 = 1 := by kernel_rfl

/-- Parameters that came in. -/
theorem open_chunking {H : Type} {enc : TypeId × Value → H} {W : World} {r : Reach} {base b0 : Nat} {spare : Nat → Bool} {held : Bool} {v : Value} {d : DataW H} {p : List MemPlace}
    (hv : Value.okWide Try.prog W r base 23 v) (h : DataW.Trod enc Try.prog W b0 spare held 23 v d p) : ∃ a b c e : Int, v = pv a b c e := by
  obtain ⟨cs, rfl, hsz, _⟩ : ∃ cs, v = .agg cs ∧ cs.size = Try.prog.cellsOf 23 ∧ Row.okWide Try.prog W r base 23 cs := by
    simpa [Value.okWide, Try.underlying23] using hv
  rw [cells23] at hsz
  obtain ⟨l⟩ := cs
  obtain ⟨c0, c1, c2, c3, rfl⟩ : ∃ c0 c1 c2 c3, l = [c0, c1, c2, c3] := by
    match l, hsz with
    | [a, b, c, e], _ => exact ⟨a, b, c, e, rfl⟩
  obtain ⟨fuel, hf⟩ := h
  cases fuel with
  | zero => simp [DataW.trod] at hf
  | succ m =>
    unfold DataW.trod at hf
    rw [Try.underlying23] at hf
    simp [cells23, cells3, Value.cells, Option.bind_eq_some_iff] at hf
    obtain ⟨_, _, h0, _, ⟨_, _, h1, _, ⟨_, _, h2, _, ⟨_, _, h3, _⟩, _⟩, _⟩, _⟩ := hf
    obtain ⟨_, e0, _, _⟩ := DataW.trod_int Try.underlying3 h0
    obtain ⟨_, e1, _, _⟩ := DataW.trod_int Try.underlying3 h1
    obtain ⟨_, e2, _, _⟩ := DataW.trod_int Try.underlying3 h2
    obtain ⟨_, e3, _, _⟩ := DataW.trod_int Try.underlying3 h3
    simp only [List.cons.injEq, and_true] at e0 e1 e2 e3
    subst e0 e1 e2 e3
    exact ⟨_, _, _, _, rfl⟩

/-- Valid parameters. -/
theorem chkP_zero {a b c d : Int} (h : chkP a b c d = 0) : ∃ p : Pm, p.Ok ∧ a = p.least ∧ b = p.most ∧ c = p.window ∧ d = p.bits := by
  have h' : ¬ (c < 1 ∨ a < c ∨ b < a ∨ 65536 < b ∨ d < 0 ∨ 16 < d) := by
    intro hn; rw [chkP, if_pos hn] at h; cases h
  refine ⟨⟨a.toNat, b.toNat, c.toNat, d.toNat⟩, ⟨?_, ?_, ?_, ?_, ?_⟩, ?_, ?_, ?_, ?_⟩ <;> simp only <;> omega
theorem chkA_one (a b c d : Int) (s : ByteArray) (hs : s.size ≤ 65536) : chkA a b c d [s] = chkP a b c d := by
  rw [chkA]
  by_cases h : chkP a b c d = 0
  · rw [if_neg (by simpa using h), if_neg, h]
    rintro ⟨y, hy, h⟩
    simp at hy
    subst hy
    omega
  · rw [if_pos h]
/-- What an end is like. -/
theorem good_mid {p : Pm} {len : Nat} : ∀ (E : List Nat) (b : Nat), Good p len b E → ∀ j (hj : j < E.length), lst b (E.take j) < E[j] ∧ E[j] ≤ len ∧ E[j] - lst b (E.take j) ≤ p.most ∧ (j + 1 ≠ E.length → p.least ≤ E[j] - lst b (E.take j)) ∧ lst b (E.take (j + 1)) = E[j]
  | [], _, _, j, hj => absurd hj (Nat.not_lt_zero _)
  | e :: E, b, h, 0, _ => by
    obtain ⟨h1, h2, h3, h4, h5⟩ := h
    refine ⟨h1, h2, h3, fun hne => h4 ?_, rfl⟩
    rintro rfl
    exact hne rfl
  | e :: E, b, h, j + 1, hj => by
    have := good_mid E e h.2.2.2.2 j (by simpa using hj)
    simp only [List.length_cons] at hj ⊢
    simp only [List.getElem_cons_succ, List.take_succ_cons, lst]
    obtain ⟨k1, k2, k3, k4, k5⟩ := this
    exact ⟨k1, k2, k3, fun hne => k4 (by omega), k5⟩
theorem good_end {p : Pm} {len : Nat} : ∀ (E : List Nat) (b : Nat), Good p len b E → lst b E = len
  | [], _, h => h
  | e :: E, _, h => good_end E e h.2.2.2.2
theorem pieces_get (s : ByteArray) : ∀ (E : List Nat) (b j : Nat) (hj : j < E.length), (pieces s b E)[j]'(by rw [pieces_length]; exact hj) = s.extract (lst b (E.take j)) E[j]
  | [], _, _, hj => absurd hj (Nat.not_lt_zero _)
  | e :: E, b, 0, _ => rfl
  | e :: E, b, j + 1, hj => by
    simp only [pieces, List.getElem_cons_succ, List.take_succ_cons, lst]
    exact pieces_get s E e j (by simpa using hj)
end Go.Proofs.Ytcdnhnbigincpaa
