/- For every sum and four texts ConflictOrder returns true and leaves its arguments as they were: two changes of values are merged with a sum in either order with the same result, unless both sides are equal in one of these merges. No condition. -/
import Derived.Test.YtgnkfikihjjpeaaOrd2
import Derived.Test.YtgnkfikihjjpeaaOpen
namespace Go.Proofs.Ytgnkfikihjjpeaa
open Go.ChangeShapes Go.WideShapes Go.ChangeAt Go.RowKit
open Go.ChangeMaps (open_string shut_string)

theorem cells44 : Try.prog.cellsOf 44 = 4 := by kernel_rfl
set_option maxRecDepth 100000 in
/-- Four texts that came in. -/
theorem open_quad {H : Type} {enc : TypeId × Value → H} {W : World} {r : Reach} {base : Nat} {b0 : Nat} {held : Bool} {v : Value} {d : DataW H} {p : List MemPlace}
    (hv : Value.okWide Try.prog W r base 44 v) (h : DataW.Trod enc Try.prog W b0 (fun _ => true) held 44 v d p) : ∃ c : Nat → BA, v = .agg #[.string (c 0), .string (c 1), .string (c 2), .string (c 3)] ∧ (∀ k, (c k).size ≤ maxLen) ∧ ∀ k, 4 ≤ k → c k = ⟨#[]⟩ := by
  obtain ⟨cs, rfl, hsz, _⟩ : ∃ cs, v = .agg cs ∧ cs.size = Try.prog.cellsOf 44 ∧ Row.okWide Try.prog W r base 44 cs := by
    simpa [Value.okWide, Try.underlying44] using hv
  rw [cells44] at hsz
  obtain ⟨l⟩ := cs
  obtain ⟨c0, c1, c2, c3, rfl⟩ : ∃ c0 c1 c2 c3, l = [c0, c1, c2, c3] := by
    match l, hsz with
    | [a, b, c, d], _ => exact ⟨a, b, c, d, rfl⟩
  obtain ⟨fuel, hf⟩ := h
  obtain ⟨xs, m, _, hx, _, hl, hi⟩ := DataW.trod_array Try.underlying44 hf
  obtain ⟨y0, y1, y2, y3, rfl⟩ : ∃ y0 y1 y2 y3, xs = [y0, y1, y2, y3] := by
    match xs, hl with
    | [a, b, c, d], _ => exact ⟨a, b, c, d, rfl⟩
  have h0 := hi 0 (by omega)
  have h1 := hi 1 (by omega)
  have h2 := hi 2 (by omega)
  have h3 := hi 3 (by omega)
  simp [cells9, Value.cells] at h0 h1 h2 h3
  obtain ⟨x0, e0, _, w0⟩ := DataW.trod_string Try.underlying9 h0
  obtain ⟨x1, e1, _, w1⟩ := DataW.trod_string Try.underlying9 h1
  obtain ⟨x2, e2, _, w2⟩ := DataW.trod_string Try.underlying9 h2
  obtain ⟨x3, e3, _, w3⟩ := DataW.trod_string Try.underlying9 h3
  simp at e0 e1 e2 e3
  subst e0 e1 e2 e3
  refine ⟨fun k => if k = 0 then x0 else if k = 1 then x1 else if k = 2 then x2 else if k = 3 then x3 else ⟨#[]⟩, rfl, fun k => ?_, fun k hk => ?_⟩
  · by_cases q0 : k = 0
    · simpa [q0] using w0
    by_cases q1 : k = 1
    · simpa [q1] using w1
    by_cases q2 : k = 2
    · simpa [q2] using w2
    by_cases q3 : k = 3
    · simpa [q3] using w3
    simp only [q0, q1, q2, q3, if_false]
    exact Nat.zero_le _
  · simp [show ¬ k = 0 by omega, show ¬ k = 1 by omega, show ¬ k = 2 by omega, show ¬ k = 3 by omega]

set_option maxRecDepth 100000 in
theorem order_lifted (os : Os) (started : os.Started) (H : Type) (enc : TypeId × Value → H) :
    ReturnsInHanded {} Try.checked os 9 .any (Rows.conflictOrderSpec.pre6 enc Try.prog Try.f9 Rows.conflictOrderRow.domain false) (Rows.conflictOrderSpec.post enc Try.prog Try.f9 false true false false) := by
  refine returnsInHanded_of_change (C := Try.checked) ownK started (by kernel_rfl) Try.func9
    (ChangeSpec.witness6 (enc := enc) (C := Try.checked) false ⟨#[], #[.agg #[.slice none 0 0, .slice none 0 0], .agg #[.string ⟨#[]⟩, .string ⟨#[]⟩, .string ⟨#[]⟩, .string ⟨#[]⟩]], []⟩ 8 (by kernel_rfl) (by kernel_rfl) (by kernel_rfl) (by kernel_rfl)) ?_
  intro W base args ds gs before hval0 hW hcnd _
  have hval : ∀ (j : Nat) t v, Try.f9.params[j]? = some t → args[j]? = some v → Value.okWide Try.prog W .any base t v := hval0
  have hW' := hW
  obtain ⟨p, q, hA0, hV, rfl, hfz, hnd⟩ := hW
  have hA : DataW.TrodAll enc Try.prog W 0 (fun _ => true) true Try.f9.params.toList args.toList ds p := hA0
  rw [Try.params9] at hA hval
  obtain ⟨v0, v1, d0, d1, p0, p1, rfl, rfl, rfl, h0, h1⟩ := trodAll_two hA
  obtain ⟨rfl, rfl⟩ := trodVars_none hV
  have k0 := h0
  have lt0 : ∀ x ∈ p0, x.block < W.heap.size := by obtain ⟨m, hm⟩ := k0; exact DataW.trod_lt m _ _ _ hm
  obtain ⟨a0, r0, S0, rfl, i0, _, _⟩ := open_sum (hval 0 24 v0 rfl rfl) h0
  have k1 := h1
  have lt1 : ∀ x ∈ p1, x.block < W.heap.size := by obtain ⟨m, hm⟩ := k1; exact DataW.trod_lt m _ _ _ hm
  obtain ⟨c, rfl, hc, hc4⟩ := open_quad (hval 1 44 v1 rfl rfl) h1
  clear hA0 hval0
  refine (ord_any S0 c hc hc4 a0 r0 W i0).mono fun e W' ⟨he, bel⟩ => ?_
  subst he
  exact ⟨_, rfl, _, _, _, [], _, [], hW', trodAll_mk1 (shut_bool Try.underlying4 _), (trodAll_cons_mk (Below.trod laidOut (by kernel_rfl) (of_decide_eq_true (by kernel_rfl)) k0 bel lt0) (trodAll_cons_mk (Below.trod laidOut (by kernel_rfl) (of_decide_eq_true (by kernel_rfl)) k1 bel lt1) trodAll_mk0)), rfl, bel.frame _, fun h => by cases h⟩

theorem order_holds : Rows.ConflictOrderSaid :=
  OpenClaim.holds_of_wide 9 Try.f9 rfl rfl rfl rfl rfl rfl rfl ⟨rfl, rfl, rfl, rfl, rfl⟩ rfl rfl rfl rfl rfl (by kernel_rfl) Try.func9 (by kernel_rfl)
    (of_decide_eq_true (by kernel_rfl)) (by unfold Func.isWrapper; rw [if_neg (of_decide_eq_false (by kernel_rfl))]; exact ⟨rfl, rfl⟩)
    (fun os started H enc _ => order_lifted os started H enc)
#print axioms order_holds
end Go.Proofs.Ytgnkfikihjjpeaa
