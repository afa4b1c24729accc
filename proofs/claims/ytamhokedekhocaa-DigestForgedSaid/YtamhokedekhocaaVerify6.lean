/- For every claim, DigestVerify returns true and leaves its argument as it was: Verify returns what the reference returns. -/
import Derived.Test.YtamhokedekhocaaVerify5
import Derived.Deep.Slices
namespace Go.Proofs.Ytamhokedekhocaa
open Go.ChangeShapes Go.WideShapes Go.ChangeAt Go.RowKit

/-- One digest's reading: two numbers below 2^64. -/
theorem digest_cells {H : Type} {enc : TypeId × Value → H} {W : World} {b0 : Nat} {spare : Nat → Bool} {held : Bool} {fuel : Nat} {cs : List Value} {x : DataW H × List MemPlace}
    (hf : DataW.trod enc Try.prog W b0 spare held fuel 24 cs = some x) : ∃ d : Dig, cs = [.int .u64 d.1, .int .u64 d.2] := by
  obtain ⟨xs, m, _, _, hl0, hl, hi⟩ := DataW.trod_array Try.underlying24 hf
  rw [cells24] at hl0
  obtain ⟨c0, c1, rfl⟩ : ∃ c0 c1, cs = [c0, c1] := by
    match cs, hl0 with
    | [a, b], _ => exact ⟨a, b, rfl⟩
  obtain ⟨y0, y1, rfl⟩ : ∃ y0 y1, xs = [y0, y1] := by
    match xs, hl with
    | [a, b], _ => exact ⟨a, b, rfl⟩
  have h0 := hi 0 (by omega)
  have h1 := hi 1 (by omega)
  simp [cells22] at h0 h1
  obtain ⟨x0, e0, rfl, w0⟩ := DataW.trod_int Try.underlying22 h0
  obtain ⟨x1, e1, rfl, w1⟩ := DataW.trod_int Try.underlying22 h1
  simp at e0 e1
  subst e0 e1
  obtain ⟨n0, rfl⟩ := Int.eq_ofNat_of_zero_le (bounds_u64 w0).1
  obtain ⟨n1, rfl⟩ := Int.eq_ofNat_of_zero_le (bounds_u64 w1).1
  exact ⟨(n0, n1), rfl⟩

/-- A slice of digests that came in. -/
theorem open_digs {H : Type} {enc : TypeId × Value → H} {W : World} {b0 : Nat} {spare : Nat → Bool} {held : Bool} {fuel : Nat} {cs : List Value} {x : DataW H × List MemPlace}
    (hf : DataW.trod enc Try.prog W b0 spare held fuel 35 cs = some x) : ∃ v L, cs = [v] ∧ IsDigs W v L := by
  rcases DataW.trod_slice Try.underlying35 hf with ⟨rfl, _⟩ | ⟨a, len, cap, elems, rest, m, _, rfl, _, hb0, hl, hm, hlen, hel, _, _⟩
  · exact ⟨_, [], rfl, none, 0, rfl, by simp, Nat.zero_le _, .inl rfl⟩
  · have each : ∀ i, i < len → ∃ d : Dig, W.cells? b0 (a.add (i * 2)) 2 = some [.int .u64 d.1, .int .u64 d.2] := by
      intro i hi
      have h := hel i hi
      rw [cells24, List.getElem?_eq_getElem (by omega)] at h
      obtain ⟨cs2, h1, h2⟩ := Option.bind_eq_some_iff.1 h
      obtain ⟨d, rfl⟩ := digest_cells h2
      exact ⟨d, h1⟩
    obtain ⟨f, hfn⟩ := Go.Deep.choose_lt each
    refine ⟨_, (List.range len).map f, rfl, some a, cap, by simp, by simpa using hl, hm, ?_⟩
    by_cases h0 : len = 0
    · left; simp [h0]
    · right
      have hat : ∀ i, i < len → W.cell? (a.add (i * 2)) = some (.int .u64 (f i).1) ∧ W.cell? (a.add (i * 2 + 1)) = some (.int .u64 (f i).2) := by
        intro i hi
        have h1 := (World.cells?_some (hfn i hi)).2.2
        have c0 := h1 0 (by omega)
        have c1 := h1 1 (by omega)
        rw [Go.Deep.add_add] at c0 c1
        exact ⟨by simpa using c0, by simpa using c1⟩
      have hblk := World.cells?_block (hfn 0 (by omega)) (by omega)
      obtain ⟨b, off, spot⟩ := a
      have hs := World.cell?_spot (hat 0 (by omega)).1
      simp [Addr.add] at hs
      subst hs
      refine ⟨b, off, rfl, by simpa [Addr.add] using hblk, fun j d hj => ?_⟩
      have hj2 : j < len := by
        have := (List.getElem?_eq_some_iff.1 hj).1
        simpa using this
      rw [List.getElem?_map, List.getElem?_range hj2] at hj
      simp at hj
      subst hj
      have := hat j hj2
      rcases Nat.eq_zero_or_pos j with rfl | hp
      · simpa [Addr.add] using this
      · have hne : ¬ j * 2 = 0 := by omega
        simpa [Addr.add, Nat.add_assoc, hne] using this

theorem cells42 : Try.prog.cellsOf 42 = 7 := by kernel_rfl
theorem cells35 : Try.prog.cellsOf 35 = 1 := by kernel_rfl
theorem cells3 : Try.prog.cellsOf 3 = 1 := by kernel_rfl
theorem list7 {α : Type} (l : List α) (h : l.length = 7) : ∃ a b c d e f g, l = [a, b, c, d, e, f, g] := by
  match l, h with
  | [a, b, c, d, e, f, g], _ => exact ⟨a, b, c, d, e, f, g, rfl⟩

/-- A claim that came in. -/
theorem open_claim {H : Type} {enc : TypeId × Value → H} {W : World} {b0 : Nat} {spare : Nat → Bool} {held : Bool} {fuel : Nat} {cs : List Value} {x : DataW H × List MemPlace}
    (hf : DataW.trod enc Try.prog W b0 spare held fuel 42 cs = some x) : ∃ (x0 x1 n i : Int) (d : Dig) (v : Value) (L : List Dig), cs = [.int .u64 x0, .int .u64 x1, .int .i64 n, .int .i64 i, .int .u64 d.1, .int .u64 d.2, v] ∧ IsDigs W v L := by
  cases fuel with
  | zero => simp [DataW.trod] at hf
  | succ m =>
    unfold DataW.trod at hf
    rw [Try.underlying42] at hf
    simp only [cells42] at hf
    split at hf
    · rename_i hl
      obtain ⟨c0, c1, c2, c3, c4, c5, c6, rfl⟩ := list7 cs hl
      simp [cells24, cells35, cells3, Option.bind_eq_some_iff] at hf
      obtain ⟨_, _, h0, _, ⟨_, _, h2, _, ⟨_, _, h3, _, ⟨_, _, h4, _, ⟨_, _, h6, _⟩, _⟩, _⟩, _⟩, _⟩ := hf
      obtain ⟨d0, e0⟩ := digest_cells h0
      obtain ⟨d1, e1⟩ := digest_cells h4
      obtain ⟨n, e2, _, _⟩ := DataW.trod_int Try.underlying3 h2
      obtain ⟨i, e3, _, _⟩ := DataW.trod_int Try.underlying3 h3
      obtain ⟨v, L, e6, hv⟩ := open_digs h6
      simp only [List.cons.injEq, and_true] at e0 e1 e2 e3 e6
      obtain ⟨rfl, rfl⟩ := e0
      obtain ⟨rfl, rfl⟩ := e1
      subst e2 e3 e6
      exact ⟨_, _, n, i, d1, _, L, rfl, hv⟩
    · cases hf

set_option maxRecDepth 100000 in
theorem verify_lifted (os : Os) (started : os.Started) (H : Type) (enc : TypeId × Value → H) :
    ReturnsInHanded {} Try.checked os 6 .any (Rows.digestVerifySpec.pre6 enc Try.prog Try.f6 Rows.digestVerifyRow.domain false) (Rows.digestVerifySpec.post enc Try.prog Try.f6 false true false false) := by
  refine returnsInHanded_of_change (C := Try.checked) ownK started (by kernel_rfl) Try.func6
    (ChangeSpec.witness6 (enc := enc) (C := Try.checked) false ⟨#[], #[.agg #[.int .u64 0, .int .u64 0, .int .i64 0, .int .i64 0, .int .u64 0, .int .u64 0, .slice none 0 0]], []⟩ 8 (by kernel_rfl) (by kernel_rfl) (by kernel_rfl) (by kernel_rfl)) ?_
  intro W base args ds gs before hval0 hW hcnd _
  have hval : ∀ (j : Nat) t v, Try.f6.params[j]? = some t → args[j]? = some v → Value.okWide Try.prog W .any base t v := hval0
  have hW' := hW
  obtain ⟨p, q, hA0, hV, rfl, hfz, hnd⟩ := hW
  have hA : DataW.TrodAll enc Try.prog W 0 (fun _ => true) true Try.f6.params.toList args.toList ds p := hA0
  rw [Try.params6] at hA hval
  obtain ⟨v0, d0, rfl, rfl, h0⟩ := trodAll_one hA
  obtain ⟨rfl, rfl⟩ := trodVars_none hV
  have k0 := h0
  have lt0 : ∀ x ∈ p, x.block < W.heap.size := by obtain ⟨m, hm⟩ := k0; exact DataW.trod_lt m _ _ _ hm
  obtain ⟨cs, rfl, hsz, _⟩ : ∃ cs, v0 = .agg cs ∧ cs.size = Try.prog.cellsOf 42 ∧ Row.okWide Try.prog W .any base 42 cs := by
    have := hval 0 42 v0 rfl rfl
    simpa [Value.okWide, Try.underlying42] using this
  obtain ⟨x0, x1, n, i, d, v, L, hcs, hdigs⟩ : ∃ (x0 x1 n i : Int) (d : Dig) (v : Value) (L : List Dig), cs.toList = [.int .u64 x0, .int .u64 x1, .int .i64 n, .int .i64 i, .int .u64 d.1, .int .u64 d.2, v] ∧ IsDigs W v L := by
    obtain ⟨fuel, hf⟩ := h0
    exact open_claim hf
  obtain rfl : cs = #[.int .u64 x0, .int .u64 x1, .int .i64 n, .int .i64 i, .int .u64 d.1, .int .u64 d.2, v] := by
    cases cs; simp at hcs; rw [hcs]
  clear hA0 hval0
  refine (verifyLaw_any x0 x1 n i d L v W hdigs).mono fun e W' ⟨he, bel⟩ => ?_
  subst he
  exact ⟨_, rfl, _, _, _, [], _, [], hW', trodAll_mk1 (shut_bool Try.underlying4 _), (trodAll_cons_mk (Below.trod laidOut (by kernel_rfl) (of_decide_eq_true (by kernel_rfl)) k0 bel lt0) trodAll_mk0), rfl, bel.frame _, fun h => by cases h⟩

theorem verify_holds : Rows.DigestVerifySaid :=
  OpenClaim.holds_of_wide 6 Try.f6 rfl rfl rfl rfl rfl rfl rfl ⟨rfl, rfl, rfl, rfl, rfl⟩ rfl rfl rfl rfl rfl (by kernel_rfl) Try.func6 (by kernel_rfl)
    (of_decide_eq_true (by kernel_rfl)) (by unfold Func.isWrapper; rw [if_neg (of_decide_eq_false (by kernel_rfl))]; exact ⟨rfl, rfl⟩)
    (fun os started H enc _ => verify_lifted os started H enc)
#print axioms verify_holds
end Go.Proofs.Ytamhokedekhocaa
