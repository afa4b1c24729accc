/- How digests, records and ledgers that come in read, at this translation. -/
import Derived.Test.YtfheflihofafdaaRows
import Derived.Test.YtfheflihofafdaaAwake
import Derived.WalkKit
import Derived.ProofKit
import Derived.OpenShut
import Derived.ShutString
import Derived.ChangeOld
import Derived.Below
import Derived.SliceStrings
import Derived.Deep.Slices
import Derived.Deep.Grids
import Derived.Carry
namespace Go.Proofs.Ytfheflihofafdaa
set_option maxRecDepth 100000
open Go.ChangeShapes Go.WideShapes Go.ChangeAt Go.RowKit Tr Pt
open Go.ChangeMaps (open_string shut_string)

theorem ownK : ownKnob Try.prog.godebug = none := by kernel_rfl
theorem laidOut : laidOutB Try.prog = true := by kernel_rfl
theorem cells9 : Try.prog.cellsOf 9 = 1 := by kernel_rfl
theorem cells3 : Try.prog.cellsOf 3 = 1 := by kernel_rfl
theorem cells22 : Try.prog.cellsOf 22 = 1 := by kernel_rfl
theorem cells24 : Try.prog.cellsOf 24 = 1 := by kernel_rfl
theorem cells26 : Try.prog.cellsOf 26 = 4 := by kernel_rfl
theorem cells38 : Try.prog.cellsOf 38 = 1 := by kernel_rfl
theorem cells40 : Try.prog.cellsOf 40 = 2 := by kernel_rfl
instance : Inhabited Rec := ⟨⟨0, ⟨#[]⟩, ⟨#[]⟩, ⟨#[]⟩⟩⟩
def Small (d : Dig) : Prop := d.1 < 2 ^ 64 ∧ d.2 < 2 ^ 64

/-- One digest's reading: two numbers below 2^64. -/
theorem digest_cellsS {H : Type} {enc : TypeId × Value → H} {W : World} {b0 : Nat} {spare : Nat → Bool} {held : Bool} {fuel : Nat} {cs : List Value} {x : DataW H × List MemPlace}
    (hf : DataW.trod enc Try.prog W b0 spare held fuel 40 cs = some x) : ∃ d : Dig, cs = [.int .u64 d.1, .int .u64 d.2] ∧ Small d := by
  obtain ⟨xs, m, _, _, hl0, hl, hi⟩ := DataW.trod_array Try.underlying40 hf
  rw [cells40] at hl0
  obtain ⟨c0, c1, rfl⟩ : ∃ c0 c1, cs = [c0, c1] := by
    match cs, hl0 with
    | [a, b], _ => exact ⟨a, b, rfl⟩
  obtain ⟨y0, y1, rfl⟩ : ∃ y0 y1, xs = [y0, y1] := by
    match xs, hl with
    | [a, b], _ => exact ⟨a, b, rfl⟩
  have h0 := hi 0 (by omega)
  have h1 := hi 1 (by omega)
  simp [cells38] at h0 h1
  obtain ⟨x0, e0, rfl, w0⟩ := DataW.trod_int Try.underlying38 h0
  obtain ⟨x1, e1, rfl, w1⟩ := DataW.trod_int Try.underlying38 h1
  simp at e0 e1
  subst e0 e1
  have u0 := bounds_u64 w0
  have u1 := bounds_u64 w1
  obtain ⟨n0, rfl⟩ := Int.eq_ofNat_of_zero_le u0.1
  obtain ⟨n1, rfl⟩ := Int.eq_ofNat_of_zero_le u1.1
  exact ⟨(n0, n1), rfl, by show n0 < 2 ^ 64; omega, by show n1 < 2 ^ 64; omega⟩
/-- A slice of digests that came in. -/
theorem open_digsS {H : Type} {enc : TypeId × Value → H} {W : World} {b0 : Nat} {spare : Nat → Bool} {held : Bool} {fuel : Nat} {cs : List Value} {x : DataW H × List MemPlace}
    (hf : DataW.trod enc Try.prog W b0 spare held fuel 35 cs = some x) : ∃ v L, cs = [v] ∧ IsDigs W v L ∧ ∀ y ∈ L, Small y := by
  rcases DataW.trod_slice Try.underlying35 hf with ⟨rfl, _⟩ | ⟨a, len, cap, elems, rest, m, _, rfl, _, hb0, hl, hm, hlen, hel, _, _⟩
  · exact ⟨_, [], rfl, ⟨none, 0, rfl, by simp, Nat.zero_le _, .inl rfl⟩, by simp⟩
  · have each : ∀ i, i < len → ∃ d : Dig, W.cells? b0 (a.add (i * 2)) 2 = some [.int .u64 d.1, .int .u64 d.2] ∧ Small d := by
      intro i hi
      have h := hel i hi
      rw [cells40, List.getElem?_eq_getElem (by omega)] at h
      obtain ⟨cs2, h1, h2⟩ := Option.bind_eq_some_iff.1 h
      obtain ⟨d, rfl, hs⟩ := digest_cellsS h2
      exact ⟨d, h1, hs⟩
    obtain ⟨f, hfn⟩ := Go.Deep.choose_lt each
    refine ⟨_, (List.range len).map f, rfl, ⟨some a, cap, by simp, by simpa using hl, hm, ?_⟩, fun y hy => ?_⟩
    · by_cases h0 : len = 0
      · left; simp [h0]
      · right
        have hat : ∀ i, i < len → W.cell? (a.add (i * 2)) = some (.int .u64 (f i).1) ∧ W.cell? (a.add (i * 2 + 1)) = some (.int .u64 (f i).2) := by
          intro i hi
          have h1 := (World.cells?_some (hfn i hi).1).2.2
          have c0 := h1 0 (by omega)
          have c1 := h1 1 (by omega)
          rw [Go.Deep.add_add] at c0 c1
          exact ⟨by simpa using c0, by simpa using c1⟩
        have hblk := World.cells?_block (hfn 0 (by omega)).1 (by omega)
        obtain ⟨b, off, spot⟩ := a
        have hs := World.cell?_spot (hat 0 (by omega)).1
        simp [Addr.add] at hs
        subst hs
        refine ⟨b, off, rfl, by simpa [Addr.add] using hblk, fun j d hj => ?_⟩
        have hj2 : j < len := by
          have := (List.getElem?_eq_some_iff.1 hj).1
          simpa using this
        rw [List.getElem?_map, List.getElem?_range hj2] at hj
        simp at hj
        subst hj
        have := hat j hj2
        rcases Nat.eq_zero_or_pos j with rfl | hp
        · simpa [Addr.add] using this
        · have hne : ¬ j * 2 = 0 := by omega
          simpa [Addr.add, Nat.add_assoc, hne] using this
    · obtain ⟨k, hk, rfl⟩ := List.mem_map.1 hy
      exact (hfn k (List.mem_range.1 hk)).2
/-- A digest that came in. -/
theorem open_dig {H : Type} {enc : TypeId × Value → H} {W : World} {r : Reach} {base : Nat} {b0 : Nat} {held : Bool} {v : Value} {d : DataW H} {p : List MemPlace}
    (hv : Value.okWide Try.prog W r base 40 v) (h : DataW.Trod enc Try.prog W b0 (fun _ => true) held 40 v d p) : ∃ x : Dig, v = x.v ∧ Small x := by
  obtain ⟨cs, rfl, hsz, _⟩ : ∃ cs, v = .agg cs ∧ cs.size = Try.prog.cellsOf 40 ∧ Row.okWide Try.prog W r base 40 cs := by
    simpa [Value.okWide, Try.underlying40] using hv
  obtain ⟨fuel, hf⟩ := h
  obtain ⟨x, e, hx⟩ := digest_cellsS hf
  simp only [Value.cells] at e
  obtain ⟨l⟩ := cs
  simp only at e
  subst e
  exact ⟨x, rfl, hx⟩
theorem rec_cells {H : Type} {enc : TypeId × Value → H} {W : World} {b0 : Nat} {spare : Nat → Bool} {held : Bool} {fuel : Nat} {cs : List Value} {x : DataW H × List MemPlace}
    (hf : DataW.trod enc Try.prog W b0 spare held fuel 26 cs = some x) : ∃ p : Rec, cs = [.int .i64 p.time, .string p.who, .string p.what, .string p.data] ∧ p.Fit := by
  cases fuel with
  | zero => simp [DataW.trod] at hf
  | succ m =>
    unfold DataW.trod at hf
    rw [Try.underlying26] at hf
    simp only [cells26] at hf
    split at hf
    · rename_i hl
      obtain ⟨c0, c1, c2, c3, rfl⟩ : ∃ c0 c1 c2 c3, cs = [c0, c1, c2, c3] := by
        match cs, hl with
        | [a, b, c, d], _ => exact ⟨a, b, c, d, rfl⟩
      simp [cells9, cells3, Option.bind_eq_some_iff] at hf
      obtain ⟨_, _, h0, _, ⟨_, _, h1, _, ⟨_, _, h2, _, ⟨_, _, h3, _⟩, _⟩, _⟩, _⟩ := hf
      obtain ⟨t, e0, _, _⟩ := DataW.trod_int Try.underlying3 h0
      obtain ⟨a, e1, _, ha⟩ := DataW.trod_string Try.underlying9 h1
      obtain ⟨b, e2, _, hb⟩ := DataW.trod_string Try.underlying9 h2
      obtain ⟨c, e3, _, hc⟩ := DataW.trod_string Try.underlying9 h3
      simp only [List.cons.injEq, and_true] at e0 e1 e2 e3
      subst e0 e1 e2 e3
      exact ⟨⟨t, a, b, c⟩, rfl, ha, hb, hc⟩
    · cases hf
/-- A record that came in. -/
theorem open_rec {H : Type} {enc : TypeId × Value → H} {W : World} {r : Reach} {base : Nat} {b0 : Nat} {held : Bool} {v : Value} {d : DataW H} {p : List MemPlace}
    (hv : Value.okWide Try.prog W r base 26 v) (h : DataW.Trod enc Try.prog W b0 (fun _ => true) held 26 v d p) : ∃ x : Rec, v = rv x ∧ x.Fit := by
  obtain ⟨cs, rfl, hsz, _⟩ : ∃ cs, v = .agg cs ∧ cs.size = Try.prog.cellsOf 26 ∧ Row.okWide Try.prog W r base 26 cs := by
    simpa [Value.okWide, Try.underlying26] using hv
  obtain ⟨fuel, hf⟩ := h
  obtain ⟨x, e, hx⟩ := rec_cells hf
  simp only [Value.cells] at e
  obtain ⟨l⟩ := cs
  simp only at e
  subst e
  exact ⟨x, rfl, hx⟩
/-- Records that came in. -/
theorem open_recs {H : Type} {enc : TypeId × Value → H} {W : World} {b0 : Nat} {spare : Nat → Bool} {held : Bool} {fuel : Nat} {cs : List Value} {x : DataW H × List MemPlace}
    (hf : DataW.trod enc Try.prog W b0 spare held fuel 22 cs = some x) : ∃ v L, cs = [v] ∧ IsRecs W v L ∧ ∀ p ∈ L, p.Fit := by
  rcases DataW.trod_slice Try.underlying22 hf with ⟨rfl, _⟩ | ⟨a, len, cap, elems, rest, m, _, rfl, _, hb0, hl, hm, hlen, hel, _, _⟩
  · exact ⟨_, [], rfl, isRecs_nil W, by simp⟩
  · have each : ∀ i, i < len → ∃ p : Rec, W.cells? b0 (a.add (i * 4)) 4 = some [.int .i64 p.time, .string p.who, .string p.what, .string p.data] ∧ p.Fit := by
      intro i hi
      have h := hel i hi
      rw [cells26, List.getElem?_eq_getElem (by omega)] at h
      obtain ⟨cs2, h1, h2⟩ := Option.bind_eq_some_iff.1 h
      obtain ⟨p, rfl, hp⟩ := rec_cells h2
      exact ⟨p, h1, hp⟩
    obtain ⟨f, hfn⟩ := Go.Deep.choose_lt each
    refine ⟨_, (List.range len).map f, rfl, ⟨some a, cap, by simp, by simp; omega, by simpa using hl, ?_⟩, fun p hp => by
      obtain ⟨i, hi, rfl⟩ := List.mem_map.1 hp
      exact (hfn i (by simpa using hi)).2⟩
    by_cases h0 : len = 0
    · left; simp [h0]
    · right
      have hat : ∀ i, i < len → W.cell? (a.add (i * 4)) = some (.int .i64 (f i).time) ∧ W.cell? (a.add (i * 4 + 1)) = some (.string (f i).who) ∧ W.cell? (a.add (i * 4 + 2)) = some (.string (f i).what) ∧ W.cell? (a.add (i * 4 + 3)) = some (.string (f i).data) := by
        intro i hi
        have h1 := (World.cells?_some (hfn i hi).1).2.2
        have c0 := h1 0 (by omega)
        have c1 := h1 1 (by omega)
        have c2 := h1 2 (by omega)
        have c3 := h1 3 (by omega)
        rw [Go.Deep.add_add] at c0 c1 c2 c3
        exact ⟨by simpa using c0, by simpa using c1, by simpa using c2, by simpa using c3⟩
      have hblk := World.cells?_block (hfn 0 (by omega)).1 (by omega)
      obtain ⟨b, off, spot⟩ := a
      have hs := World.cell?_spot (hat 0 (by omega)).1
      simp [Addr.add] at hs
      subst hs
      refine ⟨b, off, rfl, by simpa [Addr.add] using hblk, fun j hj => ?_⟩
      have hj2 : j < len := by simpa using hj
      obtain ⟨c0, c1, c2, c3⟩ := hat j hj2
      rw [Addr.add_lit] at c0 c1 c2 c3
      simp only [List.getElem_map, List.getElem_range]
      exact ⟨c0, c1, c2, c3⟩
/-- A ledger that came in. -/
theorem open_ledger {H : Type} {enc : TypeId × Value → H} {W : World} {r : Reach} {base : Nat} {b0 : Nat} {held : Bool} {v : Value} {d : DataW H} {p : List MemPlace}
    (hv : Value.okWide Try.prog W r base 24 v) (h : DataW.Trod enc Try.prog W b0 (fun _ => true) held 24 v d p) : ∃ u L, v = .agg #[u] ∧ IsRecs W u L ∧ ∀ x ∈ L, x.Fit := by
  obtain ⟨cs, rfl, hsz, _⟩ : ∃ cs, v = .agg cs ∧ cs.size = Try.prog.cellsOf 24 ∧ Row.okWide Try.prog W r base 24 cs := by
    simpa [Value.okWide, Try.underlying24] using hv
  rw [cells24] at hsz
  obtain ⟨l⟩ := cs
  obtain ⟨c0, rfl⟩ : ∃ c0, l = [c0] := by
    match l, hsz with
    | [a], _ => exact ⟨a, rfl⟩
  obtain ⟨fuel, hf⟩ := h
  cases fuel with
  | zero => simp [DataW.trod] at hf
  | succ m =>
    unfold DataW.trod at hf
    rw [Try.underlying24] at hf
    simp [cells24, cells22, Value.cells, Option.bind_eq_some_iff] at hf
    obtain ⟨_, h0, _⟩ := hf
    obtain ⟨v, L, e, i, f⟩ := open_recs h0
    simp only [List.cons.injEq, and_true] at e
    subst e
    exact ⟨_, L, rfl, i, f⟩
end Go.Proofs.Ytfheflihofafdaa
