/- How an object that comes in reads, at this translation. -/
import Derived.Test.YtiaahjoldahlnaaRows
import Derived.Test.YtiaahjoldahlnaaWords
import Derived.WalkKit
import Derived.ProofKit
import Derived.OpenShut
import Derived.ShutString
import Derived.ChangeOld
import Derived.Below
import Derived.SliceStrings
import Derived.Deep.Slices
import Derived.Deep.Grids
import Derived.Carry
namespace Go.Proofs.Ytiaahjoldahlnaa
open Go.ChangeShapes Go.WideShapes Go.ChangeAt Go.RowKit
open Go.ChangeMaps (open_string shut_string)

theorem ownK : ownKnob Try.prog.godebug = none := by kernel_rfl
theorem laidOut : laidOutB Try.prog = true := by kernel_rfl
theorem cells9 : Try.prog.cellsOf 9 = 1 := by kernel_rfl
theorem cells3 : Try.prog.cellsOf 3 = 1 := by kernel_rfl
theorem cells4 : Try.prog.cellsOf 4 = 1 := by kernel_rfl
theorem cells22 : Try.prog.cellsOf 22 = 1 := by kernel_rfl
theorem cells23 : Try.prog.cellsOf 23 = 1 := by kernel_rfl
theorem cells25 : Try.prog.cellsOf 25 = 2 := by kernel_rfl
theorem cells26 : Try.prog.cellsOf 26 = 1 := by kernel_rfl
theorem cells28 : Try.prog.cellsOf 28 = 9 := by kernel_rfl
theorem cells45 : Try.prog.cellsOf 45 = 4 := by kernel_rfl
instance : Inhabited Ent := ⟨⟨⟨#[]⟩, false, (0, 0)⟩⟩
/-- Both numbers are below 2^64. -/
def Dig64 (d : Dig) : Prop := d.1 < 2 ^ 64 ∧ d.2 < 2 ^ 64
def Ob.Digs64 (o : Ob) : Prop := Dig64 o.tree ∧ (∀ d ∈ o.pars, Dig64 d) ∧ ∀ x ∈ o.ents, Dig64 x.dig

theorem digest_cells {H : Type} {enc : TypeId × Value → H} {W : World} {b0 : Nat} {spare : Nat → Bool} {held : Bool} {fuel : Nat} {cs : List Value} {x : DataW H × List MemPlace}
    (hf : DataW.trod enc Try.prog W b0 spare held fuel 25 cs = some x) : ∃ d : Dig, cs = [.int .u64 d.1, .int .u64 d.2] ∧ Dig64 d := by
  obtain ⟨xs, m, _, _, hl0, hl, hi⟩ := DataW.trod_array Try.underlying25 hf
  rw [cells25] at hl0
  obtain ⟨c0, c1, rfl⟩ : ∃ c0 c1, cs = [c0, c1] := by
    match cs, hl0 with
    | [a, b], _ => exact ⟨a, b, rfl⟩
  obtain ⟨y0, y1, rfl⟩ : ∃ y0 y1, xs = [y0, y1] := by
    match xs, hl with
    | [a, b], _ => exact ⟨a, b, rfl⟩
  have h0 := hi 0 (by omega)
  have h1 := hi 1 (by omega)
  simp [cells23] at h0 h1
  obtain ⟨x0, e0, rfl, w0⟩ := DataW.trod_int Try.underlying23 h0
  obtain ⟨x1, e1, rfl, w1⟩ := DataW.trod_int Try.underlying23 h1
  simp at e0 e1
  subst e0 e1
  have u0 := bounds_u64 w0
  have u1 := bounds_u64 w1
  obtain ⟨n0, rfl⟩ := Int.eq_ofNat_of_zero_le u0.1
  obtain ⟨n1, rfl⟩ := Int.eq_ofNat_of_zero_le u1.1
  exact ⟨(n0, n1), rfl, by show n0 < 2 ^ 64; omega, by show n1 < 2 ^ 64; omega⟩
/-- A slice of digests that came in. -/
theorem open_digs {H : Type} {enc : TypeId × Value → H} {W : World} {b0 : Nat} {spare : Nat → Bool} {held : Bool} {fuel : Nat} {cs : List Value} {x : DataW H × List MemPlace}
    (hf : DataW.trod enc Try.prog W b0 spare held fuel 26 cs = some x) : ∃ v L, cs = [v] ∧ IsDigs W v L ∧ ∀ y ∈ L, Dig64 y := by
  rcases DataW.trod_slice Try.underlying26 hf with ⟨rfl, _⟩ | ⟨a, len, cap, elems, rest, m, _, rfl, _, hb0, hl, hm, hlen, hel, _, _⟩
  · exact ⟨_, [], rfl, isDigs_nil W, by simp⟩
  · have each : ∀ i, i < len → ∃ d : Dig, W.cells? b0 (a.add (i * 2)) 2 = some [.int .u64 d.1, .int .u64 d.2] ∧ Dig64 d := by
      intro i hi
      have h := hel i hi
      rw [cells25, List.getElem?_eq_getElem (by omega)] at h
      obtain ⟨cs2, h1, h2⟩ := Option.bind_eq_some_iff.1 h
      obtain ⟨p, rfl, hp⟩ := digest_cells h2
      exact ⟨p, h1, hp⟩
    obtain ⟨f, hfn⟩ := Go.Deep.choose_lt each
    refine ⟨_, (List.range len).map f, rfl, ⟨some a, cap, by simp, by simp; omega, by simpa using hl, ?_⟩, fun p hp => by
      obtain ⟨i, hi, rfl⟩ := List.mem_map.1 hp
      exact (hfn i (by simpa using hi)).2⟩
    by_cases h0 : len = 0
    · left; simp [h0]
    · right
      have hat : ∀ i, i < len → W.cell? (a.add (i * 2)) = some (.int .u64 (f i).1) ∧ W.cell? (a.add (i * 2 + 1)) = some (.int .u64 (f i).2) := by
        intro i hi
        have h1 := (World.cells?_some (hfn i hi).1).2.2
        have c0 := h1 0 (by omega)
        have c1 := h1 1 (by omega)
        rw [Go.Deep.add_add] at c0 c1
        exact ⟨by simpa using c0, by simpa using c1⟩
      have hblk := World.cells?_block (hfn 0 (by omega)).1 (by omega)
      obtain ⟨b, off, spot⟩ := a
      have hs := World.cell?_spot (hat 0 (by omega)).1
      simp [Addr.add] at hs
      subst hs
      refine ⟨b, off, rfl, by simpa [Addr.add] using hblk, fun j hj => ?_⟩
      have hj2 : j < len := by simpa using hj
      obtain ⟨c0, c1⟩ := hat j hj2
      rw [Addr.add_lit] at c0 c1
      simp only [List.getElem_map, List.getElem_range]
      exact ⟨c0, c1⟩
theorem entry_cells {H : Type} {enc : TypeId × Value → H} {W : World} {b0 : Nat} {spare : Nat → Bool} {held : Bool} {fuel : Nat} {cs : List Value} {x : DataW H × List MemPlace}
    (hf : DataW.trod enc Try.prog W b0 spare held fuel 45 cs = some x) : ∃ p : Ent, cs = [.string p.name, .bool p.dir, .int .u64 p.dig.1, .int .u64 p.dig.2] ∧ p.name.size ≤ maxLen ∧ Dig64 p.dig := by
  cases fuel with
  | zero => simp [DataW.trod] at hf
  | succ m =>
    unfold DataW.trod at hf
    rw [Try.underlying45] at hf
    simp only [cells45] at hf
    split at hf
    · rename_i hl
      obtain ⟨c0, c1, c2, c3, rfl⟩ : ∃ c0 c1 c2 c3, cs = [c0, c1, c2, c3] := by
        match cs, hl with
        | [a, b, c, d], _ => exact ⟨a, b, c, d, rfl⟩
      simp [cells9, cells4, cells25, Option.bind_eq_some_iff] at hf
      obtain ⟨_, _, h0, _, ⟨_, _, h1, _, ⟨_, _, h2, _⟩, _⟩, _⟩ := hf
      obtain ⟨s, e0, _, hs⟩ := DataW.trod_string Try.underlying9 h0
      obtain ⟨q, e1, _⟩ := DataW.trod_bool Try.underlying4 h1
      obtain ⟨d, e2, hd⟩ := digest_cells h2
      simp only [List.cons.injEq, and_true] at e0 e1 e2
      obtain ⟨e2, e3⟩ := e2
      subst e0 e1 e2 e3
      exact ⟨⟨s, q, d⟩, rfl, hs, hd⟩
    · cases hf
/-- Entries that came in. -/
theorem open_ents {H : Type} {enc : TypeId × Value → H} {W : World} {b0 : Nat} {spare : Nat → Bool} {held : Bool} {fuel : Nat} {cs : List Value} {x : DataW H × List MemPlace}
    (hf : DataW.trod enc Try.prog W b0 spare held fuel 22 cs = some x) : ∃ v L, cs = [v] ∧ IsEnts W v L ∧ ∀ p ∈ L, p.name.size ≤ maxLen ∧ Dig64 p.dig := by
  rcases DataW.trod_slice Try.underlying22 hf with ⟨rfl, _⟩ | ⟨a, len, cap, elems, rest, m, _, rfl, _, hb0, hl, hm, hlen, hel, _, _⟩
  · exact ⟨_, [], rfl, isEnts_nil W, by simp⟩
  · have each : ∀ i, i < len → ∃ p : Ent, W.cells? b0 (a.add (i * 4)) 4 = some [.string p.name, .bool p.dir, .int .u64 p.dig.1, .int .u64 p.dig.2] ∧ p.name.size ≤ maxLen ∧ Dig64 p.dig := by
      intro i hi
      have h := hel i hi
      rw [cells45, List.getElem?_eq_getElem (by omega)] at h
      obtain ⟨cs2, h1, h2⟩ := Option.bind_eq_some_iff.1 h
      obtain ⟨p, rfl, hp⟩ := entry_cells h2
      exact ⟨p, h1, hp⟩
    obtain ⟨f, hfn⟩ := Go.Deep.choose_lt each
    refine ⟨_, (List.range len).map f, rfl, ⟨some a, cap, by simp, by simp; omega, by simpa using hl, ?_⟩, fun p hp => by
      obtain ⟨i, hi, rfl⟩ := List.mem_map.1 hp
      exact (hfn i (by simpa using hi)).2⟩
    by_cases h0 : len = 0
    · left; simp [h0]
    · right
      have hat : ∀ i, i < len → W.cell? (a.add (i * 4)) = some (.string (f i).name) ∧ W.cell? (a.add (i * 4 + 1)) = some (.bool (f i).dir) ∧ W.cell? (a.add (i * 4 + 2)) = some (.int .u64 (f i).dig.1) ∧ W.cell? (a.add (i * 4 + 3)) = some (.int .u64 (f i).dig.2) := by
        intro i hi
        have h1 := (World.cells?_some (hfn i hi).1).2.2
        have c0 := h1 0 (by omega)
        have c1 := h1 1 (by omega)
        have c2 := h1 2 (by omega)
        have c3 := h1 3 (by omega)
        rw [Go.Deep.add_add] at c0 c1 c2 c3
        exact ⟨by simpa using c0, by simpa using c1, by simpa using c2, by simpa using c3⟩
      have hblk := World.cells?_block (hfn 0 (by omega)).1 (by omega)
      obtain ⟨b, off, spot⟩ := a
      have hs := World.cell?_spot (hat 0 (by omega)).1
      simp [Addr.add] at hs
      subst hs
      refine ⟨b, off, rfl, by simpa [Addr.add] using hblk, fun j hj => ?_⟩
      have hj2 : j < len := by simpa using hj
      obtain ⟨c0, c1, c2, c3⟩ := hat j hj2
      rw [Addr.add_lit] at c0 c1 c2 c3
      simp only [List.getElem_map, List.getElem_range]
      exact ⟨c0, c1, c2, c3⟩
/-- An object that came in. -/
theorem open_ob {H : Type} {enc : TypeId × Value → H} {W : World} {r : Reach} {base : Nat} {b0 : Nat} {held : Bool} {v : Value} {d : DataW H} {p : List MemPlace}
    (hv : Value.okWide Try.prog W r base 28 v) (h : DataW.Trod enc Try.prog W b0 (fun _ => true) held 28 v d p) : ∃ o : Ob, IsOb W v o ∧ o.Fit ∧ o.Digs64 := by
  obtain ⟨cs, rfl, hsz, _⟩ : ∃ cs, v = .agg cs ∧ cs.size = Try.prog.cellsOf 28 ∧ Row.okWide Try.prog W r base 28 cs := by
    simpa [Value.okWide, Try.underlying28] using hv
  rw [cells28] at hsz
  obtain ⟨l⟩ := cs
  obtain ⟨c0, c1, c2, c3, c4, c5, c6, c7, c8, rfl⟩ : ∃ c0 c1 c2 c3 c4 c5 c6 c7 c8, l = [c0, c1, c2, c3, c4, c5, c6, c7, c8] := by
    match l, hsz with
    | [a, b, c, e, f, g, h, i, j], _ => exact ⟨a, b, c, e, f, g, h, i, j, rfl⟩
  obtain ⟨fuel, hf⟩ := h
  cases fuel with
  | zero => simp [DataW.trod] at hf
  | succ m =>
    unfold DataW.trod at hf
    rw [Try.underlying28] at hf
    simp [cells28, cells3, cells9, cells22, cells25, cells26, Value.cells, Option.bind_eq_some_iff] at hf
    obtain ⟨_, _, h0, _, ⟨_, _, h1, _, ⟨_, _, h2, _, ⟨_, _, h3, _, ⟨_, _, h4, _, ⟨_, _, h5, _, ⟨_, _, h6, _, ⟨_, _, h7, _⟩, _⟩, _⟩, _⟩, _⟩, _⟩, _⟩, _⟩ := hf
    obtain ⟨k, e0, _, _⟩ := DataW.trod_int Try.underlying3 h0
    obtain ⟨da, e1, _, hda⟩ := DataW.trod_string Try.underlying9 h1
    obtain ⟨ve, L, e2, i2, f2⟩ := open_ents h2
    obtain ⟨t, e3, ht⟩ := digest_cells h3
    obtain ⟨vp, P, e4, i4, f4⟩ := open_digs h4
    obtain ⟨au, e5, _, hau⟩ := DataW.trod_string Try.underlying9 h5
    obtain ⟨ti, e6, _, _⟩ := DataW.trod_int Try.underlying3 h6
    obtain ⟨ms, e7, _, hms⟩ := DataW.trod_string Try.underlying9 h7
    simp only [List.cons.injEq, and_true] at e0 e1 e2 e3 e4 e5 e6 e7
    obtain ⟨e3, e3'⟩ := e3
    subst e0 e1 e2 e3 e3' e4 e5 e6 e7
    exact ⟨⟨k, da, L, t, P, au, ti, ms⟩, ⟨_, _, rfl, i2, i4⟩, ⟨hda, hau, hms, fun x hx => (f2 x hx).1⟩, ht, f4, fun x hx => (f2 x hx).2⟩
end Go.Proofs.Ytiaahjoldahlnaa
