/- How a disk and the rest that comes in reads, at this translation. -/
import Derived.Test.YtgdfdelggihceaaRows
import Derived.Test.YtgdfdelggihceaaAwake
import Derived.WalkKit
import Derived.ProofKit
import Derived.OpenShut
import Derived.ShutString
import Derived.ChangeOld
import Derived.Below
import Derived.SliceStrings
import Derived.Deep.Slices
import Derived.Deep.Grids
import Derived.Carry
namespace Go.Proofs.Ytgdfdelggihceaa
open Go.ChangeShapes Go.WideShapes Go.ChangeAt Go.RowKit
open Go.ChangeMaps (open_string shut_string)

theorem ownK : ownKnob Try.prog.godebug = none := by kernel_rfl
theorem laidOut : laidOutB Try.prog = true := by kernel_rfl
theorem cells9 : Try.prog.cellsOf 9 = 1 := by kernel_rfl
theorem cells3 : Try.prog.cellsOf 3 = 1 := by kernel_rfl
theorem cells44 : Try.prog.cellsOf 44 = 2 := by kernel_rfl
theorem cells26 : Try.prog.cellsOf 26 = 4 := by kernel_rfl
theorem cells23 : Try.prog.cellsOf 23 = 1 := by kernel_rfl
theorem cells24 : Try.prog.cellsOf 24 = 1 := by kernel_rfl
theorem cell_lt {W : World} {b off : Nat} {v : Value} (h : W.cell? ⟨b, off, none⟩ = some v) : b < W.heap.size := by
  rcases Nat.lt_or_ge b W.heap.size with h' | h'
  · exact h'
  · simp [World.cell?, Array.getElem?_eq_none h'] at h
theorem cells_at {W : World} {a : Addr} {n : Nat} {f : Nat → Value} (h : ∀ i, i < n → W.cell? (a.add i) = some (f i)) (hn : 0 < n) : ∃ b off, a = ⟨b, off, none⟩ ∧ b < W.heap.size ∧ ∀ j, j < n → W.cell? ⟨b, off + j, none⟩ = some (f j) := by
  have c0 := h 0 hn
  obtain ⟨b, off, spot⟩ := a
  have hs := World.cell?_spot c0
  simp [Addr.add] at hs
  subst hs
  refine ⟨b, off, rfl, cell_lt (by simpa [Addr.add] using c0), fun j hj => ?_⟩
  have := h j hj
  rcases Nat.eq_zero_or_pos j with rfl | hp
  · simpa [Addr.add] using this
  · simpa [Addr.add, show ¬ j = 0 by omega] using this

/-- Texts that came in, by their cell. -/
theorem open_strs {H : Type} {enc : TypeId × Value → H} {W : World} {b0 : Nat} {held : Bool} {fuel : Nat} {cs : List Value} {x : DataW H × List MemPlace}
    (hf : DataW.trod enc Try.prog W b0 (fun _ => true) held fuel 23 cs = some x) : ∃ v L, cs = [v] ∧ IsStrs W v L ∧ ∀ s ∈ L, s.size ≤ maxLen := by
  rcases open_strings Try.underlying23 Try.underlying9 cells9 hf with ⟨rfl, _⟩ | ⟨a, len, cap, zs, rfl, hb, hl, hm, hz, _, hc, hs⟩
  · exact ⟨_, [], rfl, isStrs_nil W, by simp⟩
  · simp at hz
    have hlen : (zs.take len).length = len := by rw [List.length_take]; omega
    refine ⟨_, zs.take len, rfl, ⟨some a, cap, by rw [hlen], by omega, by omega, ?_⟩, fun s h => hs s (List.mem_of_mem_take h)⟩
    by_cases h0 : len = 0
    · left; simp [h0]
    · right
      obtain ⟨b, off, rfl, hb2, hcs⟩ := cells_at (f := fun i => .string (zs.getD i ByteArray.empty)) (n := len) (fun i hi => hc i (by omega)) (by omega)
      refine ⟨b, off, rfl, hb2, fun j hj => ?_⟩
      rw [hcs j (by omega)]
      have hj2 : j < zs.length := by omega
      simp [hj2]
theorem write_cells {H : Type} {enc : TypeId × Value → H} {W : World} {b0 : Nat} {spare : Nat → Bool} {held : Bool} {fuel : Nat} {cs : List Value} {x : DataW H × List MemPlace}
    (hf : DataW.trod enc Try.prog W b0 spare held fuel 44 cs = some x) : ∃ p : Int × ByteArray, cs = [.int .i64 p.1, .string p.2] ∧ p.2.size ≤ maxLen := by
  cases fuel with
  | zero => simp [DataW.trod] at hf
  | succ m =>
    unfold DataW.trod at hf
    rw [Try.underlying44] at hf
    simp only [cells44] at hf
    split at hf
    · rename_i hl
      obtain ⟨c0, c1, rfl⟩ : ∃ c0 c1, cs = [c0, c1] := by
        match cs, hl with
        | [a, b], _ => exact ⟨a, b, rfl⟩
      simp [cells9, cells3, Option.bind_eq_some_iff] at hf
      obtain ⟨_, _, h0, _, ⟨_, _, h1, _⟩, _⟩ := hf
      obtain ⟨n, e0, _, _⟩ := DataW.trod_int Try.underlying3 h0
      obtain ⟨s, e1, _, hs⟩ := DataW.trod_string Try.underlying9 h1
      simp only [List.cons.injEq, and_true] at e0 e1
      subst e0 e1
      exact ⟨(n, s), rfl, hs⟩
    · cases hf
/-- Writes that came in. -/
theorem open_ws {H : Type} {enc : TypeId × Value → H} {W : World} {b0 : Nat} {spare : Nat → Bool} {held : Bool} {fuel : Nat} {cs : List Value} {x : DataW H × List MemPlace}
    (hf : DataW.trod enc Try.prog W b0 spare held fuel 24 cs = some x) : ∃ v L, cs = [v] ∧ IsWs W v L ∧ ∀ p ∈ L, p.2.size ≤ maxLen := by
  rcases DataW.trod_slice Try.underlying24 hf with ⟨rfl, _⟩ | ⟨a, len, cap, elems, rest, m, _, rfl, _, hb0, hl, hm, hlen, hel, _, _⟩
  · exact ⟨_, [], rfl, isWs_nil W, by simp⟩
  · have each : ∀ i, i < len → ∃ p : Int × ByteArray, W.cells? b0 (a.add (i * 2)) 2 = some [.int .i64 p.1, .string p.2] ∧ p.2.size ≤ maxLen := by
      intro i hi
      have h := hel i hi
      rw [cells44, List.getElem?_eq_getElem (by omega)] at h
      obtain ⟨cs2, h1, h2⟩ := Option.bind_eq_some_iff.1 h
      obtain ⟨p, rfl, hp⟩ := write_cells h2
      exact ⟨p, h1, hp⟩
    obtain ⟨f, hfn⟩ := Go.Deep.choose_lt each
    refine ⟨_, (List.range len).map f, rfl, ⟨some a, cap, by simp, by simp; omega, by simpa using hl, ?_⟩, fun p hp => by
      obtain ⟨i, hi, rfl⟩ := List.mem_map.1 hp
      exact (hfn i (by simpa using hi)).2⟩
    by_cases h0 : len = 0
    · left; simp [h0]
    · right
      have hat : ∀ i, i < len → W.cell? (a.add (i * 2)) = some (.int .i64 (f i).1) ∧ W.cell? (a.add (i * 2 + 1)) = some (.string (f i).2) := by
        intro i hi
        have h1 := (World.cells?_some (hfn i hi).1).2.2
        have c0 := h1 0 (by omega)
        have c1 := h1 1 (by omega)
        rw [Go.Deep.add_add] at c0 c1
        exact ⟨by simpa using c0, by simpa using c1⟩
      have hblk := World.cells?_block (hfn 0 (by omega)).1 (by omega)
      obtain ⟨b, off, spot⟩ := a
      have hs := World.cell?_spot (hat 0 (by omega)).1
      simp [Addr.add] at hs
      subst hs
      refine ⟨b, off, rfl, by simpa [Addr.add] using hblk, fun j hj => ?_⟩
      have hj2 : j < len := by simpa using hj
      obtain ⟨c0, c1⟩ := hat j hj2
      rw [Addr.add_lit] at c0 c1
      simp only [List.getElem_map, List.getElem_range]
      exact ⟨c0, c1⟩
/-- A disk that came in. -/
theorem open_disk {H : Type} {enc : TypeId × Value → H} {W : World} {r : Reach} {base : Nat} {b0 : Nat} {held : Bool} {v : Value} {d : DataW H} {p : List MemPlace}
    (hv : Value.okWide Try.prog W r base 26 v) (h : DataW.Trod enc Try.prog W b0 (fun _ => true) held 26 v d p) : ∃ D : Dk, IsDisk W v D ∧ D.Fit ∧ D.left ≤ 9223372036854775807 := by
  obtain ⟨cs, rfl, hsz, _⟩ : ∃ cs, v = .agg cs ∧ cs.size = Try.prog.cellsOf 26 ∧ Row.okWide Try.prog W r base 26 cs := by
    simpa [Value.okWide, Try.underlying26] using hv
  rw [cells26] at hsz
  obtain ⟨l⟩ := cs
  obtain ⟨c0, c1, c2, c3, rfl⟩ : ∃ c0 c1 c2 c3, l = [c0, c1, c2, c3] := by
    match l, hsz with
    | [a, b, c, e], _ => exact ⟨a, b, c, e, rfl⟩
  obtain ⟨fuel, hf⟩ := h
  cases fuel with
  | zero => simp [DataW.trod] at hf
  | succ m =>
    unfold DataW.trod at hf
    rw [Try.underlying26] at hf
    simp [cells26, cells3, cells23, cells24, Value.cells, Option.bind_eq_some_iff] at hf
    obtain ⟨_, _, h0, _, ⟨_, _, h1, _, ⟨_, _, h2, _, ⟨_, _, h3, _⟩, _⟩, _⟩, _⟩ := hf
    obtain ⟨sz, e0, _, _⟩ := DataW.trod_int Try.underlying3 h0
    obtain ⟨vs, S, e1, i1, f1⟩ := open_strs h1
    obtain ⟨vp, P, e2, i2, f2⟩ := open_ws h2
    obtain ⟨lf, e3, _, w3⟩ := DataW.trod_int Try.underlying3 h3
    simp only [List.cons.injEq, and_true] at e0 e1 e2 e3
    subst e0 e1 e2 e3
    refine ⟨⟨sz, S, P, lf⟩, ⟨_, _, rfl, i1, i2⟩, ⟨f1, f2⟩, ?_⟩
    simp [Lit.wf, IntKind.min, IntKind.max, IntKind.bits, IntKind.signed] at w3
    exact w3.2
theorem u8_in {n : Int} (h : (Lit.int .u8 n).wf = true) : 0 ≤ n ∧ n < 256 := by
  simp [Lit.wf, IntKind.min, IntKind.max, IntKind.bits, IntKind.signed] at h
  omega
end Go.Proofs.Ytgdfdelggihceaa
