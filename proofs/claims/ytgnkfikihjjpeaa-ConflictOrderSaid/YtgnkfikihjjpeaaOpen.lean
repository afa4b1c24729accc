/- How texts and sums that come in read, at this translation. -/
import Derived.Test.YtgnkfikihjjpeaaRows
import Derived.Test.YtgnkfikihjjpeaaAwake2
import Derived.WalkKit
import Derived.ProofKit
import Derived.OpenShut
import Derived.ShutString
import Derived.ChangeOld
import Derived.Below
import Derived.SliceStrings
import Derived.Deep.Slices
import Derived.Deep.Grids
import Derived.Carry
namespace Go.Proofs.Ytgnkfikihjjpeaa
open Go.ChangeShapes Go.WideShapes Go.ChangeAt Go.RowKit
open Go.ChangeMaps (open_string shut_string)

theorem ownK : ownKnob Try.prog.godebug = none := by kernel_rfl
theorem laidOut : laidOutB Try.prog = true := by kernel_rfl
theorem cells9 : Try.prog.cellsOf 9 = 1 := by kernel_rfl
theorem cells22 : Try.prog.cellsOf 22 = 1 := by kernel_rfl
theorem cells24 : Try.prog.cellsOf 24 = 2 := by kernel_rfl
theorem cell_lt {W : World} {b off : Nat} {v : Value} (h : W.cell? ⟨b, off, none⟩ = some v) : b < W.heap.size := by
  rcases Nat.lt_or_ge b W.heap.size with h' | h'
  · exact h'
  · simp [World.cell?, Array.getElem?_eq_none h'] at h
theorem cells_at {W : World} {a : Addr} {n : Nat} {f : Nat → Value} (h : ∀ i, i < n → W.cell? (a.add i) = some (f i)) (hn : 0 < n) : ∃ b off, a = ⟨b, off, none⟩ ∧ b < W.heap.size ∧ ∀ j, j < n → W.cell? ⟨b, off + j, none⟩ = some (f j) := by
  have c0 := h 0 hn
  obtain ⟨b, off, spot⟩ := a
  have hs := World.cell?_spot c0
  simp [Addr.add] at hs
  subst hs
  refine ⟨b, off, rfl, cell_lt (by simpa [Addr.add] using c0), fun j hj => ?_⟩
  have := h j hj
  rcases Nat.eq_zero_or_pos j with rfl | hp
  · simpa [Addr.add] using this
  · simpa [Addr.add, show ¬ j = 0 by omega] using this

/-- Texts that came in, by their cell. -/
theorem open_strs {H : Type} {enc : TypeId × Value → H} {W : World} {b0 : Nat} {held : Bool} {fuel : Nat} {cs : List Value} {x : DataW H × List MemPlace}
    (hf : DataW.trod enc Try.prog W b0 (fun _ => true) held fuel 22 cs = some x) : ∃ v L, cs = [v] ∧ IsStrs W v L ∧ ∀ s ∈ L, s.size ≤ maxLen := by
  rcases open_strings Try.underlying22 Try.underlying9 cells9 hf with ⟨rfl, _⟩ | ⟨a, len, cap, zs, rfl, hb, hl, hm, hz, _, hc, hs⟩
  · exact ⟨_, [], rfl, isStrs_nil W, by simp⟩
  · simp at hz
    have hlen : (zs.take len).length = len := by rw [List.length_take]; omega
    refine ⟨_, zs.take len, rfl, ⟨some a, cap, by rw [hlen], by omega, by omega, ?_⟩, fun s h => hs s (List.mem_of_mem_take h)⟩
    by_cases h0 : len = 0
    · left; simp [h0]
    · right
      obtain ⟨b, off, rfl, hb2, hcs⟩ := cells_at (f := fun i => .string (zs.getD i ByteArray.empty)) (n := len) (fun i hi => hc i (by omega)) (by omega)
      refine ⟨b, off, rfl, hb2, fun j hj => ?_⟩
      rw [hcs j (by omega)]
      have hj2 : j < zs.length := by omega
      simp [hj2]
set_option maxRecDepth 100000 in
/-- A sum that came in. -/
theorem open_sum {H : Type} {enc : TypeId × Value → H} {W : World} {r : Reach} {base : Nat} {b0 : Nat} {held : Bool} {v : Value} {d : DataW H} {p : List MemPlace}
    (hv : Value.okWide Try.prog W r base 24 v) (h : DataW.Trod enc Try.prog W b0 (fun _ => true) held 24 v d p) : ∃ a r S, v = sv a r ∧ IsSum W a r S ∧ (∀ x ∈ S.A, x.size ≤ maxLen) ∧ ∀ x ∈ S.R, x.size ≤ maxLen := by
  obtain ⟨cs, rfl, hsz, _⟩ : ∃ cs, v = .agg cs ∧ cs.size = Try.prog.cellsOf 24 ∧ Row.okWide Try.prog W r base 24 cs := by
    simpa [Value.okWide, Try.underlying24] using hv
  rw [cells24] at hsz
  obtain ⟨l⟩ := cs
  obtain ⟨c0, c1, rfl⟩ : ∃ c0 c1, l = [c0, c1] := by
    match l, hsz with
    | [a, b], _ => exact ⟨a, b, rfl⟩
  obtain ⟨fuel, hf⟩ := h
  cases fuel with
  | zero => simp [DataW.trod] at hf
  | succ m =>
    unfold DataW.trod at hf
    rw [Try.underlying24] at hf
    simp [cells24, cells22, Value.cells, Option.bind_eq_some_iff] at hf
    obtain ⟨_, _, h0, _, ⟨_, _, h1, _⟩, _⟩ := hf
    obtain ⟨v0, L0, e0, i0, b0⟩ := open_strs h0
    obtain ⟨v1, L1, e1, i1, b1⟩ := open_strs h1
    simp only [List.cons.injEq, and_true] at e0 e1
    subst e0 e1
    exact ⟨_, _, ⟨L0, L1⟩, rfl, ⟨i0, i1⟩, b0, b1⟩
end Go.Proofs.Ytgnkfikihjjpeaa
