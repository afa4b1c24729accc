/- How what comes in reads, at this translation. -/
import Derived.Test.YtpkggijjjpefbaaRows
import Derived.Test.YtpkggijjjpefbaaAwake
import Derived.WalkKit
import Derived.ProofKit
import Derived.OpenShut
import Derived.ShutString
import Derived.ChangeOld
import Derived.Below
import Derived.SliceStrings
namespace Go.Proofs.Ytpkggijjjpefbaa
open Go.ChangeShapes Go.WideShapes Go.ChangeAt Go.RowKit
open Go.ChangeMaps (open_string shut_string)

theorem ownK : ownKnob Try.prog.godebug = none := by kernel_rfl
theorem laidOut : laidOutB Try.prog = true := by kernel_rfl
theorem cells9 : Try.prog.cellsOf 9 = 1 := by kernel_rfl
theorem cells3 : Try.prog.cellsOf 3 = 1 := by kernel_rfl
theorem cell_lt {W : World} {b off : Nat} {v : Value} (h : W.cell? ⟨b, off, none⟩ = some v) : b < W.heap.size := by
  rcases Nat.lt_or_ge b W.heap.size with h' | h'
  · exact h'
  · simp [World.cell?, Array.getElem?_eq_none h'] at h
/-- A slice whose cells are these integers. -/
def IsInts (w : World) (v : Value) (L : List Int) : Prop :=
  ∃ a cap, v = .slice a L.length cap ∧ L.length ≤ maxLen ∧ L.length ≤ cap ∧ (L = [] ∨ ∃ b off, a = some ⟨b, off, none⟩ ∧ b < w.heap.size ∧ ∀ j (h : j < L.length), w.cell? ⟨b, off + j, none⟩ = some (.int .i64 L[j]))

theorem cells_at {W : World} {a : Addr} {n : Nat} {f : Nat → Value} (h : ∀ i, i < n → W.cell? (a.add i) = some (f i)) (hn : 0 < n) : ∃ b off, a = ⟨b, off, none⟩ ∧ b < W.heap.size ∧ ∀ j, j < n → W.cell? ⟨b, off + j, none⟩ = some (f j) := by
  have c0 := h 0 hn
  obtain ⟨b, off, spot⟩ := a
  have hs := World.cell?_spot c0
  simp [Addr.add] at hs
  subst hs
  refine ⟨b, off, rfl, cell_lt (by simpa [Addr.add] using c0), fun j hj => ?_⟩
  have := h j hj
  rcases Nat.eq_zero_or_pos j with rfl | hp
  · simpa [Addr.add] using this
  · simpa [Addr.add, show ¬ j = 0 by omega] using this

/-- A list of integers that came in. -/
theorem open_numbers {H : Type} {enc : TypeId × Value → H} {W : World} {b0 : Nat} {held : Bool} {v : Value} {d : DataW H} {p : List MemPlace} (h1 : ∃ a len cap, v = .slice a len cap)
    (h : DataW.Trod enc Try.prog W b0 (fun _ => true) held 46 v d p) : ∃ L, IsInts W v L := by
  obtain ⟨a0, len0, cap0, rfl⟩ := h1
  obtain ⟨fuel, hf⟩ := h
  rcases open_ints Try.underlying46 Try.underlying3 cells3 hf with ⟨e, _⟩ | ⟨a, len, cap, zs, e, hb, hl, hm, hz, hx, hc, _⟩
  · simp [Value.cells] at e
    obtain ⟨rfl, rfl, rfl⟩ := e
    exact ⟨[], none, 0, rfl, by simp, Nat.zero_le _, .inl rfl⟩
  · simp [Value.cells] at e
    obtain ⟨rfl, rfl, rfl⟩ := e
    simp at hz
    have hlen : (zs.take len0).length = len0 := by rw [List.length_take]; omega
    refine ⟨zs.take len0, some a, cap0, by rw [hlen], by omega, by omega, ?_⟩
    by_cases h0 : len0 = 0
    · left; simp [h0]
    · right
      obtain ⟨b, off, rfl, hb2, hcs⟩ := cells_at (f := fun i => .int .i64 (zs.getD i 0)) (n := len0) (fun i hi => hc i (by omega)) (by omega)
      refine ⟨b, off, rfl, hb2, fun j hj => ?_⟩
      rw [hcs j (by omega)]
      have hj2 : j < zs.length := by omega
      simp [hj2]

/-- A list of texts that came in. -/
theorem open_texts {H : Type} {enc : TypeId × Value → H} {W : World} {b0 : Nat} {held : Bool} {v : Value} {d : DataW H} {p : List MemPlace} (h1 : ∃ a len cap, v = .slice a len cap)
    (h : DataW.Trod enc Try.prog W b0 (fun _ => true) held 34 v d p) : ∃ L, IsStrs W v L ∧ ∀ s ∈ L, s.size ≤ maxLen := by
  obtain ⟨a0, len0, cap0, rfl⟩ := h1
  obtain ⟨fuel, hf⟩ := h
  rcases open_strings Try.underlying34 Try.underlying9 cells9 hf with ⟨e, _⟩ | ⟨a, len, cap, zs, e, hb, hl, hm, hz, hx, hc, hs⟩
  · simp [Value.cells] at e
    obtain ⟨rfl, rfl, rfl⟩ := e
    exact ⟨[], ⟨none, 0, rfl, by simp, Nat.zero_le _, .inl rfl⟩, by simp⟩
  · simp [Value.cells] at e
    obtain ⟨rfl, rfl, rfl⟩ := e
    simp at hz
    have hlen : (zs.take len0).length = len0 := by rw [List.length_take]; omega
    refine ⟨zs.take len0, ⟨some a, cap0, by rw [hlen], by omega, by omega, ?_⟩, fun s h => hs s (List.mem_of_mem_take h)⟩
    by_cases h0 : len0 = 0
    · left; simp [h0]
    · right
      obtain ⟨b, off, rfl, hb2, hcs⟩ := cells_at (f := fun i => .string (zs.getD i ByteArray.empty)) (n := len0) (fun i hi => hc i (by omega)) (by omega)
      refine ⟨b, off, rfl, hb2, fun j hj => ?_⟩
      rw [hcs j (by omega)]
      have hj2 : j < zs.length := by omega
      simp [hj2]
end Go.Proofs.Ytpkggijjjpefbaa
