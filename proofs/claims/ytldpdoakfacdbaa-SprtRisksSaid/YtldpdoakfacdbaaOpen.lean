/- How a trial, a list of bools and the rest that comes in reads, at this translation. -/
import Derived.Test.YtldpdoakfacdbaaRows
import Derived.Test.YtldpdoakfacdbaaRun
import Derived.WalkKit
import Derived.ProofKit
import Derived.OpenShut
import Derived.ChangeOld
import Derived.Below
import Derived.Deep.Grids
namespace Go.Proofs.Ytldpdoakfacdbaa
open Go.ChangeShapes Go.WideShapes Go.ChangeAt Go.RowKit

theorem ownK : ownKnob Try.prog.godebug = none := by kernel_rfl
theorem laidOut : laidOutB Try.prog = true := by kernel_rfl
theorem cells25 : Try.prog.cellsOf 25 = 8 := by kernel_rfl
theorem cells23 : Try.prog.cellsOf 23 = 2 := by kernel_rfl
theorem cells3 : Try.prog.cellsOf 3 = 1 := by kernel_rfl
theorem cells4 : Try.prog.cellsOf 4 = 1 := by kernel_rfl
theorem list8 {α : Type} (l : List α) (h : l.length = 8) : ∃ a b c d e f g i, l = [a, b, c, d, e, f, g, i] := by
  match l, h with
  | [a, b, c, d, e, f, g, i], _ => exact ⟨a, b, c, d, e, f, g, i, rfl⟩

theorem ratio_cells {H : Type} {enc : TypeId × Value → H} {W : World} {b0 : Nat} {spare : Nat → Bool} {held : Bool} {fuel : Nat} {c0 c1 : Value} {x : DataW H × List MemPlace}
    (hf : DataW.trod enc Try.prog W b0 spare held fuel 23 [c0, c1] = some x) : ∃ n d : Int, c0 = .int .i64 n ∧ c1 = .int .i64 d := by
  cases fuel with
  | zero => simp [DataW.trod] at hf
  | succ m =>
    unfold DataW.trod at hf
    rw [Try.underlying23] at hf
    simp [cells23, cells3, Option.bind_eq_some_iff] at hf
    obtain ⟨_, _, h0, _, ⟨_, _, h1, _⟩, _⟩ := hf
    obtain ⟨n, e0, _, _⟩ := DataW.trod_int Try.underlying3 h0
    obtain ⟨d, e1, _, _⟩ := DataW.trod_int Try.underlying3 h1
    simp only [List.cons.injEq, and_true] at e0 e1
    exact ⟨n, d, e0, e1⟩

/-- A trial that came in. -/
theorem open_trial {H : Type} {enc : TypeId × Value → H} {W : World} {r : Reach} {base b0 : Nat} {spare : Nat → Bool} {held : Bool} {v : Value} {d : DataW H} {p : List MemPlace}
    (hv : Value.okWide Try.prog W r base 25 v) (h : DataW.Trod enc Try.prog W b0 spare held 25 v d p) : ∃ gn gd bn bd an ad en ed : Int, v = trialV gn gd bn bd an ad en ed := by
  obtain ⟨cs, rfl, hsz, _⟩ : ∃ cs, v = .agg cs ∧ cs.size = Try.prog.cellsOf 25 ∧ Row.okWide Try.prog W r base 25 cs := by
    simpa [Value.okWide, Try.underlying25] using hv
  rw [cells25] at hsz
  obtain ⟨l⟩ := cs
  obtain ⟨c0, c1, c2, c3, c4, c5, c6, c7, rfl⟩ := list8 l hsz
  obtain ⟨fuel, hf⟩ := h
  cases fuel with
  | zero => simp [DataW.trod] at hf
  | succ m =>
    unfold DataW.trod at hf
    rw [Try.underlying25] at hf
    simp [cells25, cells23, Value.cells, Option.bind_eq_some_iff] at hf
    obtain ⟨_, _, h0, _, ⟨_, _, h2, _, ⟨_, _, h4, _, ⟨_, _, h6, _⟩, _⟩, _⟩, _⟩ := hf
    obtain ⟨_, _, rfl, rfl⟩ := ratio_cells h0
    obtain ⟨_, _, rfl, rfl⟩ := ratio_cells h2
    obtain ⟨_, _, rfl, rfl⟩ := ratio_cells h4
    obtain ⟨_, _, rfl, rfl⟩ := ratio_cells h6
    exact ⟨_, _, _, _, _, _, _, _, rfl⟩
end Go.Proofs.Ytldpdoakfacdbaa
