/- The two ways at one element, and the law's own walk, at this translation. -/
import Derived.Test.YtamhokedekhocaaForged3
namespace Go.Proofs.Ytamhokedekhocaa
open Go.RowKit
attribute [local go_sem] eq_arr

theorem Base.with {w W : World} {d0 d1 : Int} (h : Base w d0 d1 W) {b o : Nat} {x0 x1 : Int} (hb : b < w.heap.size) (e0 : w.cell? ⟨b, o, none⟩ = some (.int .u64 x0)) (e1 : w.cell? ⟨b, o + 1, none⟩ = some (.int .u64 x1)) :
    W.cell? ⟨w.heap.size, 0, none⟩ = some (.int .u64 d0) ∧ W.cell? ⟨w.heap.size, 1, none⟩ = some (.int .u64 d1) ∧ W.cell? ⟨b, o, none⟩ = some (.int .u64 x0) ∧ W.cell? ⟨b, o + 1, none⟩ = some (.int .u64 x1) :=
  ⟨h.d.1, h.d.2.1, (h.below.cell (p := ⟨b, o, none⟩) hb).trans e0, (h.below.cell (p := ⟨b, o + 1, none⟩) hb).trans e1⟩
set_option maxRecDepth 100000 in
set_option maxHeartbeats 4000000 in
theorem apart_one (i b off cap cap2 : Nat) (a2 : Option Addr) (d0 d1 x0 x1 : Int) (S T : ByteArray) (w : World) (hb : b < w.heap.size) (e0 : w.cell? ⟨b, off, none⟩ = some (.int .u64 x0)) (e1 : w.cell? ⟨b, off + 1, none⟩ = some (.int .u64 x1))
    (h1 : ∀ W, Calls Try.prog 46 #[.agg #[.int .u64 x0, .int .u64 x1]] W fun e w' => e = .returned (.string S) ∧ Below W.heap.size W w')
    (h2 : ∀ W, Calls Try.prog 46 #[.agg #[.int .u64 d0, .int .u64 d1]] W fun e w' => e = .returned (.string T) ∧ Below W.heap.size W w')
    (h3 : ∀ W, Calls Try.prog 50 #[.string S, .string T] W fun e w' => e = .returned (.bool true) ∧ Below W.heap.size W w') :
    Calls Try.prog 29 #[.slice (some ⟨b, off, none⟩) 1 cap, .int .i64 i, .agg #[.int .u64 d0, .int .u64 d1], .slice a2 0 cap2] w fun e w' => e = .returned (.bool true) ∧ Below w.heap.size w w' := by
  have H1 := Lib.hid h1
  have H2 := Lib.hid h2
  have H3 := Lib.hid h3
  clear h1 h2 h3
  go_enter Try.func29, Try.ntmps29
  go_wp2
  have start := (Base.first w d0 d1).drew
  go_region_held3 (fun V => V.cell? ⟨w.heap.size, 0, none⟩ = some (.int .u64 d0) ∧ V.cell? ⟨w.heap.size, 1, none⟩ = some (.int .u64 d1) ∧ V.cell? ⟨b, off, none⟩ = some (.int .u64 x0) ∧ V.cell? ⟨b, off + 1, none⟩ = some (.int .u64 x1)) (first | exact hh.with hb e0 e1 | exact start.with hb e0 e1)
    (first | (go_at_call 46; refine (H1.out _).mono ?_; rintro e w' ⟨rfl, hq⟩; have hh := Base.on (by first | exact hh | exact start) hq; clear hq) | (go_at_call 46; refine (H2.out _).mono ?_; rintro e w' ⟨rfl, hq⟩; have hh := Base.on (by first | exact hh | exact start) hq; clear hq) | (go_at_call 50; refine (H3.out _).mono ?_; rintro e w' ⟨rfl, hq⟩; have hh := Base.on (by first | exact hh | exact start) hq; clear hq))
  go_wp2
  go_ret
  exact ⟨rfl, hh.below⟩
end Go.Proofs.Ytamhokedekhocaa
