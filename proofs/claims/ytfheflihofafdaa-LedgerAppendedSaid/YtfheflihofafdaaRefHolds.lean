/- The reference's Holds, at this translation. -/
import Derived.Test.YtfheflihofafdaaRefHead
import Derived.Deep.RegionHeld3
import Derived.BigQuiet
namespace Go.Proofs.Ytfheflihofafdaa
open Go.RowKit Go.Great Pt Tr

/-- The boxes of a digest and of a record. -/
def HBox (w : World) (x0 x1 t : Int) (n1 n2 n3 : BA) (W : World) : Prop :=
  (W.cell? ⟨w.heap.size, 0, none⟩ = some (.int .u64 x0) ∧ W.cell? ⟨w.heap.size, 1, none⟩ = some (.int .u64 x1) ∧ W.cell? ⟨w.heap.size + 1, 0, none⟩ = some (.int .i64 t) ∧ W.cell? ⟨w.heap.size + 1, 1, none⟩ = some (.string n1) ∧
    W.cell? ⟨w.heap.size + 1, 2, none⟩ = some (.string n2) ∧ W.cell? ⟨w.heap.size + 1, 3, none⟩ = some (.string n3)) ∧ w.heap.size + 2 ≤ W.heap.size ∧ Below w.heap.size w W
theorem HBox.on {w W W' : World} {x0 x1 t : Int} {n1 n2 n3 : BA} (h : HBox w x0 x1 t n1 n2 n3 W) (hB : Below W.heap.size W W') : HBox w x0 x1 t n1 n2 n3 W' := by
  obtain ⟨⟨a, b, c, d, e, f⟩, hz, hb⟩ := h
  have k : ∀ p o v, p < w.heap.size + 2 → W.cell? ⟨p, o, none⟩ = some v → W'.cell? ⟨p, o, none⟩ = some v := fun p o v hp h => (hB.cell (p := ⟨p, o, none⟩) (show p < W.heap.size by omega)).trans h
  exact ⟨⟨k _ _ _ (by omega) a, k _ _ _ (by omega) b, k _ _ _ (by omega) c, k _ _ _ (by omega) d, k _ _ _ (by omega) e, k _ _ _ (by omega) f⟩, Nat.le_trans hz hB.size, bl hb hB⟩

set_option maxRecDepth 100000 in
set_option maxHeartbeats 4000000 in
theorem refHolds_yes (x0 x1 n i t : Int) (n1 n2 n3 S : BA) (d0 d1 : Nat) (q : Bool) (a : Option Addr) (len cap : Nat) (w : World) (KO : ∀ W, Calls Try.prog 33 #[rv ⟨t, n1, n2, n3⟩] W fun e w' => e = .returned (.bool true) ∧ Below W.heap.size W w')
    (KT : ∀ W, Calls Try.prog 45 #[rv ⟨t, n1, n2, n3⟩] W fun e w' => e = .returned (.string S) ∧ Below W.heap.size W w') (KF : ∀ W, Calls Try.prog 29 #[.string S] W fun e w' => e = .returned (.agg #[.int .u64 d0, .int .u64 d1]) ∧ Below W.heap.size W w')
    (KV : ∀ W, Below w.heap.size w W → Calls Try.prog 44 #[.agg #[.int .u64 x0, .int .u64 x1], .int .i64 n, .int .i64 i, .agg #[.int .u64 d0, .int .u64 d1], .slice a len cap] W fun e w' => e = .returned (.bool q) ∧ Below W.heap.size W w') :
    Calls Try.prog 25 #[.agg #[.int .u64 x0, .int .u64 x1], .int .i64 n, .int .i64 i, rv ⟨t, n1, n2, n3⟩, .slice a len cap] w fun e w' => e = .returned (.bool q) ∧ Below w.heap.size w w' := by
  have HO := Lib.hid KO
  have HT := Lib.hid KT
  have HF := Lib.hid KF
  have HV := Lib.hid KV
  clear KO KT KF KV
  go_enter Try.func25, Try.ntmps25
  go_wp2
  have start : HBox w x0 x1 t n1 n2 n3 ((w.alloc (.cells #[.int .u64 x0, .int .u64 x1] 40)).alloc (.cells #[.int .i64 t, .string n1, .string n2, .string n3] 26)).drew := by
    refine ⟨?_, by simp, (bla (bla (Below.refl _ _) _) _).drew⟩
    go_simp
  go_region_held3 (fun W => (W.cell? ⟨w.heap.size, 0, none⟩ = some (.int .u64 x0) ∧ W.cell? ⟨w.heap.size, 1, none⟩ = some (.int .u64 x1) ∧ W.cell? ⟨w.heap.size + 1, 0, none⟩ = some (.int .i64 t) ∧ W.cell? ⟨w.heap.size + 1, 1, none⟩ = some (.string n1) ∧
      W.cell? ⟨w.heap.size + 1, 2, none⟩ = some (.string n2) ∧ W.cell? ⟨w.heap.size + 1, 3, none⟩ = some (.string n3)) ∧ w.heap.size + 2 ≤ W.heap.size ∧ Below w.heap.size w W) (first | exact hh | exact start)
    (first | (go_at_call 33; refine (HO.out _).mono ?_; rintro e w' ⟨rfl, hb⟩; have hh := HBox.on (by first | exact hh | exact start) hb; clear hb) | (go_at_call 45; refine (HT.out _).mono ?_; rintro e w' ⟨rfl, hb⟩; have hh := HBox.on (by first | exact hh | exact start) hb; clear hb) | (go_at_call 29; refine (HF.out _).mono ?_; rintro e w' ⟨rfl, hb⟩; have hh := HBox.on (by first | exact hh | exact start) hb; clear hb) | (go_at_call 44; refine (HV.out _ (by first | exact hh.2.2 | exact start.2.2)).mono ?_; rintro e w' ⟨rfl, hb⟩; have hh := HBox.on (by first | exact hh | exact start) hb; clear hb))
  go_wp2
  go_ret
  exact ⟨rfl, hh.2.2⟩
end Go.Proofs.Ytfheflihofafdaa
