/- parts.Digest: the sixteen bytes of a digest, at this translation. -/
import Derived.Test.YtiaahjoldahlnaaBig
import Derived.Deep.RegionHeld3
import Derived.BigQuiet
namespace Go.Proofs.Ytiaahjoldahlnaa
open Go.RowKit Go.Great

/-- What a digest's box holds. -/
structure Bd (w : World) (d1 d2 : Nat) (W : World) : Prop where
  c : W.cell? ⟨w.heap.size, 0, none⟩ = some (.int .u64 d1) ∧ W.cell? ⟨w.heap.size, 1, none⟩ = some (.int .u64 d2)
  lt : w.heap.size < W.heap.size
  b : Below w.heap.size w W
theorem Bd.fresh (w : World) (d1 d2 : Nat) (t : TypeId) : Bd w d1 d2 (w.alloc (.cells #[.int .u64 d1, .int .u64 d2] t)) :=
  ⟨by simp [World.cell?_alloc_new], by simp, (Below.refl _ _).alloc (Nat.le_refl _) _⟩
theorem Bd.on {w W W' : World} {d1 d2 : Nat} (h : Bd w d1 d2 W) (hB : Below W.heap.size W W') : Bd w d1 d2 W' :=
  ⟨⟨(hB.cell (p := ⟨_, 0, none⟩) h.lt).trans h.c.1, (hB.cell (p := ⟨_, 1, none⟩) h.lt).trans h.c.2⟩, Nat.lt_of_lt_of_le h.lt hB.size, h.b.trans (hB.mono h.b.size)⟩
theorem Bd.drew {w W : World} {d1 d2 : Nat} (h : Bd w d1 d2 W) : Bd w d1 d2 W.drew := ⟨h.c, h.lt, h.b.drew⟩

/-- The bytes of a number as a string. -/
def s8 (n : Nat) : BA := ⟨(by8 n).toArray⟩
theorem s8_size (n : Nat) : (s8 n).size = 8 := rfl
/-- The bytes of a digest as a string. -/
def dgS (d1 d2 : Nat) : BA := s8 d1 ++ s8 d2
theorem big_s8 (n : Nat) (w : World) : Calls Try.prog 78 #[.int .u64 n, .int .i64 8] w fun e w' => e = .returned (.string (s8 n)) ∧ Below w.heap.size w w' := big_any n w

set_option maxHeartbeats 1000000 in
theorem digS_any (d1 d2 : Nat) (w : World) :
    Calls Try.prog 55 #[.agg #[.int .u64 d1, .int .u64 d2]] w fun e w' => e = .returned (.string (dgS d1 d2)) ∧ Below w.heap.size w w' := by
  have z0 := s8_size d1
  have z1 := s8_size d2
  have start := (Bd.fresh w d1 d2 25).drew
  unfold dgS
  go_enter Try.func55, Try.ntmps55
  go_wp2
  go_region_held3 (fun V => V.cell? ⟨w.heap.size, 0, none⟩ = some (.int .u64 d1) ∧ V.cell? ⟨w.heap.size, 1, none⟩ = some (.int .u64 d2)) (first | with_reducible exact hh.c | with_reducible exact start.c)
    (first | ((with_reducible refine (big_s8 d1 _).mono ?_); rintro e w' ⟨rfl, hb⟩; have hh := Bd.on (by first | with_reducible exact hh | with_reducible exact start) hb; clear hb) | ((with_reducible refine (big_s8 d2 _).mono ?_); rintro e w' ⟨rfl, hb⟩; have hh := Bd.on (by first | with_reducible exact hh | with_reducible exact start) hb; clear hb))
  go_wp2
  go_ret
  exact ⟨rfl, hh.b⟩
end Go.Proofs.Ytiaahjoldahlnaa
