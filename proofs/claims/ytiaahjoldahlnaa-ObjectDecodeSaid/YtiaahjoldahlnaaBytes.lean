/- The reference's Bytes: the sixteen bytes of a digest, at this translation. -/
import Derived.Test.YtiaahjoldahlnaaDigS
namespace Go.Proofs.Ytiaahjoldahlnaa
open Go.RowKit Go.Great

/-- The outer rounds. -/
def OutAt (d1 d2 : Nat) (w : World) (s4 : Value) (wr : World) : Prop :=
  (s4 = .int .i64 0 ∧ wr = (w.alloc (.cells #[.int .u64 d1, .int .u64 d2] 25)).alloc (.cells #[.int .u8 0, .int .u8 0, .int .u8 0, .int .u8 0, .int .u8 0, .int .u8 0, .int .u8 0, .int .u8 0, .int .u8 0, .int .u8 0, .int .u8 0, .int .u8 0, .int .u8 0, .int .u8 0, .int .u8 0, .int .u8 0] 5)) ∨ (s4 = .int .i64 1 ∧ wr = (w.alloc (.cells #[.int .u64 d1, .int .u64 d2] 25)).alloc (.cells #[.int .u8 ((d1 / 256 ^ 7 % 256 : Nat) : Int), .int .u8 ((d1 / 256 ^ 6 % 256 : Nat) : Int), .int .u8 ((d1 / 256 ^ 5 % 256 : Nat) : Int), .int .u8 ((d1 / 256 ^ 4 % 256 : Nat) : Int), .int .u8 ((d1 / 256 ^ 3 % 256 : Nat) : Int), .int .u8 ((d1 / 256 ^ 2 % 256 : Nat) : Int), .int .u8 ((d1 / 256 ^ 1 % 256 : Nat) : Int), .int .u8 ((d1 / 256 ^ 0 % 256 : Nat) : Int), .int .u8 0, .int .u8 0, .int .u8 0, .int .u8 0, .int .u8 0, .int .u8 0, .int .u8 0, .int .u8 0] 5)) ∨ (s4 = .int .i64 2 ∧ wr = (w.alloc (.cells #[.int .u64 d1, .int .u64 d2] 25)).alloc (.cells #[.int .u8 ((d1 / 256 ^ 7 % 256 : Nat) : Int), .int .u8 ((d1 / 256 ^ 6 % 256 : Nat) : Int), .int .u8 ((d1 / 256 ^ 5 % 256 : Nat) : Int), .int .u8 ((d1 / 256 ^ 4 % 256 : Nat) : Int), .int .u8 ((d1 / 256 ^ 3 % 256 : Nat) : Int), .int .u8 ((d1 / 256 ^ 2 % 256 : Nat) : Int), .int .u8 ((d1 / 256 ^ 1 % 256 : Nat) : Int), .int .u8 ((d1 / 256 ^ 0 % 256 : Nat) : Int), .int .u8 ((d2 / 256 ^ 7 % 256 : Nat) : Int), .int .u8 ((d2 / 256 ^ 6 % 256 : Nat) : Int), .int .u8 ((d2 / 256 ^ 5 % 256 : Nat) : Int), .int .u8 ((d2 / 256 ^ 4 % 256 : Nat) : Int), .int .u8 ((d2 / 256 ^ 3 % 256 : Nat) : Int), .int .u8 ((d2 / 256 ^ 2 % 256 : Nat) : Int), .int .u8 ((d2 / 256 ^ 1 % 256 : Nat) : Int), .int .u8 ((d2 / 256 ^ 0 % 256 : Nat) : Int)] 5))
/-- The inner rounds. -/
def InAt0 (d1 d2 : Nat) (w : World) (s5 s6 : Value) (wr : World) : Prop :=
  (s5 = .int .u64 ((d1 / 256 ^ 0 : Nat) : Int) ∧ s6 = .int .i64 (7) ∧ wr = (w.alloc (.cells #[.int .u64 d1, .int .u64 d2] 25)).alloc (.cells #[.int .u8 0, .int .u8 0, .int .u8 0, .int .u8 0, .int .u8 0, .int .u8 0, .int .u8 0, .int .u8 0, .int .u8 0, .int .u8 0, .int .u8 0, .int .u8 0, .int .u8 0, .int .u8 0, .int .u8 0, .int .u8 0] 5)) ∨ (s5 = .int .u64 ((d1 / 256 ^ 1 : Nat) : Int) ∧ s6 = .int .i64 (6) ∧ wr = (w.alloc (.cells #[.int .u64 d1, .int .u64 d2] 25)).alloc (.cells #[.int .u8 0, .int .u8 0, .int .u8 0, .int .u8 0, .int .u8 0, .int .u8 0, .int .u8 0, .int .u8 ((d1 / 256 ^ 0 % 256 : Nat) : Int), .int .u8 0, .int .u8 0, .int .u8 0, .int .u8 0, .int .u8 0, .int .u8 0, .int .u8 0, .int .u8 0] 5)) ∨ (s5 = .int .u64 ((d1 / 256 ^ 2 : Nat) : Int) ∧ s6 = .int .i64 (5) ∧ wr = (w.alloc (.cells #[.int .u64 d1, .int .u64 d2] 25)).alloc (.cells #[.int .u8 0, .int .u8 0, .int .u8 0, .int .u8 0, .int .u8 0, .int .u8 0, .int .u8 ((d1 / 256 ^ 1 % 256 : Nat) : Int), .int .u8 ((d1 / 256 ^ 0 % 256 : Nat) : Int), .int .u8 0, .int .u8 0, .int .u8 0, .int .u8 0, .int .u8 0, .int .u8 0, .int .u8 0, .int .u8 0] 5)) ∨ (s5 = .int .u64 ((d1 / 256 ^ 3 : Nat) : Int) ∧ s6 = .int .i64 (4) ∧ wr = (w.alloc (.cells #[.int .u64 d1, .int .u64 d2] 25)).alloc (.cells #[.int .u8 0, .int .u8 0, .int .u8 0, .int .u8 0, .int .u8 0, .int .u8 ((d1 / 256 ^ 2 % 256 : Nat) : Int), .int .u8 ((d1 / 256 ^ 1 % 256 : Nat) : Int), .int .u8 ((d1 / 256 ^ 0 % 256 : Nat) : Int), .int .u8 0, .int .u8 0, .int .u8 0, .int .u8 0, .int .u8 0, .int .u8 0, .int .u8 0, .int .u8 0] 5)) ∨ (s5 = .int .u64 ((d1 / 256 ^ 4 : Nat) : Int) ∧ s6 = .int .i64 (3) ∧ wr = (w.alloc (.cells #[.int .u64 d1, .int .u64 d2] 25)).alloc (.cells #[.int .u8 0, .int .u8 0, .int .u8 0, .int .u8 0, .int .u8 ((d1 / 256 ^ 3 % 256 : Nat) : Int), .int .u8 ((d1 / 256 ^ 2 % 256 : Nat) : Int), .int .u8 ((d1 / 256 ^ 1 % 256 : Nat) : Int), .int .u8 ((d1 / 256 ^ 0 % 256 : Nat) : Int), .int .u8 0, .int .u8 0, .int .u8 0, .int .u8 0, .int .u8 0, .int .u8 0, .int .u8 0, .int .u8 0] 5)) ∨ (s5 = .int .u64 ((d1 / 256 ^ 5 : Nat) : Int) ∧ s6 = .int .i64 (2) ∧ wr = (w.alloc (.cells #[.int .u64 d1, .int .u64 d2] 25)).alloc (.cells #[.int .u8 0, .int .u8 0, .int .u8 0, .int .u8 ((d1 / 256 ^ 4 % 256 : Nat) : Int), .int .u8 ((d1 / 256 ^ 3 % 256 : Nat) : Int), .int .u8 ((d1 / 256 ^ 2 % 256 : Nat) : Int), .int .u8 ((d1 / 256 ^ 1 % 256 : Nat) : Int), .int .u8 ((d1 / 256 ^ 0 % 256 : Nat) : Int), .int .u8 0, .int .u8 0, .int .u8 0, .int .u8 0, .int .u8 0, .int .u8 0, .int .u8 0, .int .u8 0] 5)) ∨ (s5 = .int .u64 ((d1 / 256 ^ 6 : Nat) : Int) ∧ s6 = .int .i64 (1) ∧ wr = (w.alloc (.cells #[.int .u64 d1, .int .u64 d2] 25)).alloc (.cells #[.int .u8 0, .int .u8 0, .int .u8 ((d1 / 256 ^ 5 % 256 : Nat) : Int), .int .u8 ((d1 / 256 ^ 4 % 256 : Nat) : Int), .int .u8 ((d1 / 256 ^ 3 % 256 : Nat) : Int), .int .u8 ((d1 / 256 ^ 2 % 256 : Nat) : Int), .int .u8 ((d1 / 256 ^ 1 % 256 : Nat) : Int), .int .u8 ((d1 / 256 ^ 0 % 256 : Nat) : Int), .int .u8 0, .int .u8 0, .int .u8 0, .int .u8 0, .int .u8 0, .int .u8 0, .int .u8 0, .int .u8 0] 5)) ∨ (s5 = .int .u64 ((d1 / 256 ^ 7 : Nat) : Int) ∧ s6 = .int .i64 (0) ∧ wr = (w.alloc (.cells #[.int .u64 d1, .int .u64 d2] 25)).alloc (.cells #[.int .u8 0, .int .u8 ((d1 / 256 ^ 6 % 256 : Nat) : Int), .int .u8 ((d1 / 256 ^ 5 % 256 : Nat) : Int), .int .u8 ((d1 / 256 ^ 4 % 256 : Nat) : Int), .int .u8 ((d1 / 256 ^ 3 % 256 : Nat) : Int), .int .u8 ((d1 / 256 ^ 2 % 256 : Nat) : Int), .int .u8 ((d1 / 256 ^ 1 % 256 : Nat) : Int), .int .u8 ((d1 / 256 ^ 0 % 256 : Nat) : Int), .int .u8 0, .int .u8 0, .int .u8 0, .int .u8 0, .int .u8 0, .int .u8 0, .int .u8 0, .int .u8 0] 5)) ∨ (s5 = .int .u64 ((d1 / 256 ^ 8 : Nat) : Int) ∧ s6 = .int .i64 (-1) ∧ wr = (w.alloc (.cells #[.int .u64 d1, .int .u64 d2] 25)).alloc (.cells #[.int .u8 ((d1 / 256 ^ 7 % 256 : Nat) : Int), .int .u8 ((d1 / 256 ^ 6 % 256 : Nat) : Int), .int .u8 ((d1 / 256 ^ 5 % 256 : Nat) : Int), .int .u8 ((d1 / 256 ^ 4 % 256 : Nat) : Int), .int .u8 ((d1 / 256 ^ 3 % 256 : Nat) : Int), .int .u8 ((d1 / 256 ^ 2 % 256 : Nat) : Int), .int .u8 ((d1 / 256 ^ 1 % 256 : Nat) : Int), .int .u8 ((d1 / 256 ^ 0 % 256 : Nat) : Int), .int .u8 0, .int .u8 0, .int .u8 0, .int .u8 0, .int .u8 0, .int .u8 0, .int .u8 0, .int .u8 0] 5))
/-- The inner rounds. -/
def InAt1 (d1 d2 : Nat) (w : World) (s5 s6 : Value) (wr : World) : Prop :=
  (s5 = .int .u64 ((d2 / 256 ^ 0 : Nat) : Int) ∧ s6 = .int .i64 (7) ∧ wr = (w.alloc (.cells #[.int .u64 d1, .int .u64 d2] 25)).alloc (.cells #[.int .u8 ((d1 / 256 ^ 7 % 256 : Nat) : Int), .int .u8 ((d1 / 256 ^ 6 % 256 : Nat) : Int), .int .u8 ((d1 / 256 ^ 5 % 256 : Nat) : Int), .int .u8 ((d1 / 256 ^ 4 % 256 : Nat) : Int), .int .u8 ((d1 / 256 ^ 3 % 256 : Nat) : Int), .int .u8 ((d1 / 256 ^ 2 % 256 : Nat) : Int), .int .u8 ((d1 / 256 ^ 1 % 256 : Nat) : Int), .int .u8 ((d1 / 256 ^ 0 % 256 : Nat) : Int), .int .u8 0, .int .u8 0, .int .u8 0, .int .u8 0, .int .u8 0, .int .u8 0, .int .u8 0, .int .u8 0] 5)) ∨ (s5 = .int .u64 ((d2 / 256 ^ 1 : Nat) : Int) ∧ s6 = .int .i64 (6) ∧ wr = (w.alloc (.cells #[.int .u64 d1, .int .u64 d2] 25)).alloc (.cells #[.int .u8 ((d1 / 256 ^ 7 % 256 : Nat) : Int), .int .u8 ((d1 / 256 ^ 6 % 256 : Nat) : Int), .int .u8 ((d1 / 256 ^ 5 % 256 : Nat) : Int), .int .u8 ((d1 / 256 ^ 4 % 256 : Nat) : Int), .int .u8 ((d1 / 256 ^ 3 % 256 : Nat) : Int), .int .u8 ((d1 / 256 ^ 2 % 256 : Nat) : Int), .int .u8 ((d1 / 256 ^ 1 % 256 : Nat) : Int), .int .u8 ((d1 / 256 ^ 0 % 256 : Nat) : Int), .int .u8 0, .int .u8 0, .int .u8 0, .int .u8 0, .int .u8 0, .int .u8 0, .int .u8 0, .int .u8 ((d2 / 256 ^ 0 % 256 : Nat) : Int)] 5)) ∨ (s5 = .int .u64 ((d2 / 256 ^ 2 : Nat) : Int) ∧ s6 = .int .i64 (5) ∧ wr = (w.alloc (.cells #[.int .u64 d1, .int .u64 d2] 25)).alloc (.cells #[.int .u8 ((d1 / 256 ^ 7 % 256 : Nat) : Int), .int .u8 ((d1 / 256 ^ 6 % 256 : Nat) : Int), .int .u8 ((d1 / 256 ^ 5 % 256 : Nat) : Int), .int .u8 ((d1 / 256 ^ 4 % 256 : Nat) : Int), .int .u8 ((d1 / 256 ^ 3 % 256 : Nat) : Int), .int .u8 ((d1 / 256 ^ 2 % 256 : Nat) : Int), .int .u8 ((d1 / 256 ^ 1 % 256 : Nat) : Int), .int .u8 ((d1 / 256 ^ 0 % 256 : Nat) : Int), .int .u8 0, .int .u8 0, .int .u8 0, .int .u8 0, .int .u8 0, .int .u8 0, .int .u8 ((d2 / 256 ^ 1 % 256 : Nat) : Int), .int .u8 ((d2 / 256 ^ 0 % 256 : Nat) : Int)] 5)) ∨ (s5 = .int .u64 ((d2 / 256 ^ 3 : Nat) : Int) ∧ s6 = .int .i64 (4) ∧ wr = (w.alloc (.cells #[.int .u64 d1, .int .u64 d2] 25)).alloc (.cells #[.int .u8 ((d1 / 256 ^ 7 % 256 : Nat) : Int), .int .u8 ((d1 / 256 ^ 6 % 256 : Nat) : Int), .int .u8 ((d1 / 256 ^ 5 % 256 : Nat) : Int), .int .u8 ((d1 / 256 ^ 4 % 256 : Nat) : Int), .int .u8 ((d1 / 256 ^ 3 % 256 : Nat) : Int), .int .u8 ((d1 / 256 ^ 2 % 256 : Nat) : Int), .int .u8 ((d1 / 256 ^ 1 % 256 : Nat) : Int), .int .u8 ((d1 / 256 ^ 0 % 256 : Nat) : Int), .int .u8 0, .int .u8 0, .int .u8 0, .int .u8 0, .int .u8 0, .int .u8 ((d2 / 256 ^ 2 % 256 : Nat) : Int), .int .u8 ((d2 / 256 ^ 1 % 256 : Nat) : Int), .int .u8 ((d2 / 256 ^ 0 % 256 : Nat) : Int)] 5)) ∨ (s5 = .int .u64 ((d2 / 256 ^ 4 : Nat) : Int) ∧ s6 = .int .i64 (3) ∧ wr = (w.alloc (.cells #[.int .u64 d1, .int .u64 d2] 25)).alloc (.cells #[.int .u8 ((d1 / 256 ^ 7 % 256 : Nat) : Int), .int .u8 ((d1 / 256 ^ 6 % 256 : Nat) : Int), .int .u8 ((d1 / 256 ^ 5 % 256 : Nat) : Int), .int .u8 ((d1 / 256 ^ 4 % 256 : Nat) : Int), .int .u8 ((d1 / 256 ^ 3 % 256 : Nat) : Int), .int .u8 ((d1 / 256 ^ 2 % 256 : Nat) : Int), .int .u8 ((d1 / 256 ^ 1 % 256 : Nat) : Int), .int .u8 ((d1 / 256 ^ 0 % 256 : Nat) : Int), .int .u8 0, .int .u8 0, .int .u8 0, .int .u8 0, .int .u8 ((d2 / 256 ^ 3 % 256 : Nat) : Int), .int .u8 ((d2 / 256 ^ 2 % 256 : Nat) : Int), .int .u8 ((d2 / 256 ^ 1 % 256 : Nat) : Int), .int .u8 ((d2 / 256 ^ 0 % 256 : Nat) : Int)] 5)) ∨ (s5 = .int .u64 ((d2 / 256 ^ 5 : Nat) : Int) ∧ s6 = .int .i64 (2) ∧ wr = (w.alloc (.cells #[.int .u64 d1, .int .u64 d2] 25)).alloc (.cells #[.int .u8 ((d1 / 256 ^ 7 % 256 : Nat) : Int), .int .u8 ((d1 / 256 ^ 6 % 256 : Nat) : Int), .int .u8 ((d1 / 256 ^ 5 % 256 : Nat) : Int), .int .u8 ((d1 / 256 ^ 4 % 256 : Nat) : Int), .int .u8 ((d1 / 256 ^ 3 % 256 : Nat) : Int), .int .u8 ((d1 / 256 ^ 2 % 256 : Nat) : Int), .int .u8 ((d1 / 256 ^ 1 % 256 : Nat) : Int), .int .u8 ((d1 / 256 ^ 0 % 256 : Nat) : Int), .int .u8 0, .int .u8 0, .int .u8 0, .int .u8 ((d2 / 256 ^ 4 % 256 : Nat) : Int), .int .u8 ((d2 / 256 ^ 3 % 256 : Nat) : Int), .int .u8 ((d2 / 256 ^ 2 % 256 : Nat) : Int), .int .u8 ((d2 / 256 ^ 1 % 256 : Nat) : Int), .int .u8 ((d2 / 256 ^ 0 % 256 : Nat) : Int)] 5)) ∨ (s5 = .int .u64 ((d2 / 256 ^ 6 : Nat) : Int) ∧ s6 = .int .i64 (1) ∧ wr = (w.alloc (.cells #[.int .u64 d1, .int .u64 d2] 25)).alloc (.cells #[.int .u8 ((d1 / 256 ^ 7 % 256 : Nat) : Int), .int .u8 ((d1 / 256 ^ 6 % 256 : Nat) : Int), .int .u8 ((d1 / 256 ^ 5 % 256 : Nat) : Int), .int .u8 ((d1 / 256 ^ 4 % 256 : Nat) : Int), .int .u8 ((d1 / 256 ^ 3 % 256 : Nat) : Int), .int .u8 ((d1 / 256 ^ 2 % 256 : Nat) : Int), .int .u8 ((d1 / 256 ^ 1 % 256 : Nat) : Int), .int .u8 ((d1 / 256 ^ 0 % 256 : Nat) : Int), .int .u8 0, .int .u8 0, .int .u8 ((d2 / 256 ^ 5 % 256 : Nat) : Int), .int .u8 ((d2 / 256 ^ 4 % 256 : Nat) : Int), .int .u8 ((d2 / 256 ^ 3 % 256 : Nat) : Int), .int .u8 ((d2 / 256 ^ 2 % 256 : Nat) : Int), .int .u8 ((d2 / 256 ^ 1 % 256 : Nat) : Int), .int .u8 ((d2 / 256 ^ 0 % 256 : Nat) : Int)] 5)) ∨ (s5 = .int .u64 ((d2 / 256 ^ 7 : Nat) : Int) ∧ s6 = .int .i64 (0) ∧ wr = (w.alloc (.cells #[.int .u64 d1, .int .u64 d2] 25)).alloc (.cells #[.int .u8 ((d1 / 256 ^ 7 % 256 : Nat) : Int), .int .u8 ((d1 / 256 ^ 6 % 256 : Nat) : Int), .int .u8 ((d1 / 256 ^ 5 % 256 : Nat) : Int), .int .u8 ((d1 / 256 ^ 4 % 256 : Nat) : Int), .int .u8 ((d1 / 256 ^ 3 % 256 : Nat) : Int), .int .u8 ((d1 / 256 ^ 2 % 256 : Nat) : Int), .int .u8 ((d1 / 256 ^ 1 % 256 : Nat) : Int), .int .u8 ((d1 / 256 ^ 0 % 256 : Nat) : Int), .int .u8 0, .int .u8 ((d2 / 256 ^ 6 % 256 : Nat) : Int), .int .u8 ((d2 / 256 ^ 5 % 256 : Nat) : Int), .int .u8 ((d2 / 256 ^ 4 % 256 : Nat) : Int), .int .u8 ((d2 / 256 ^ 3 % 256 : Nat) : Int), .int .u8 ((d2 / 256 ^ 2 % 256 : Nat) : Int), .int .u8 ((d2 / 256 ^ 1 % 256 : Nat) : Int), .int .u8 ((d2 / 256 ^ 0 % 256 : Nat) : Int)] 5)) ∨ (s5 = .int .u64 ((d2 / 256 ^ 8 : Nat) : Int) ∧ s6 = .int .i64 (-1) ∧ wr = (w.alloc (.cells #[.int .u64 d1, .int .u64 d2] 25)).alloc (.cells #[.int .u8 ((d1 / 256 ^ 7 % 256 : Nat) : Int), .int .u8 ((d1 / 256 ^ 6 % 256 : Nat) : Int), .int .u8 ((d1 / 256 ^ 5 % 256 : Nat) : Int), .int .u8 ((d1 / 256 ^ 4 % 256 : Nat) : Int), .int .u8 ((d1 / 256 ^ 3 % 256 : Nat) : Int), .int .u8 ((d1 / 256 ^ 2 % 256 : Nat) : Int), .int .u8 ((d1 / 256 ^ 1 % 256 : Nat) : Int), .int .u8 ((d1 / 256 ^ 0 % 256 : Nat) : Int), .int .u8 ((d2 / 256 ^ 7 % 256 : Nat) : Int), .int .u8 ((d2 / 256 ^ 6 % 256 : Nat) : Int), .int .u8 ((d2 / 256 ^ 5 % 256 : Nat) : Int), .int .u8 ((d2 / 256 ^ 4 % 256 : Nat) : Int), .int .u8 ((d2 / 256 ^ 3 % 256 : Nat) : Int), .int .u8 ((d2 / 256 ^ 2 % 256 : Nat) : Int), .int .u8 ((d2 / 256 ^ 1 % 256 : Nat) : Int), .int .u8 ((d2 / 256 ^ 0 % 256 : Nat) : Int)] 5))
theorem sixteen (j : Nat) (h : j < 16) : j = 0 ∨ j = 1 ∨ j = 2 ∨ j = 3 ∨ j = 4 ∨ j = 5 ∨ j = 6 ∨ j = 7 ∨ j = 8 ∨ j = 9 ∨ j = 10 ∨ j = 11 ∨ j = 12 ∨ j = 13 ∨ j = 14 ∨ j = 15 := by omega

set_option maxRecDepth 100000 in
set_option maxHeartbeats 8000000 in
theorem refBytes_any (d1 d2 : Nat) (_hd1 : d1 < 2 ^ 64) (_hd2 : d2 < 2 ^ 64) (w : World) :
    Calls Try.prog 50 #[.agg #[.int .u64 d1, .int .u64 d2]] w fun e w' => e = .returned (.string (dgS d1 d2)) ∧ Below w.heap.size w w' := by
  have hmk := run_mk16 (w.alloc (.cells #[.int .u64 d1, .int .u64 d2] 25))
  have hb : ∀ c, Below w.heap.size w ((w.alloc (.cells #[.int .u64 d1, .int .u64 d2] 25)).alloc (.cells c 5)) := fun c => ((Below.refl _ _).alloc (Nat.le_refl _) _).alloc (by simp) _
  go_enter Try.func50, Try.ntmps50
  go_wp2
  go_loopw [4] (fun s4 wr => OutAt d1 d2 w s4 wr) (fun i _ => 2 - (intOf i).toNat)
  case atStart => exact .inl ⟨rfl, rfl⟩
  case round =>
    rcases hrel with ⟨rfl, rfl⟩ | ⟨rfl, rfl⟩ | ⟨rfl, hW⟩
    · go_wp2
      go_loopw [5, 6] (fun s5 s6 wr => InAt0 d1 d2 w s5 s6 wr) (fun _ i _ => (intOf i + 1).toNat)
      case atStart => exact .inl ⟨by simp, rfl, by first | rfl | simp⟩
      case round =>
        rcases hrel with ⟨rfl, rfl, rfl⟩ | ⟨rfl, rfl, rfl⟩ | ⟨rfl, rfl, rfl⟩ | ⟨rfl, rfl, rfl⟩ | ⟨rfl, rfl, rfl⟩ | ⟨rfl, rfl, rfl⟩ | ⟨rfl, rfl, rfl⟩ | ⟨rfl, rfl, rfl⟩ | ⟨rfl, rfl, rfl⟩
        · go_wp2
          go_roundw
          case rel => exact .inr (.inl ⟨by simp <;> omega, rfl, by simp⟩)
          case measure => simp [intOf]
        · go_wp2
          go_roundw
          case rel => exact .inr (.inr (.inl ⟨by simp <;> omega, rfl, by simp⟩))
          case measure => simp [intOf]
        · go_wp2
          go_roundw
          case rel => exact .inr (.inr (.inr (.inl ⟨by simp <;> omega, rfl, by simp⟩)))
          case measure => simp [intOf]
        · go_wp2
          go_roundw
          case rel => exact .inr (.inr (.inr (.inr (.inl ⟨by simp <;> omega, rfl, by simp⟩))))
          case measure => simp [intOf]
        · go_wp2
          go_roundw
          case rel => exact .inr (.inr (.inr (.inr (.inr (.inl ⟨by simp <;> omega, rfl, by simp⟩)))))
          case measure => simp [intOf]
        · go_wp2
          go_roundw
          case rel => exact .inr (.inr (.inr (.inr (.inr (.inr (.inl ⟨by simp <;> omega, rfl, by simp⟩))))))
          case measure => simp [intOf]
        · go_wp2
          go_roundw
          case rel => exact .inr (.inr (.inr (.inr (.inr (.inr (.inr (.inl ⟨by simp <;> omega, rfl, by simp⟩)))))))
          case measure => simp [intOf]
        · go_wp2
          go_roundw
          case rel => exact .inr (.inr (.inr (.inr (.inr (.inr (.inr (.inr (⟨by simp <;> omega, rfl, by simp⟩))))))))
          case measure => simp [intOf]
        · go_wp2
          go_roundw
          case rel => exact .inr (.inl ⟨rfl, by first | rfl | simp⟩)
          case measure => simp [intOf]
    · go_wp2
      go_loopw [5, 6] (fun s5 s6 wr => InAt1 d1 d2 w s5 s6 wr) (fun _ i _ => (intOf i + 1).toNat)
      case atStart => exact .inl ⟨by simp, rfl, by first | rfl | simp⟩
      case round =>
        rcases hrel with ⟨rfl, rfl, rfl⟩ | ⟨rfl, rfl, rfl⟩ | ⟨rfl, rfl, rfl⟩ | ⟨rfl, rfl, rfl⟩ | ⟨rfl, rfl, rfl⟩ | ⟨rfl, rfl, rfl⟩ | ⟨rfl, rfl, rfl⟩ | ⟨rfl, rfl, rfl⟩ | ⟨rfl, rfl, rfl⟩
        · go_wp2
          go_roundw
          case rel => exact .inr (.inl ⟨by simp <;> omega, rfl, by simp⟩)
          case measure => simp [intOf]
        · go_wp2
          go_roundw
          case rel => exact .inr (.inr (.inl ⟨by simp <;> omega, rfl, by simp⟩))
          case measure => simp [intOf]
        · go_wp2
          go_roundw
          case rel => exact .inr (.inr (.inr (.inl ⟨by simp <;> omega, rfl, by simp⟩)))
          case measure => simp [intOf]
        · go_wp2
          go_roundw
          case rel => exact .inr (.inr (.inr (.inr (.inl ⟨by simp <;> omega, rfl, by simp⟩))))
          case measure => simp [intOf]
        · go_wp2
          go_roundw
          case rel => exact .inr (.inr (.inr (.inr (.inr (.inl ⟨by simp <;> omega, rfl, by simp⟩)))))
          case measure => simp [intOf]
        · go_wp2
          go_roundw
          case rel => exact .inr (.inr (.inr (.inr (.inr (.inr (.inl ⟨by simp <;> omega, rfl, by simp⟩))))))
          case measure => simp [intOf]
        · go_wp2
          go_roundw
          case rel => exact .inr (.inr (.inr (.inr (.inr (.inr (.inr (.inl ⟨by simp <;> omega, rfl, by simp⟩)))))))
          case measure => simp [intOf]
        · go_wp2
          go_roundw
          case rel => exact .inr (.inr (.inr (.inr (.inr (.inr (.inr (.inr (⟨by simp <;> omega, rfl, by simp⟩))))))))
          case measure => simp [intOf]
        · go_wp2
          go_roundw
          case rel => exact .inr (.inr (⟨rfl, by first | rfl | simp⟩))
          case measure => simp [intOf]
    · have hB : Below w.heap.size w wr := hW ▸ hb _
      have hcv := run_convert_bytes_back (P := Try.prog) wr 69 9 5 ⟨w.heap.size + 1, 0, none⟩ 16 (by8 d1 ++ by8 d2) Try.underlying69 Try.underlying5 Try.underlying9 (fun j hj => by
        have hj8 : j < 16 := hj
        rw [hW, show w.heap.size + 1 = (w.alloc (.cells #[.int .u64 d1, .int .u64 d2] 25)).heap.size by simp]
        generalize w.alloc (.cells #[.int .u64 d1, .int .u64 d2] 25) = W2
        rcases sixteen j hj8 with rfl | rfl | rfl | rfl | rfl | rfl | rfl | rfl | rfl | rfl | rfl | rfl | rfl | rfl | rfl | rfl <;> simp [by8, bt_val, World.cell?_alloc_new, Addr.add])
      rw [show (by8 d1 ++ by8 d2).length = 16 from rfl] at hcv
      clear hW
      go_wp2
      go_ret
      exact ⟨rfl, hB⟩
end Go.Proofs.Ytiaahjoldahlnaa
