/- codec.PutText, at this translation. -/
import Derived.Test.YtiaahjoldahlnaaCdGetInt
import Derived.Test.YtiaahjoldahlnaaCdBuild
import Derived.Test.YtiaahjoldahlnaaCdShelf
namespace Go.Proofs.Ytiaahjoldahlnaa.Cd
open Go.RowKit Go.Shelf

/-- The bytes of a text. -/
def encT (s : ByteArray) : List Nat := enc7 s.size ++ nats s
theorem strN_encT (s : ByteArray) : strN (encT s) = strN (enc7 s.size) ++ s := by rw [encT, strN_append, strN_nats]
theorem encT_byte (s : ByteArray) : ∀ d ∈ encT s, d < 256 := by
  intro d hd
  rcases List.mem_append.1 hd with h | h
  · exact enc7_byte _ d h
  · exact nats_lt s d h

set_option maxHeartbeats 1000000 in
theorem putText_great (s : ByteArray) (h : 65536 < s.size) (hm : s.size ≤ maxLen) (w : World) : Calls Try.prog 77 #[.string s] w fun e W' => e = .returned (.tuple #[.string ⟨#[]⟩, .int .i64 4]) ∧ Below w.heap.size w W' := by
  unfold maxLen at hm
  have h' : (65536 : Int) < s.size := by omega
  go_enter Try.func77, Try.ntmps77
  go_wp2
  go_ret2
  exact ⟨rfl, Below.refl _ _⟩
set_option maxHeartbeats 1000000 in
theorem putText_good (s : ByteArray) (h : s.size ≤ 65536) (w : World) : Calls Try.prog 77 #[.string s] w fun e W' => e = .returned (.tuple #[.string (strN (encT s)), .int .i64 0]) ∧ Below w.heap.size w W' := by
  have h' : ¬ (65536 : Int) < s.size := by omega
  have H := Lib.hid (strN_encT s)
  have hl : (enc7 s.size).length ≤ 6 := (enc7_len s.size 6 (by omega)).2 (by omega)
  have hz := strN_size (enc7 s.size)
  have hz2 : (strN (enc7 s.size)).size ≤ 6 := by omega
  clear hz hl
  go_enter Try.func77, Try.ntmps77
  go_wp2_with fail
  ((with_reducible refine (putInt_good _ s.size rfl (by omega) _).mono ?_); rintro e w1 ⟨rfl, hb1⟩)
  go_wp2
  go_ret2
  exact ⟨by rw [H.out]; rfl, hb1⟩

/-- A slice whose cells are these texts. -/
def IsStrs (w : World) (v : Value) (L : List ByteArray) : Prop :=
  ∃ a cap, v = .slice a L.length cap ∧ L.length ≤ maxLen ∧ L.length ≤ cap ∧ (L = [] ∨ ∃ b off, a = some ⟨b, off, none⟩ ∧ b < w.heap.size ∧ ∀ j (h : j < L.length), w.cell? ⟨b, off + j, none⟩ = some (.string L[j]))
theorem IsStrs.below {w w' : World} {v : Value} {L : List ByteArray} {B : Nat} (h : IsStrs w v L) (hB : Below B w w') (hz : w.heap.size ≤ B) : IsStrs w' v L := by
  obtain ⟨a, cap, e, h1, h2, h3⟩ := h
  refine ⟨a, cap, e, h1, h2, h3.imp id ?_⟩
  rintro ⟨b, off, e2, hb, hj⟩
  exact ⟨b, off, e2, Nat.lt_of_lt_of_le hb hB.size, fun j h => (hB.cell (p := ⟨b, off + j, none⟩) (show b < B by omega)).trans (hj j h)⟩

/-- The bytes of a list of texts. -/
def encTs (L : List ByteArray) : List Nat := enc7 L.length ++ L.flatMap encT
/-- As a builder's cells. -/
abbrev bcells (l : List Nat) : List Value := Lib.byteCells (l.map UInt8.ofNat)
theorem bcells_append (l m : List Nat) : bcells (l ++ m) = bcells l ++ bcells m := by simp [bcells, Lib.byteCells]
theorem strCells_strN (l : List Nat) : Lib.strCells (strN l) = bcells l := rfl
theorem bcells_length (l : List Nat) : (bcells l).length = l.length := by simp [bcells, Lib.byteCells]
theorem encT_len (s : ByteArray) (h : s.size ≤ 65536) : (encT s).length ≤ 65542 := by
  have := (enc7_len s.size 6 (by omega)).2 (by omega)
  rw [encT, List.length_append, nats_length]; omega
theorem flat_len (L : List ByteArray) (h : ∀ s ∈ L, s.size ≤ 65536) : (L.flatMap encT).length ≤ L.length * 65542 := by
  induction L with
  | nil => simp
  | cons s L ih =>
    have h1 := encT_len s (h s (by simp))
    have h2 := ih (fun t ht => h t (by simp [ht]))
    simp only [List.flatMap_cons, List.length_append, List.length_cons, Nat.add_mul]
    omega

theorem own_kept {W W' : World} {B e : Nat} {v : Value} {n : Nat} {xs : List Value} (h : W.ownsRow B e 1 v n xs) (hB : Below W.heap.size W W') : W'.ownsRow B e 1 v n xs := by
  refine h.kept (row := none) ⟨hB.os, hB.tape, hB.output, hB.size, fun k hk _ => hB.block k hk⟩ ?_
  cases hv : v.ownBlock
  · exact .inl rfl
  · exact .inr (by simp)
theorem builderAt_below {T e : TypeId} {B b : Nat} {p : Value} {bs : List Value} {W W' : World} (h : Lib.BuilderAt T e B b p bs W) (hB : Below W.heap.size W W') : Lib.BuilderAt T e B b p bs W' := by
  obtain ⟨h1, v, h2, h3, h4⟩ := h
  exact ⟨h1, v, (hB.block b (lt_of_block h2)).trans h2, own_kept h3 hB, h4⟩
theorem builder_below {T e : TypeId} {B b : Nat} {bs : List Value} {W W' : World} (h : Lib.IsBuilder T e B b bs W) (hB : Below W.heap.size W W') : Lib.IsBuilder T e B b bs W' := by
  rcases h with h | h
  · exact .inl (builderAt_below h hB)
  · exact .inr (builderAt_below h hB)
end Go.Proofs.Ytiaahjoldahlnaa.Cd
