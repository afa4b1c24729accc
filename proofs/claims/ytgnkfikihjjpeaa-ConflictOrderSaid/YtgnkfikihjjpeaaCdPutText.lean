/- codec.PutText and PutTexts, at this translation. -/
import Derived.Test.YtgnkfikihjjpeaaCdGetInt
import Derived.Test.YtgnkfikihjjpeaaCdBuild
import Derived.Test.YtgnkfikihjjpeaaCdShelf
namespace Go.Proofs.Ytgnkfikihjjpeaa.Cd
open Go.RowKit Go.Shelf

/-- The bytes of a text. -/
def encT (s : ByteArray) : List Nat := enc7 s.size ++ nats s
theorem strN_encT (s : ByteArray) : strN (encT s) = strN (enc7 s.size) ++ s := by rw [encT, strN_append, strN_nats]
theorem encT_byte (s : ByteArray) : ∀ d ∈ encT s, d < 256 := by
  intro d hd
  rcases List.mem_append.1 hd with h | h
  · exact enc7_byte _ d h
  · exact nats_lt s d h

set_option maxHeartbeats 1000000 in
theorem putText_great (s : ByteArray) (h : 65536 < s.size) (hm : s.size ≤ maxLen) (w : World) : Calls Try.prog 43 #[.string s] w fun e W' => e = .returned (.tuple #[.string ⟨#[]⟩, .int .i64 4]) ∧ Below w.heap.size w W' := by
  unfold maxLen at hm
  have h' : (65536 : Int) < s.size := by omega
  go_enter Try.func43, Try.ntmps43
  go_wp2
  go_ret2
  exact ⟨rfl, Below.refl _ _⟩
set_option maxHeartbeats 1000000 in
theorem putText_good (s : ByteArray) (h : s.size ≤ 65536) (w : World) : Calls Try.prog 43 #[.string s] w fun e W' => e = .returned (.tuple #[.string (strN (encT s)), .int .i64 0]) ∧ Below w.heap.size w W' := by
  have h' : ¬ (65536 : Int) < s.size := by omega
  have H := Lib.hid (strN_encT s)
  have hl : (enc7 s.size).length ≤ 6 := (enc7_len s.size 6 (by omega)).2 (by omega)
  have hz := strN_size (enc7 s.size)
  have hz2 : (strN (enc7 s.size)).size ≤ 6 := by omega
  clear hz hl
  go_enter Try.func43, Try.ntmps43
  go_wp2_with fail
  ((with_reducible refine (putInt_good _ s.size rfl (by omega) _).mono ?_); rintro e w1 ⟨rfl, hb1⟩)
  go_wp2
  go_ret2
  exact ⟨by rw [H.out]; rfl, hb1⟩

/-- A slice whose cells are these texts. -/
def IsStrs (w : World) (v : Value) (L : List ByteArray) : Prop :=
  ∃ a cap, v = .slice a L.length cap ∧ L.length ≤ maxLen ∧ L.length ≤ cap ∧ (L = [] ∨ ∃ b off, a = some ⟨b, off, none⟩ ∧ b < w.heap.size ∧ ∀ j (h : j < L.length), w.cell? ⟨b, off + j, none⟩ = some (.string L[j]))
theorem IsStrs.below {w w' : World} {v : Value} {L : List ByteArray} {B : Nat} (h : IsStrs w v L) (hB : Below B w w') (hz : w.heap.size ≤ B) : IsStrs w' v L := by
  obtain ⟨a, cap, e, h1, h2, h3⟩ := h
  refine ⟨a, cap, e, h1, h2, h3.imp id ?_⟩
  rintro ⟨b, off, e2, hb, hj⟩
  exact ⟨b, off, e2, Nat.lt_of_lt_of_le hb hB.size, fun j h => (hB.cell (p := ⟨b, off + j, none⟩) (show b < B by omega)).trans (hj j h)⟩

/-- The bytes of a list of texts. -/
def encTs (L : List ByteArray) : List Nat := enc7 L.length ++ L.flatMap encT
/-- As a builder's cells. -/
abbrev bcells (l : List Nat) : List Value := Lib.byteCells (l.map UInt8.ofNat)
theorem bcells_append (l m : List Nat) : bcells (l ++ m) = bcells l ++ bcells m := by simp [bcells, Lib.byteCells]
theorem strCells_strN (l : List Nat) : Lib.strCells (strN l) = bcells l := rfl
theorem bcells_length (l : List Nat) : (bcells l).length = l.length := by simp [bcells, Lib.byteCells]
theorem encT_len (s : ByteArray) (h : s.size ≤ 65536) : (encT s).length ≤ 65542 := by
  have := (enc7_len s.size 6 (by omega)).2 (by omega)
  rw [encT, List.length_append, nats_length]; omega
theorem flat_len (L : List ByteArray) (h : ∀ s ∈ L, s.size ≤ 65536) : (L.flatMap encT).length ≤ L.length * 65542 := by
  induction L with
  | nil => simp
  | cons s L ih =>
    have h1 := encT_len s (h s (by simp))
    have h2 := ih (fun t ht => h t (by simp [ht]))
    simp only [List.flatMap_cons, List.length_append, List.length_cons, Nat.add_mul]
    omega

theorem own_kept {W W' : World} {B e : Nat} {v : Value} {n : Nat} {xs : List Value} (h : W.ownsRow B e 1 v n xs) (hB : Below W.heap.size W W') : W'.ownsRow B e 1 v n xs := by
  refine h.kept (row := none) ⟨hB.os, hB.tape, hB.output, hB.size, fun k hk _ => hB.block k hk⟩ ?_
  cases hv : v.ownBlock
  · exact .inl rfl
  · exact .inr (by simp)
theorem builderAt_below {T e : TypeId} {B b : Nat} {p : Value} {bs : List Value} {W W' : World} (h : Lib.BuilderAt T e B b p bs W) (hB : Below W.heap.size W W') : Lib.BuilderAt T e B b p bs W' := by
  obtain ⟨h1, v, h2, h3, h4⟩ := h
  exact ⟨h1, v, (hB.block b (lt_of_block h2)).trans h2, own_kept h3 hB, h4⟩
theorem builder_below {T e : TypeId} {B b : Nat} {bs : List Value} {W W' : World} (h : Lib.IsBuilder T e B b bs W) (hB : Below W.heap.size W W') : Lib.IsBuilder T e B b bs W' := by
  rcases h with h | h
  · exact .inl (builderAt_below h hB)
  · exact .inr (builderAt_below h hB)

set_option maxHeartbeats 2000000 in
theorem putTexts_good (L : List ByteArray) (hL : L.length ≤ 1000) (hs : ∀ s ∈ L, s.size ≤ 65536) (v : Value) (w : World) (hv : IsStrs w v L) :
    Calls Try.prog 28 #[v] w fun e W' => e = .returned (.tuple #[.string (strN (encTs L)), .int .i64 0]) ∧ Below w.heap.size w W' := by
  obtain ⟨a, cap, rfl, hmax, hcap, hcells⟩ := hv
  have HC := Lib.hid hcells
  have HS := Lib.hid hs
  clear hcells hs hmax
  have hn : ¬ (1000 : Int) < L.length := by omega
  have hl6 := (enc7_len L.length 6 (by omega)).2 (by omega)
  have hl0 := enc7_pos L.length
  go_enter Try.func28, Try.ntmps28
  have B0 := (Below.refl w.heap.size w).alloc (Nat.le_refl _) (.cells #[.pointer none, .slice none 0 0] 62)
  have fr := Lib.hid (Lib.fresh_isBuilder 62 5 w)
  go_wp2_with fail
  ((with_reducible refine (putInt_good _ L.length rfl (by omega) _).mono ?_); rintro e w1 ⟨rfl, hb1⟩)
  have B1 := B0.trans (hb1.mono B0.size)
  have K1 := Lib.hid (builder_below fr.out hb1)
  go_wp2_with fail
  ((with_reducible refine (writeString_any w.heap.size w.heap.size _ _ _ K1.out (by rw [strN_size]; simp; omega) B1.size).mono ?_); rintro e w2 ⟨rfl, bu, hb2⟩)
  have B2 := B1.trans hb2
  have K2 := Lib.hid (show Lib.IsBuilder 62 5 w.heap.size w.heap.size (bcells (enc7 L.length)) w2 from .inr bu)
  clear fr B0 hb1 B1 K1 bu hb2
  go_wp2
  go_loopw [24] (fun s24 wr => ∃ k : Nat, k ≤ L.length ∧ s24 = .int .i64 k ∧ Lib.IsBuilder 62 5 w.heap.size w.heap.size (bcells (enc7 L.length ++ (L.take k).flatMap encT)) wr ∧ Below w.heap.size w wr) (fun s24 _ => L.length - (intOf s24).toNat)
  case atStart => exact ⟨0, by omega, rfl, by simpa using K2.out, B2⟩
  case round =>
    obtain ⟨k, hk, rfl, hbu, hB⟩ := hrel
    by_cases hlt : k < L.length
    · obtain ⟨b, off, rfl, hb, hcell⟩ := HC.out.resolve_left (by intro e; rw [e] at hlt; simp at hlt)
      have hc := (hB.cell (p := ⟨b, off + k, none⟩) hb).trans (hcell k hlt)
      have hsz := HS.out _ (List.getElem_mem hlt)
      have htake : (L.take (k + 1)).flatMap encT = (L.take k).flatMap encT ++ encT L[k] := by
        rw [List.take_succ_eq_append_getElem hlt, List.flatMap_append]; simp
      have hfl := flat_len (L.take k) (fun t ht => HS.out t (List.mem_of_mem_take ht))
      have hfl2 : (enc7 L.length ++ (L.take k).flatMap encT).length ≤ 1000 * 65542 + 6 := by
        have : (L.take k).length ≤ 1000 := by rw [List.length_take]; omega
        have := Nat.mul_le_mul_right 65542 this
        rw [List.length_append]; omega
      have hel := encT_len L[k] hsz
      have HT := Lib.hid htake
      have HF := Lib.hid hfl2
      have HE := Lib.hid hel
      have KB := Lib.hid hbu
      generalize L[k] = s at hc hsz HT HE
      clear hcell htake hfl hfl2 hel hbu
      go_wp2_with fail
      ((with_reducible refine (putText_good s hsz _).mono ?_); rintro e w3 ⟨rfl, hb3⟩)
      have B3 := hB.trans (hb3.mono hB.size)
      have K3 := Lib.hid (builder_below KB.out hb3)
      go_wp2_with fail
      ((with_reducible refine (writeString_any w.heap.size w.heap.size _ _ _ K3.out (by rw [bcells_length, strN_size]; have := HF.out; have := HE.out; omega) B3.size).mono ?_); rintro e w4 ⟨rfl, bu, hb4⟩)
      have B4 := B3.trans hb4
      rw [strCells_strN, ← bcells_append, List.append_assoc, ← HT.out] at bu
      have K4 := Lib.hid bu
      clear bu hb4 B3 K3 hb3
      go_wp2
      go_roundw
      case rel => exact ⟨k + 1, by omega, by go_num, .inr K4.out, B4⟩
      case measure => simp [intOf]; omega
    · obtain rfl : k = L.length := by omega
      have HBu := Lib.hid hbu
      clear hbu
      go_wp2_with fail
      ((with_reducible refine (Try.Builder_String_any w.heap.size w.heap.size _ _ HBu.out hB.size).mono ?_); rintro e w5 ⟨rfl, hb5⟩)
      go_wp2
      go_ret2
      exact ⟨by rw [show strN (encTs L) = ⟨(List.map UInt8.ofNat (enc7 L.length) ++ List.map UInt8.ofNat (L.flatMap encT)).toArray⟩ by simp [strN, encTs]]; rfl, hB.trans hb5⟩
end Go.Proofs.Ytgnkfikihjjpeaa.Cd
