/- Names of the reference, records in memory, at this translation. -/
import Derived.Test.YtfheflihofafdaaPtAll
import Derived.Test.YtfheflihofafdaaTrAll
import Derived.OwnWalkIn
namespace Go.Proofs.Ytfheflihofafdaa
open Go.RowKit Go.Great Pt

set_option maxRecDepth 100000 in
set_option maxHeartbeats 4000000 in
theorem ref_loop (s : BA) (w : World) (hs : s.size ≤ maxLen) (h1 : 1 ≤ s.size) (h2 : s.size ≤ 24) (q : Bool) (hq : charsFrom s 0 = q) :
    Calls Try.prog 52 #[.string s] w fun e w' => e = .returned (.bool q) ∧ w' = w := by
  unfold maxLen at hs
  go_enter Try.func52, Try.ntmps52
  go_wp2
  go_loopw [3] (fun i wr => wr = w ∧ ∃ k : Nat, k ≤ s.size ∧ i = .int .i64 k ∧ charsFrom s 0 = charsFrom s k) (fun i _ => s.size - (intOf i).toNat)
  case atStart => exact ⟨rfl, 0, Nat.zero_le _, rfl, rfl⟩
  case round =>
    obtain ⟨rfl, k, hk, rfl, he⟩ := hrel
    have HE := Lib.hid he
    clear he
    by_cases hlt : k < s.size
    · have st := Lib.hid (chars_step s k hlt)
      rcases byte_cases (s[k]'hlt).toNat (UInt8.toNat_lt _) with ⟨b1, b2⟩ | ⟨b1, b2⟩ | ⟨b1, b2⟩ | ⟨b1, b2⟩ | ⟨b1, b2⟩ | ⟨b1, b2⟩ | ⟨b1, b2⟩ | ⟨b1, b2⟩ | ⟨b1, b2⟩ | ⟨b1, b2⟩ | ⟨b1, b2⟩ | ⟨b1, b2⟩
      · have HC := Lib.hid (show nameByte (s[k]'hlt).toNat = false from by simp [nameByte]; omega)
        have e46 : (((s[k]'hlt).toNat : Int) == 46) = false := by simp; omega
        have e95 : (((s[k]'hlt).toNat : Int) == 95) = false := by simp; omega
        have e45 : (((s[k]'hlt).toNat : Int) == 45) = false := by simp; omega
        go_wp2
        go_ret
        have : q = false := by rw [← hq, HE.out, st.out, HC.out]; rfl
        subst this
        exact ⟨rfl, rfl⟩
      · have HC := Lib.hid (show nameByte (s[k]'hlt).toNat = true from by simp [nameByte]; omega)
        have e46 : (((s[k]'hlt).toNat : Int) == 46) = false := by simp; omega
        have e95 : (((s[k]'hlt).toNat : Int) == 95) = false := by simp; omega
        have e45 : (((s[k]'hlt).toNat : Int) == 45) = true := by simp; omega
        go_wp2
        go_roundw
        case rel => exact ⟨trivial, k + 1, hlt, by go_num, by rw [HE.out, st.out, HC.out]; rfl⟩
        case measure => simp [intOf]; omega
      · have HC := Lib.hid (show nameByte (s[k]'hlt).toNat = true from by simp [nameByte]; omega)
        have e46 : (((s[k]'hlt).toNat : Int) == 46) = true := by simp; omega
        have e95 : (((s[k]'hlt).toNat : Int) == 95) = false := by simp; omega
        have e45 : (((s[k]'hlt).toNat : Int) == 45) = false := by simp; omega
        go_wp2
        go_roundw
        case rel => exact ⟨trivial, k + 1, hlt, by go_num, by rw [HE.out, st.out, HC.out]; rfl⟩
        case measure => simp [intOf]; omega
      · have HC := Lib.hid (show nameByte (s[k]'hlt).toNat = false from by simp [nameByte]; omega)
        have e46 : (((s[k]'hlt).toNat : Int) == 46) = false := by simp; omega
        have e95 : (((s[k]'hlt).toNat : Int) == 95) = false := by simp; omega
        have e45 : (((s[k]'hlt).toNat : Int) == 45) = false := by simp; omega
        go_wp2
        go_ret
        have : q = false := by rw [← hq, HE.out, st.out, HC.out]; rfl
        subst this
        exact ⟨rfl, rfl⟩
      · have HC := Lib.hid (show nameByte (s[k]'hlt).toNat = true from by simp [nameByte]; omega)
        have e46 : (((s[k]'hlt).toNat : Int) == 46) = false := by simp; omega
        have e95 : (((s[k]'hlt).toNat : Int) == 95) = false := by simp; omega
        have e45 : (((s[k]'hlt).toNat : Int) == 45) = false := by simp; omega
        go_wp2
        go_roundw
        case rel => exact ⟨trivial, k + 1, hlt, by go_num, by rw [HE.out, st.out, HC.out]; rfl⟩
        case measure => simp [intOf]; omega
      · have HC := Lib.hid (show nameByte (s[k]'hlt).toNat = false from by simp [nameByte]; omega)
        have e46 : (((s[k]'hlt).toNat : Int) == 46) = false := by simp; omega
        have e95 : (((s[k]'hlt).toNat : Int) == 95) = false := by simp; omega
        have e45 : (((s[k]'hlt).toNat : Int) == 45) = false := by simp; omega
        have l57 : (!decide (((s[k]'hlt).toNat : Int) ≤ 57)) = true := by simp; omega
        go_wp2
        go_ret
        have : q = false := by rw [← hq, HE.out, st.out, HC.out]; rfl
        subst this
        exact ⟨rfl, rfl⟩
      · have HC := Lib.hid (show nameByte (s[k]'hlt).toNat = true from by simp [nameByte]; omega)
        have e46 : (((s[k]'hlt).toNat : Int) == 46) = false := by simp; omega
        have e95 : (((s[k]'hlt).toNat : Int) == 95) = false := by simp; omega
        have e45 : (((s[k]'hlt).toNat : Int) == 45) = false := by simp; omega
        have l57 : (!decide (((s[k]'hlt).toNat : Int) ≤ 57)) = true := by simp; omega
        go_wp2
        go_roundw
        case rel => exact ⟨trivial, k + 1, hlt, by go_num, by rw [HE.out, st.out, HC.out]; rfl⟩
        case measure => simp [intOf]; omega
      · have HC := Lib.hid (show nameByte (s[k]'hlt).toNat = false from by simp [nameByte]; omega)
        have e46 : (((s[k]'hlt).toNat : Int) == 46) = false := by simp; omega
        have e95 : (((s[k]'hlt).toNat : Int) == 95) = false := by simp; omega
        have e45 : (((s[k]'hlt).toNat : Int) == 45) = false := by simp; omega
        have l57 : (!decide (((s[k]'hlt).toNat : Int) ≤ 57)) = true := by simp; omega
        have l90 : (!decide (((s[k]'hlt).toNat : Int) ≤ 90)) = true := by simp; omega
        go_wp2
        go_ret
        have : q = false := by rw [← hq, HE.out, st.out, HC.out]; rfl
        subst this
        exact ⟨rfl, rfl⟩
      · have HC := Lib.hid (show nameByte (s[k]'hlt).toNat = true from by simp [nameByte]; omega)
        have e46 : (((s[k]'hlt).toNat : Int) == 46) = false := by simp; omega
        have e95 : (((s[k]'hlt).toNat : Int) == 95) = true := by simp; omega
        have e45 : (((s[k]'hlt).toNat : Int) == 45) = false := by simp; omega
        have l57 : (!decide (((s[k]'hlt).toNat : Int) ≤ 57)) = true := by simp; omega
        have l90 : (!decide (((s[k]'hlt).toNat : Int) ≤ 90)) = true := by simp; omega
        go_wp2
        go_roundw
        case rel => exact ⟨trivial, k + 1, hlt, by go_num, by rw [HE.out, st.out, HC.out]; rfl⟩
        case measure => simp [intOf]; omega
      · have HC := Lib.hid (show nameByte (s[k]'hlt).toNat = false from by simp [nameByte]; omega)
        have e46 : (((s[k]'hlt).toNat : Int) == 46) = false := by simp; omega
        have e95 : (((s[k]'hlt).toNat : Int) == 95) = false := by simp; omega
        have e45 : (((s[k]'hlt).toNat : Int) == 45) = false := by simp; omega
        have l57 : (!decide (((s[k]'hlt).toNat : Int) ≤ 57)) = true := by simp; omega
        have l90 : (!decide (((s[k]'hlt).toNat : Int) ≤ 90)) = true := by simp; omega
        go_wp2
        go_ret
        have : q = false := by rw [← hq, HE.out, st.out, HC.out]; rfl
        subst this
        exact ⟨rfl, rfl⟩
      · have HC := Lib.hid (show nameByte (s[k]'hlt).toNat = true from by simp [nameByte]; omega)
        have e46 : (((s[k]'hlt).toNat : Int) == 46) = false := by simp; omega
        have e95 : (((s[k]'hlt).toNat : Int) == 95) = false := by simp; omega
        have e45 : (((s[k]'hlt).toNat : Int) == 45) = false := by simp; omega
        have l57 : (!decide (((s[k]'hlt).toNat : Int) ≤ 57)) = true := by simp; omega
        have l90 : (!decide (((s[k]'hlt).toNat : Int) ≤ 90)) = true := by simp; omega
        go_wp2
        go_roundw
        case rel => exact ⟨trivial, k + 1, hlt, by go_num, by rw [HE.out, st.out, HC.out]; rfl⟩
        case measure => simp [intOf]; omega
      · have HC := Lib.hid (show nameByte (s[k]'hlt).toNat = false from by simp [nameByte]; omega)
        have e46 : (((s[k]'hlt).toNat : Int) == 46) = false := by simp; omega
        have e95 : (((s[k]'hlt).toNat : Int) == 95) = false := by simp; omega
        have e45 : (((s[k]'hlt).toNat : Int) == 45) = false := by simp; omega
        have l57 : (!decide (((s[k]'hlt).toNat : Int) ≤ 57)) = true := by simp; omega
        have l90 : (!decide (((s[k]'hlt).toNat : Int) ≤ 90)) = true := by simp; omega
        have l122 : (!decide (((s[k]'hlt).toNat : Int) ≤ 122)) = true := by simp; omega
        go_wp2
        go_ret
        have : q = false := by rw [← hq, HE.out, st.out, HC.out]; rfl
        subst this
        exact ⟨rfl, rfl⟩
    · have ee := Lib.hid (chars_end s k (by omega))
      have : q = true := by rw [← hq, HE.out, ee.out]
      subst this
      clear hq
      go_wp2
      go_ret
      exact ⟨rfl, rfl⟩
set_option maxRecDepth 100000 in
set_option maxHeartbeats 1000000 in
theorem refName_any (s : BA) (w : World) (hs : s.size ≤ maxLen) (q : Bool) (hq : isChars s = q) :
    Calls Try.prog 52 #[.string s] w fun e w' => e = .returned (.bool q) ∧ w' = w := by
  by_cases h1 : 1 ≤ s.size
  · by_cases h2 : s.size ≤ 24
    · exact ref_loop s w hs h1 h2 q (by rw [← hq]; simp [isChars, h1, h2])
    · obtain rfl : q = false := by rw [← hq]; simp [isChars, h2]
      clear hq
      unfold maxLen at hs
      go_enter Try.func52, Try.ntmps52
      go_wp2
      go_ret
      exact ⟨rfl, rfl⟩
  · obtain rfl : q = false := by rw [← hq]; simp [isChars, h1]
    clear hq
    unfold maxLen at hs
    go_enter Try.func52, Try.ntmps52
    go_wp2
    go_ret
    exact ⟨rfl, rfl⟩

/-- A record. -/
structure Rec where
  time : Int
  who : BA
  what : BA
  data : BA
abbrev rv (r : Rec) : Value := .agg #[.int .i64 r.time, .string r.who, .string r.what, .string r.data]
abbrev rc (r : Rec) : Obj := .cells #[.int .i64 r.time, .string r.who, .string r.what, .string r.data] 26
def Rec.Fit (r : Rec) : Prop := r.who.size ≤ maxLen ∧ r.what.size ≤ maxLen ∧ r.data.size ≤ maxLen
/-- Which records are valid. -/
def okR (r : Rec) : Bool := decide (0 ≤ r.time) && decide (r.time ≤ 1099511627776) && isChars r.who && isChars r.what && decide (r.data.size ≤ 65536)
/-- The four cells of a record. -/
def RecAt (w : World) (b off : Nat) (x : Rec) : Prop :=
  w.cell? ⟨b, off, none⟩ = some (.int .i64 x.time) ∧ w.cell? ⟨b, off + 1, none⟩ = some (.string x.who) ∧ w.cell? ⟨b, off + 2, none⟩ = some (.string x.what) ∧ w.cell? ⟨b, off + 3, none⟩ = some (.string x.data)
theorem RecAt.below {w w' : World} {b off : Nat} {x : Rec} {B : Nat} (h : RecAt w b off x) (hB : Below B w w') (hb : b < B) : RecAt w' b off x :=
  ⟨(hB.cell (p := ⟨b, _, none⟩) hb).trans h.1, (hB.cell (p := ⟨b, _, none⟩) hb).trans h.2.1, (hB.cell (p := ⟨b, _, none⟩) hb).trans h.2.2.1, (hB.cell (p := ⟨b, _, none⟩) hb).trans h.2.2.2⟩
/-- A slice whose cells are these records. -/
def IsRecs (w : World) (v : Value) (L : List Rec) : Prop :=
  ∃ a cap, v = .slice a L.length cap ∧ L.length ≤ maxLen ∧ L.length ≤ cap ∧ (L = [] ∨ ∃ b off, a = some ⟨b, off, none⟩ ∧ b < w.heap.size ∧ ∀ j (h : j < L.length), RecAt w b (off + j * 4) L[j])
theorem IsRecs.below {w w' : World} {v : Value} {L : List Rec} {B : Nat} (h : IsRecs w v L) (hB : Below B w w') (hz : w.heap.size ≤ B) : IsRecs w' v L := by
  obtain ⟨a, cap, e, h1, h2, h3⟩ := h
  refine ⟨a, cap, e, h1, h2, h3.imp id ?_⟩
  rintro ⟨b, off, e2, hb, hj⟩
  exact ⟨b, off, e2, Nat.lt_of_lt_of_le hb hB.size, fun j h => (hj j h).below hB (by omega)⟩
theorem isRecs_nil (w : World) : IsRecs w (.slice none 0 0) [] := ⟨none, 0, rfl, Nat.zero_le _, Nat.zero_le _, .inl rfl⟩
end Go.Proofs.Ytfheflihofafdaa
