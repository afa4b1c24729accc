/- The walk of the law DigestText: Parse inverts Format, and only texts that Format returns can be parsed. -/
import Derived.Test.YtamhokedekhocaaOf
namespace Go.Proofs.Ytamhokedekhocaa
open Go.RowKit
attribute [local go_sem] eq_arr

theorem fmt_string (n0 n1 : Nat) (h0 : n0 < 2 ^ 64) (h1 : n1 < 2 ^ 64) : (ByteArray.mk (fmtW 16 n0 ++ fmtW 16 n1).toArray).size = 32 ∧
    (∀ c ∈ (ByteArray.mk (fmtW 16 n0 ++ fmtW 16 n1).toArray).data.toList, 0 ≤ dg c) ∧ lo (ByteArray.mk (fmtW 16 n0 ++ fmtW 16 n1).toArray) 32 = n0 ∧ hi (ByteArray.mk (fmtW 16 n0 ++ fmtW 16 n1).toArray) 32 = n1 := by
  have l0 := fmtW_length 16 n0
  have l1 := fmtW_length 16 n1
  refine ⟨?_, ?_, ?_, ?_⟩
  · show (fmtW 16 n0 ++ fmtW 16 n1).toArray.size = 32
    simp [l0, l1]
  · intro c hc
    simp only [List.mem_append] at hc
    rcases hc with hc | hc
    · exact hex_fmtW _ _ c hc
    · exact hex_fmtW _ _ c hc
  · unfold lo
    simp only []
    rw [List.take_of_length_le (l := fmtW 16 n0 ++ fmtW 16 n1) (by simp [l0, l1]), List.take_left' l0]
    exact val_fmtW 16 n0 (by omega)
  · unfold hi
    simp only []
    rw [List.take_of_length_le (l := fmtW 16 n0 ++ fmtW 16 n1) (by simp [l0, l1]), List.drop_left' l0]
    exact val_fmtW 16 n1 (by omega)
/-- A text that can be parsed is the text of its digest. -/
theorem text_fmt (s : ByteArray) (hn : s.size = 32) (hh : ∀ c ∈ s.data.toList, 0 ≤ dg c) : fmtW 16 (lo s 32) ++ fmtW 16 (hi s 32) = s.data.toList ∧ lo s 32 < 2 ^ 64 ∧ hi s 32 < 2 ^ 64 := by
  have hl : s.data.toList.length = 32 := by simpa using hn
  have e : s.data.toList.take 32 = s.data.toList := List.take_of_length_le (by omega)
  unfold lo hi
  rw [e]
  have a := fmtW_val (s.data.toList.take 16) (fun c hc => hh c (List.mem_of_mem_take hc))
  have b := fmtW_val (s.data.toList.drop 16) (fun c hc => hh c (List.mem_of_mem_drop hc))
  have a' := val_lt (s.data.toList.take 16) (fun c hc => hh c (List.mem_of_mem_take hc))
  have b' := val_lt (s.data.toList.drop 16) (fun c hc => hh c (List.mem_of_mem_drop hc))
  have la : (s.data.toList.take 16).length = 16 := by rw [List.length_take]; omega
  have lb : (s.data.toList.drop 16).length = 16 := by rw [List.length_drop]; omega
  rw [la] at a a'; rw [lb] at b b'
  rw [a, b, List.take_append_drop]
  exact ⟨rfl, by omega, by omega⟩

set_option maxHeartbeats 1000000 in
theorem text_long (d : Value) (x0 x1 : Int) (hd : d = .agg #[.int .u64 x0, .int .u64 x1]) (s : ByteArray) (hs : s.size ≤ maxLen) (h100 : 100 < s.size) (w : World) :
    Calls Try.prog 7 #[d, .string s] w fun e w' => e = .returned (.bool true) ∧ Below w.heap.size w w' := by
  unfold maxLen at hs
  subst hd
  have hp : (100 : Int) < (s.size : Int) := by omega
  go_enter Try.func7, Try.ntmps7
  go_wp2_with fail
  refine (awake_any _).mono ?_
  rintro e w1 ⟨rfl, h1⟩
  go_wp2
  go_ret
  exact ⟨rfl, ((Below.refl w.heap.size w).alloc (Nat.le_refl _) _).trans (h1.mono (by simp))⟩

/-- The text of a digest. -/
def fmtS (n0 n1 : Nat) : ByteArray := ⟨(fmtW 16 n0 ++ fmtW 16 n1).toArray⟩
theorem format_s (n0 n1 : Nat) (h0 : n0 < 2 ^ 64) (h1 : n1 < 2 ^ 64) (w : World) :
    Calls Try.prog 19 #[.agg #[.int .u64 n0, .int .u64 n1]] w fun e w' => e = .returned (.string (fmtS n0 n1)) ∧ Below w.heap.size w w' := format_any n0 n1 h0 h1 w
theorem parse_s (n0 n1 : Nat) (h0 : n0 < 2 ^ 64) (h1 : n1 < 2 ^ 64) (w : World) :
    Calls Try.prog 17 #[.string (fmtS n0 n1)] w fun e w' => e = .returned (.tuple #[.agg #[.int .u64 n0, .int .u64 n1], .int .i64 0]) ∧ Below w.heap.size w w' := by
  obtain ⟨f1, f2, f3, f4⟩ := fmt_string n0 n1 h0 h1
  refine (parse_ok (fmtS n0 n1) w f1 f2).mono ?_
  rintro e w' ⟨rfl, hB⟩
  exact ⟨by rw [show lo (fmtS n0 n1) 32 = n0 from f3, show hi (fmtS n0 n1) 32 = n1 from f4], hB⟩
theorem fmtS_text (s : ByteArray) (hn : s.size = 32) (hh : ∀ c ∈ s.data.toList, 0 ≤ dg c) : fmtS (lo s 32) (hi s 32) = s := by
  have := (text_fmt s hn hh).1
  unfold fmtS
  rw [this]

theorem parse_bad (s : ByteArray) (w : World) (h : ¬ (s.size = 32 ∧ ∀ c ∈ s.data.toList, 0 ≤ dg c)) :
    Calls Try.prog 17 #[.string s] w fun e w' => e = .returned (.tuple #[.agg #[.int .u64 0, .int .u64 0], .int .i64 3]) ∧ Below w.heap.size w w' := by
  by_cases hn : s.size = 32
  · exact parse_no s w hn (fun hh => h ⟨hn, hh⟩)
  · exact parse_short s w hn
theorem bl {a b c : World} (h : Below a.heap.size a b) (k : Below b.heap.size b c) : Below a.heap.size a c := h.trans (k.mono h.size)
theorem bla {a b : World} (h : Below a.heap.size a b) (o : Obj) : Below a.heap.size a (b.alloc o) := h.alloc h.size o

set_option maxHeartbeats 400000 in
theorem text_any (n0 n1 : Nat) (h0 : n0 < 2 ^ 64) (h1 : n1 < 2 ^ 64) (s : ByteArray) (h100 : s.size ≤ 100) (w : World) :
    Calls Try.prog 7 #[.agg #[.int .u64 n0, .int .u64 n1], .string s] w fun e w' => e = .returned (.bool true) ∧ Below w.heap.size w w' := by
  have hp : ¬ (100 : Int) < (s.size : Int) := by omega
  by_cases hn : s.size = 32 ∧ ∀ c ∈ s.data.toList, 0 ≤ dg c
  · obtain ⟨q1, q2⟩ := hn
    obtain ⟨t2, t3⟩ := (text_fmt s q1 q2).2
    have Q1 := Lib.hid q1
    have Q2 := Lib.hid q2
    have T1 := Lib.hid (fmtS_text s q1 q2)
    have T2 := Lib.hid t2
    have T3 := Lib.hid t3
    clear q1 q2 t2 t3
    go_enter Try.func7, Try.ntmps7
    go_wp2_with fail
    refine (format_s n0 n1 h0 h1 _).mono ?_
    rintro e w1 ⟨rfl, hb1⟩
    go_wp2_with fail
    refine (parse_s n0 n1 h0 h1 _).mono ?_
    rintro e w2 ⟨rfl, hb2⟩
    have hB2 := hb1.trans (hb2.mono hb1.size)
    rw [World.size_alloc] at hB2
    have hz2 : w.heap.size < w2.heap.size := by have := hB2.size; simp at this; omega
    obtain ⟨a0, a1, g0, g1⟩ := (Two.fresh w n0 n1 24).below hB2 (by omega)
    go_wp2_with fail
    refine (parse_ok _ _ Q1.out Q2.out).mono ?_
    rintro e w3 ⟨rfl, hb3⟩
    go_wp2_with fail
    refine (format_s _ _ T2.out T3.out _).mono ?_
    rintro e w4 ⟨rfl, hb4⟩
    rw [T1.out]
    go_wp2_with fail
    refine (awake_any _).mono ?_
    rintro e w5 ⟨rfl, hb5⟩
    go_wp2
    go_ret
    exact ⟨rfl, bl (bl (bla (bl (bla (bl (bl (bla (Below.refl _ _) _) hb1) hb2) _) hb3) _) hb4) hb5⟩
  · have HN := Lib.hid hn
    clear hn
    go_enter Try.func7, Try.ntmps7
    go_wp2_with fail
    refine (format_s n0 n1 h0 h1 _).mono ?_
    rintro e w1 ⟨rfl, hb1⟩
    go_wp2_with fail
    refine (parse_s n0 n1 h0 h1 _).mono ?_
    rintro e w2 ⟨rfl, hb2⟩
    have hB2 := hb1.trans (hb2.mono hb1.size)
    rw [World.size_alloc] at hB2
    have hz2 : w.heap.size < w2.heap.size := by have := hB2.size; simp at this; omega
    obtain ⟨a0, a1, g0, g1⟩ := (Two.fresh w n0 n1 24).below hB2 (by omega)
    go_wp2_with fail
    refine (parse_bad _ _ HN.out).mono ?_
    rintro e w3 ⟨rfl, hb3⟩
    go_wp2_with fail
    refine (awake_any _).mono ?_
    rintro e w4 ⟨rfl, hb4⟩
    go_wp2
    go_ret
    exact ⟨rfl, bl (bla (bl (bla (bl (bl (bla (Below.refl _ _) _) hb1) hb2) _) hb3) _) hb4⟩
end Go.Proofs.Ytamhokedekhocaa
