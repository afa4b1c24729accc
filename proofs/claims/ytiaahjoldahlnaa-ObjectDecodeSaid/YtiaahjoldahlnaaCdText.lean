/- GetText and PutText, of program and reference, at this translation. -/
import Derived.Test.YtiaahjoldahlnaaCdRefGet
import Derived.Test.YtiaahjoldahlnaaCdPutText
namespace Go.Proofs.Ytiaahjoldahlnaa.Cd
open Go.RowKit Go.Shelf

/-- What GetText reads: the text, the number of its bytes, the error. -/
def getT (s : ByteArray) : ByteArray × Nat × Int :=
  if (getL 12 13 6 0 0 (nats s)).2.2 ≠ 0 then (⟨#[]⟩, 0, (getL 12 13 6 0 0 (nats s)).2.2)
  else if 65536 < (getL 12 13 6 0 0 (nats s)).1 then (⟨#[]⟩, 0, 13)
  else if s.size < (getL 12 13 6 0 0 (nats s)).2.1 + (getL 12 13 6 0 0 (nats s)).1 then (⟨#[]⟩, 0, 12)
  else (s.extract (getL 12 13 6 0 0 (nats s)).2.1 ((getL 12 13 6 0 0 (nats s)).2.1 + (getL 12 13 6 0 0 (nats s)).1), (getL 12 13 6 0 0 (nats s)).2.1 + (getL 12 13 6 0 0 (nats s)).1, 0)

/-- What was read lies in the string. -/
theorem getL_fits (s : ByteArray) (x k : Nat) (h : getL 12 13 6 0 0 (nats s) = (x, k, 0)) : 1 ≤ k ∧ k ≤ 6 ∧ k ≤ s.size ∧ x ≤ 1099511627776 ∧ (enc7 x).length = k ∧ enc7 x <+: nats s := by
  obtain ⟨m, e1, e2, _, e4, e5⟩ := getL_canon 12 13 (by decide) (by decide) 6 0 0 (nats s) x k (nats_lt s) (by decide) h
  have e6 : x = m := by simpa using e2
  subst e6
  have h1 := enc7_pos x
  have h6 := (enc7_len x 6 (by omega)).2 (by omega)
  have h7 := e5.length_le
  rw [nats_length] at h7
  exact ⟨by omega, by omega, by omega, e4, by omega, e5⟩

theorem getT_fits (s : ByteArray) (h : (getT s).2.2 = 0) : 1 ≤ (getT s).2.1 ∧ (getT s).2.1 ≤ s.size ∧ (getT s).1.size ≤ 65536 ∧ (getT s).1.size ≤ s.size := by
  rcases hg : getL 12 13 6 0 0 (nats s) with ⟨x, k, e⟩
  unfold getT at h ⊢
  rw [hg] at h ⊢
  by_cases h1 : e = 0
  · subst h1
    obtain ⟨f1, f2, f3, f4, f5, f6⟩ := getL_fits s x k hg
    by_cases h2 : 65536 < x
    · rw [if_neg (by simp), if_pos h2] at h; simp at h
    · by_cases h3 : s.size < k + x
      · rw [if_neg (by simp), if_neg h2, if_pos h3] at h; simp at h
      · rw [if_neg (by simp), if_neg h2, if_neg h3]
        have : (s.extract k (k + x)).size = x := by rw [ByteArray.size_extract]; omega
        simp only [this]
        omega
  · rw [if_pos h1] at h; exact absurd h h1
set_option maxHeartbeats 2000000 in
theorem getText_err (s : ByteArray) (_hm : s.size ≤ maxLen) (x k : Nat) (er : Int) (h : getL 12 13 6 0 0 (nats s) = (x, k, er)) (he : er ≠ 0) (w : World) :
    Calls Try.prog 89 #[.string s] w fun e W' => e = .returned (.tuple #[.string ⟨#[]⟩, .int .i64 0, .int .i64 er]) ∧ Below w.heap.size w W' := by
  have q1 : (er == 0) = false := by simpa using he
  have q2 : (er != 0) = true := by simpa using he
  clear he
  have H := Lib.hid h
  clear h
  go_enter Try.func89, Try.ntmps89
  go_wp2_with fail
  ((with_reducible refine (getInt_any s x k _ H.out _).mono ?_); rintro e w1 ⟨rfl, hb1⟩)
  go_wp2
  go_ret3
  exact ⟨rfl, hb1⟩

set_option maxHeartbeats 2000000 in
theorem getText_much (s : ByteArray) (_hm : s.size ≤ maxLen) (x k : Nat) (er : Int) (h : getL 12 13 6 0 0 (nats s) = (x, k, er)) (he : er = 0) (hx : 65536 < x) (w : World) :
    Calls Try.prog 89 #[.string s] w fun e W' => e = .returned (.tuple #[.string ⟨#[]⟩, .int .i64 0, .int .i64 13]) ∧ Below w.heap.size w W' := by
  subst he
  have hx' : (65536 : Int) < x := by omega
  have H := Lib.hid h
  clear h
  go_enter Try.func89, Try.ntmps89
  go_wp2_with fail
  ((with_reducible refine (getInt_any s x k _ H.out _).mono ?_); rintro e w1 ⟨rfl, hb1⟩)
  go_wp2
  go_ret3
  exact ⟨rfl, hb1⟩

set_option maxHeartbeats 2000000 in
theorem getText_short (s : ByteArray) (_hm : s.size ≤ maxLen) (x k : Nat) (er : Int) (h : getL 12 13 6 0 0 (nats s) = (x, k, er)) (he : er = 0) (hx : x ≤ 65536) (hs : s.size < k + x) (w : World) :
    Calls Try.prog 89 #[.string s] w fun e W' => e = .returned (.tuple #[.string ⟨#[]⟩, .int .i64 0, .int .i64 12]) ∧ Below w.heap.size w W' := by
  subst he
  obtain ⟨f1, f2, f3, f4, f5, f6⟩ := getL_fits s x k h
  have hx' : ¬ (65536 : Int) < x := by omega
  have hs' : (s.size : Int) - k < x := by omega
  clear f5 f6
  have H := Lib.hid h
  clear h
  go_enter Try.func89, Try.ntmps89
  go_wp2_with fail
  ((with_reducible refine (getInt_any s x k _ H.out _).mono ?_); rintro e w1 ⟨rfl, hb1⟩)
  go_wp2
  go_ret3
  exact ⟨rfl, hb1⟩

set_option maxHeartbeats 2000000 in
theorem getText_good (s : ByteArray) (hm : s.size ≤ maxLen) (x k : Nat) (er : Int) (h : getL 12 13 6 0 0 (nats s) = (x, k, er)) (he : er = 0) (hx : x ≤ 65536) (hs : k + x ≤ s.size) (w : World) :
    Calls Try.prog 89 #[.string s] w fun e W' => e = .returned (.tuple #[.string (s.extract k (k + x)), .int .i64 ((k + x : Nat) : Int), .int .i64 0]) ∧ Below w.heap.size w W' := by
  unfold maxLen at hm
  subst he
  obtain ⟨f1, f2, f3, f4, f5, f6⟩ := getL_fits s x k h
  have hx' : ¬ (65536 : Int) < x := by omega
  have hs' : ¬ (s.size : Int) - k < x := by omega
  clear f5 f6
  have H := Lib.hid h
  clear h
  go_enter Try.func89, Try.ntmps89
  go_wp2_with fail
  ((with_reducible refine (getInt_any s x k _ H.out _).mono ?_); rintro e w1 ⟨rfl, hb1⟩)
  go_wp2
  go_ret3
  exact ⟨rfl, hb1⟩

theorem getText_any (s : ByteArray) (hm : s.size ≤ maxLen) (t : ByteArray) (n : Nat) (er : Int) (h : getT s = (t, n, er)) (w : World) :
    Calls Try.prog 89 #[.string s] w fun e W' => e = .returned (.tuple #[.string t, .int .i64 n, .int .i64 er]) ∧ Below w.heap.size w W' := by
  unfold getT at h
  rcases hg : getL 12 13 6 0 0 (nats s) with ⟨x, k, e⟩
  rw [hg] at h
  by_cases h1 : e = 0
  · rw [if_neg (by simpa using h1)] at h
    by_cases h2 : 65536 < x
    · rw [if_pos h2] at h
      simp only [Prod.mk.injEq] at h
      obtain ⟨rfl, rfl, rfl⟩ := h
      exact getText_much s hm x k e hg h1 h2 w
    · rw [if_neg h2] at h
      by_cases h3 : s.size < k + x
      · rw [if_pos h3] at h
        simp only [Prod.mk.injEq] at h
        obtain ⟨rfl, rfl, rfl⟩ := h
        exact getText_short s hm x k e hg h1 (by omega) h3 w
      · rw [if_neg h3] at h
        simp only [Prod.mk.injEq] at h
        obtain ⟨rfl, rfl, rfl⟩ := h
        exact getText_good s hm x k e hg h1 (by omega) (by omega) w
  · rw [if_pos h1] at h
    simp only [Prod.mk.injEq] at h
    obtain ⟨rfl, rfl, rfl⟩ := h
    exact getText_err s hm x k e hg h1 w

set_option maxHeartbeats 2000000 in
theorem refGetText_err (s : ByteArray) (_hm : s.size ≤ maxLen) (x k : Nat) (er : Int) (h : getL 12 13 6 0 0 (nats s) = (x, k, er)) (he : er ≠ 0) (w : World) :
    Calls Try.prog 68 #[.string s] w fun e W' => e = .returned (.tuple #[.string ⟨#[]⟩, .int .i64 0, .int .i64 er]) ∧ Below w.heap.size w W' := by
  have q1 : (er == 0) = false := by simpa using he
  have q2 : (er != 0) = true := by simpa using he
  clear he
  have H := Lib.hid h
  clear h
  go_enter Try.func68, Try.ntmps68
  go_wp2_with fail
  ((with_reducible refine (refGetInt_any s x k _ H.out _).mono ?_); rintro e w1 ⟨rfl, hb1⟩)
  go_wp2
  go_ret3
  exact ⟨rfl, hb1⟩

set_option maxHeartbeats 2000000 in
theorem refGetText_much (s : ByteArray) (_hm : s.size ≤ maxLen) (x k : Nat) (er : Int) (h : getL 12 13 6 0 0 (nats s) = (x, k, er)) (he : er = 0) (hx : 65536 < x) (w : World) :
    Calls Try.prog 68 #[.string s] w fun e W' => e = .returned (.tuple #[.string ⟨#[]⟩, .int .i64 0, .int .i64 13]) ∧ Below w.heap.size w W' := by
  subst he
  have hx' : (65536 : Int) < x := by omega
  have H := Lib.hid h
  clear h
  go_enter Try.func68, Try.ntmps68
  go_wp2_with fail
  ((with_reducible refine (refGetInt_any s x k _ H.out _).mono ?_); rintro e w1 ⟨rfl, hb1⟩)
  go_wp2
  go_ret3
  exact ⟨rfl, hb1⟩

set_option maxHeartbeats 2000000 in
theorem refGetText_short (s : ByteArray) (_hm : s.size ≤ maxLen) (x k : Nat) (er : Int) (h : getL 12 13 6 0 0 (nats s) = (x, k, er)) (he : er = 0) (hx : x ≤ 65536) (hs : s.size < k + x) (w : World) :
    Calls Try.prog 68 #[.string s] w fun e W' => e = .returned (.tuple #[.string ⟨#[]⟩, .int .i64 0, .int .i64 12]) ∧ Below w.heap.size w W' := by
  subst he
  obtain ⟨f1, f2, f3, f4, f5, f6⟩ := getL_fits s x k h
  have hx' : ¬ (65536 : Int) < x := by omega
  have hs' : (s.size : Int) - k < x := by omega
  clear f5 f6
  have H := Lib.hid h
  clear h
  go_enter Try.func68, Try.ntmps68
  go_wp2_with fail
  ((with_reducible refine (refGetInt_any s x k _ H.out _).mono ?_); rintro e w1 ⟨rfl, hb1⟩)
  go_wp2
  go_ret3
  exact ⟨rfl, hb1⟩

set_option maxHeartbeats 2000000 in
theorem refGetText_good (s : ByteArray) (hm : s.size ≤ maxLen) (x k : Nat) (er : Int) (h : getL 12 13 6 0 0 (nats s) = (x, k, er)) (he : er = 0) (hx : x ≤ 65536) (hs : k + x ≤ s.size) (w : World) :
    Calls Try.prog 68 #[.string s] w fun e W' => e = .returned (.tuple #[.string (s.extract k (k + x)), .int .i64 ((k + x : Nat) : Int), .int .i64 0]) ∧ Below w.heap.size w W' := by
  unfold maxLen at hm
  subst he
  obtain ⟨f1, f2, f3, f4, f5, f6⟩ := getL_fits s x k h
  have hx' : ¬ (65536 : Int) < x := by omega
  have hs' : ¬ (s.size : Int) - k < x := by omega
  clear f5 f6
  have H := Lib.hid h
  clear h
  go_enter Try.func68, Try.ntmps68
  go_wp2_with fail
  ((with_reducible refine (refGetInt_any s x k _ H.out _).mono ?_); rintro e w1 ⟨rfl, hb1⟩)
  go_wp2
  go_ret3
  exact ⟨rfl, hb1⟩

theorem refGetText_any (s : ByteArray) (hm : s.size ≤ maxLen) (t : ByteArray) (n : Nat) (er : Int) (h : getT s = (t, n, er)) (w : World) :
    Calls Try.prog 68 #[.string s] w fun e W' => e = .returned (.tuple #[.string t, .int .i64 n, .int .i64 er]) ∧ Below w.heap.size w W' := by
  unfold getT at h
  rcases hg : getL 12 13 6 0 0 (nats s) with ⟨x, k, e⟩
  rw [hg] at h
  by_cases h1 : e = 0
  · rw [if_neg (by simpa using h1)] at h
    by_cases h2 : 65536 < x
    · rw [if_pos h2] at h
      simp only [Prod.mk.injEq] at h
      obtain ⟨rfl, rfl, rfl⟩ := h
      exact refGetText_much s hm x k e hg h1 h2 w
    · rw [if_neg h2] at h
      by_cases h3 : s.size < k + x
      · rw [if_pos h3] at h
        simp only [Prod.mk.injEq] at h
        obtain ⟨rfl, rfl, rfl⟩ := h
        exact refGetText_short s hm x k e hg h1 (by omega) h3 w
      · rw [if_neg h3] at h
        simp only [Prod.mk.injEq] at h
        obtain ⟨rfl, rfl, rfl⟩ := h
        exact refGetText_good s hm x k e hg h1 (by omega) (by omega) w
  · rw [if_pos h1] at h
    simp only [Prod.mk.injEq] at h
    obtain ⟨rfl, rfl, rfl⟩ := h
    exact refGetText_err s hm x k e hg h1 w

set_option maxHeartbeats 1000000 in
theorem refPutText_good (s : ByteArray) (h : s.size ≤ 65536) (w : World) : Calls Try.prog 75 #[.string s] w fun e W' => e = .returned (.tuple #[.string (strN (encT s)), .int .i64 0]) ∧ Below w.heap.size w W' := by
  have h' : ¬ (65536 : Int) < s.size := by omega
  have H := Lib.hid (strN_encT s)
  have hl : (enc7 s.size).length ≤ 6 := (enc7_len s.size 6 (by omega)).2 (by omega)
  have hz := strN_size (enc7 s.size)
  have hz2 : (strN (enc7 s.size)).size ≤ 6 := by omega
  clear hz hl
  go_enter Try.func75, Try.ntmps75
  go_wp2_with fail
  ((with_reducible refine (refPut_any s.size (by omega) _).mono ?_); rintro e w1 ⟨rfl, hb1⟩)
  go_wp2
  go_ret2
  exact ⟨by rw [H.out]; rfl, hb1⟩
end Go.Proofs.Ytiaahjoldahlnaa.Cd
