/- Lists of texts, of program and reference, at this translation. -/
import Derived.Test.YtgnkfikihjjpeaaCdRepeat
import Derived.BigQuiet
import Derived.Deep.QuietTactic
namespace Go.Proofs.Ytgnkfikihjjpeaa.Cd
open Go.RowKit Go.Shelf

theorem blN {B : Nat} {a b : World} (h : Below B a b) (n : Nat) : Below B a (b.drewN n) := ⟨h.os, h.tape, h.output, h.size, h.block⟩

/-- What GetTexts reads: the texts, the number of their bytes, the error. -/
def getTs (s : ByteArray) : List ByteArray × Nat × Int :=
  if (getL 12 13 6 0 0 (nats s)).2.2 ≠ 0 then ([], 0, (getL 12 13 6 0 0 (nats s)).2.2)
  else if 1000 < (getL 12 13 6 0 0 (nats s)).1 then ([], 0, 13)
  else onT [] (getL 12 13 6 0 0 (nats s)).2.1 (repT (getL 12 13 6 0 0 (nats s)).1 (s.extract (getL 12 13 6 0 0 (nats s)).2.1 s.size))

theorem isStrs_nil (w : World) : IsStrs w (.slice none 0 0) [] := ⟨none, 0, rfl, by simp, Nat.zero_le _, .inl rfl⟩
theorem repT_fits : ∀ (n : Nat) (t : ByteArray), (repT n t).2.2 = 0 → (repT n t).2.1 ≤ t.size ∧ (repT n t).1.length = n
  | 0, t, _ => by simp [repT]
  | n + 1, t, h => by
    rcases hg : getT t with ⟨x, k, e⟩
    rcases hr : repT n (t.extract k t.size) with ⟨l, m, e2⟩
    have e1 : repT (n + 1) t = if e ≠ 0 then ([], 0, e) else if e2 ≠ 0 then ([], 0, e2) else (x :: l, k + m, 0) := by
      rw [repT, hg]; simp only [hr]
    rw [e1] at h ⊢
    by_cases he : e = 0
    · subst he
      rw [if_neg (by simp)] at h ⊢
      by_cases he2 : e2 = 0
      · subst he2
        rw [if_neg (by simp)]
        have f1 := getT_fits t (by rw [hg])
        have f2 := repT_fits n (t.extract k t.size) (by rw [hr])
        rw [hg] at f1
        rw [hr] at f2
        have f3 := f1.2.1
        have f4 := f2.1
        rw [ByteArray.size_extract] at f4
        have f5 := f2.2
        simp only at f3 f4 f5
        exact ⟨by show k + m ≤ t.size; omega, by simp [f5]⟩
      · rw [if_pos he2] at h; exact absurd h he2
    · rw [if_pos he] at h; exact absurd h he

set_option maxHeartbeats 2000000 in
theorem getTexts_err (s : ByteArray) (x k : Nat) (er : Int) (h : getL 12 13 6 0 0 (nats s) = (x, k, er)) (he : er ≠ 0) (w : World) :
    Calls Try.prog 39 #[.string s] w fun e w' => ∃ v', e = .returned (.tuple #[v', .int .i64 0, .int .i64 er]) ∧ IsStrs w' v' [] ∧ Below w.heap.size w w' := by
  have q1 : (er == 0) = false := by simpa using he
  have q2 : (er != 0) = true := by simpa using he
  have H := Lib.hid h
  clear h he
  go_enter Try.func39, Try.ntmps39
  go_wp2_with fail
  ((with_reducible refine (getInt_any s x k _ H.out _).mono ?_); rintro e w1 ⟨rfl, hb1⟩)
  go_wp2
  go_ret3
  exact ⟨_, rfl, isStrs_nil _, hb1⟩
set_option maxHeartbeats 2000000 in
theorem getTexts_much (s : ByteArray) (x k : Nat) (h : getL 12 13 6 0 0 (nats s) = (x, k, 0)) (hx : 1000 < x) (w : World) :
    Calls Try.prog 39 #[.string s] w fun e w' => ∃ v', e = .returned (.tuple #[v', .int .i64 0, .int .i64 13]) ∧ IsStrs w' v' [] ∧ Below w.heap.size w w' := by
  have hx' : (1000 : Int) < x := by omega
  have H := Lib.hid h
  clear h
  go_enter Try.func39, Try.ntmps39
  go_wp2_with fail
  ((with_reducible refine (getInt_any s x k _ H.out _).mono ?_); rintro e w1 ⟨rfl, hb1⟩)
  go_wp2
  go_ret3
  exact ⟨_, rfl, isStrs_nil _, hb1⟩
set_option maxHeartbeats 2000000 in
theorem getTexts_more (s : ByteArray) (hs : s.size ≤ maxLen) (x k : Nat) (h : getL 12 13 6 0 0 (nats s) = (x, k, 0)) (hx : x ≤ 1000) (R : List ByteArray) (n : Nat) (er : Int) (hr : repT x (s.extract k s.size) = (R, n, er)) (w : World) :
    Calls Try.prog 39 #[.string s] w fun e w' => ∃ v', e = .returned (.tuple #[v', .int .i64 (if er = 0 then (k + n : Nat) else 0 : Nat), .int .i64 er]) ∧ IsStrs w' v' (if er = 0 then R else []) ∧ Below w.heap.size w w' := by
  have hx' : ¬ (1000 : Int) < x := by omega
  obtain ⟨f1, f2, f3, f4, f5, f6⟩ := getL_fits s x k h
  have HM := Lib.hid (show (s.extract k s.size).size ≤ maxLen by rw [ByteArray.size_extract]; omega)
  have H := Lib.hid h
  have HR := Lib.hid hr
  unfold maxLen at hs
  by_cases he : er = 0
  · subst he
    have hn := (repT_fits x (s.extract k s.size) (by rw [hr])).1
    rw [hr, ByteArray.size_extract] at hn
    have hn2 : k + n ≤ s.size := by simp only at hn; omega
    clear h hr f5 f6 hn
    simp only [if_true]
    go_enter Try.func39, Try.ntmps39
    go_wp2_with fail
    ((with_reducible refine (getInt_any s x k _ H.out _).mono ?_); rintro e w1 ⟨rfl, hb1⟩)
    go_wp2_with fail
    ((with_reducible refine (repeat_any _ HM.out x hx R n 0 HR.out _).mono ?_); rintro e w2 ⟨v', rfl, hv', hb2⟩)
    have HV := Lib.hid hv'
    clear hv'
    go_wp2
    go_ret3
    exact ⟨_, by simp, HV.out, hb1.trans (hb2.mono hb1.size)⟩
  · have q1 : (er == 0) = false := by simpa using he
    have q2 : (er != 0) = true := by simpa using he
    rw [if_neg he, if_neg he]
    clear h hr f5 f6 he
    go_enter Try.func39, Try.ntmps39
    go_wp2_with fail
    ((with_reducible refine (getInt_any s x k _ H.out _).mono ?_); rintro e w1 ⟨rfl, hb1⟩)
    go_wp2_with fail
    ((with_reducible refine (repeat_any _ HM.out x hx R n er HR.out _).mono ?_); rintro e w2 ⟨v', rfl, hv', hb2⟩)
    clear hv'
    go_wp2
    go_ret3
    exact ⟨_, rfl, isStrs_nil _, hb1.trans (hb2.mono hb1.size)⟩

theorem getTexts_any (s : ByteArray) (hs : s.size ≤ maxLen) (R : List ByteArray) (n : Nat) (er : Int) (h : getTs s = (R, n, er)) (w : World) :
    Calls Try.prog 39 #[.string s] w fun e w' => ∃ v', e = .returned (.tuple #[v', .int .i64 n, .int .i64 er]) ∧ IsStrs w' v' R ∧ Below w.heap.size w w' := by
  unfold getTs at h
  rcases hg : getL 12 13 6 0 0 (nats s) with ⟨x, k, e⟩
  rw [hg] at h
  by_cases h1 : e = 0
  · subst h1
    rw [if_neg (by simp)] at h
    by_cases h2 : 1000 < x
    · rw [if_pos h2] at h
      simp only [Prod.mk.injEq] at h
      obtain ⟨rfl, rfl, rfl⟩ := h
      exact getTexts_much s x k hg h2 w
    · rw [if_neg h2] at h
      rcases hr : repT x (s.extract k s.size) with ⟨R2, n2, e2⟩
      simp only [hr, onT] at h
      have key := getTexts_more s hs x k hg (by omega) R2 n2 e2 hr w
      by_cases h3 : e2 = 0
      · subst h3
        simp at h
        obtain ⟨rfl, rfl, rfl⟩ := h
        simpa using key
      · simp [h3] at h
        obtain ⟨rfl, rfl, rfl⟩ := h
        simpa [h3] using key
  · rw [if_pos h1] at h
    simp only [Prod.mk.injEq] at h
    obtain ⟨rfl, rfl, rfl⟩ := h
    exact getTexts_err s x k e hg h1 w
end Go.Proofs.Ytgnkfikihjjpeaa.Cd
