/- Encodings of sums, of program and reference, at this translation. -/
import Derived.Test.YtgnkfikihjjpeaaRefCheck
import Derived.Test.YtgnkfikihjjpeaaCdBack
import Derived.Test.YtgnkfikihjjpeaaCdRefLists
namespace Go.Proofs.Ytgnkfikihjjpeaa
open Go.RowKit Go.Great
open Cd (encTs getTs strN nats encT)

theorem toCd {w : World} {v : Value} {L : List BA} (h : IsStrs w v L) : Cd.IsStrs w v L := h
theorem ofCd {w : World} {v : Value} {L : List BA} (h : Cd.IsStrs w v L) : IsStrs w v L := h

/-- The encoding of a sum. -/
def encS (S : Sm) : BA := strN (encTs S.A) ++ strN (encTs S.R)
theorem encTs_size (L : List BA) (hL : L.length ≤ 1000) (h : ∀ s ∈ L, s.size ≤ 65536) : (strN (encTs L)).size ≤ 70000000 := by
  rw [Cd.strN_size, encTs, List.length_append]
  have h1 := Cd.flat_len L h
  have h2 := Cd.enc6 L.length (by omega)
  have h3 : L.length * 65542 ≤ 1000 * 65542 := Nat.mul_le_mul_right _ hL
  omega

set_option maxHeartbeats 2000000 in
theorem enc_err (S : Sm) (a0 r0 : Value) (w : World) (h : IsSum w a0 r0 S) (hl : S.R.length ≤ 1000000) (q : Int) (hq : chk S = q) (hq0 : q ≠ 0) :
    Calls Try.prog 14 #[sv a0 r0] w fun e w' => e = .returned (.tuple #[.string ⟨#[]⟩, .int .i64 q]) ∧ Below w.heap.size w w' := by
  have hB := (Below.refl w.heap.size w).alloc (Nat.le_refl _) (.cells #[a0, r0] 24)
  have x := SBox.new w a0 r0
  have h1 := h.below hB (Nat.le_refl _)
  obtain ⟨pa, ca, pr, cr, rfl, rfl, na, nr⟩ := h.parts
  have c0 := x.c0
  have c1 := x.c1
  have e1 : (q == 0) = false := by simpa using hq0
  have e2 : (q != 0) = true := by simpa using hq0
  have HQ := Lib.hid hq
  clear x hq hq0
  go_enter Try.func14, Try.ntmps14
  go_wp2_with fail
  ((with_reducible refine (check_any S _ _ _ h1 hl q HQ.out).mono ?_); rintro e w1 ⟨rfl, hb1⟩)
  go_wp2
  go_ret2
  exact ⟨rfl, hB.trans (hb1.mono (by simp))⟩
set_option maxHeartbeats 2000000 in
theorem enc_ok (S : Sm) (a0 r0 : Value) (w : World) (h : IsSum w a0 r0 S) (hS : Ok S) :
    Calls Try.prog 14 #[sv a0 r0] w fun e w' => e = .returned (.tuple #[.string (encS S), .int .i64 0]) ∧ Below w.heap.size w w' := by
  have hB := (Below.refl w.heap.size w).alloc (Nat.le_refl _) (.cells #[a0, r0] 24)
  have x := SBox.new w a0 r0
  have h1 := h.below hB (Nat.le_refl _)
  obtain ⟨pa, ca, pr, cr, rfl, rfl, na, nr⟩ := h.parts
  have c0 := x.c0
  have c1 := x.c1
  have HX := Lib.hid x
  have KQ := Lib.hid ((chk_ok S).2 hS)
  have la := hS.m
  have lr : S.R.length ≤ 1000 := by have := hS.l; omega
  have HA := Lib.hid hS.a
  have HR := Lib.hid hS.r
  have sa := encTs_size S.A la hS.a
  have sr := encTs_size S.R lr hS.r
  have HE := Lib.hid (show strN (encTs S.A) ++ strN (encTs S.R) = encS S from rfl)
  clear x hS
  obtain ⟨u1, hu1⟩ : ∃ u, strN (encTs S.A) = u := ⟨_, rfl⟩
  obtain ⟨u2, hu2⟩ : ∃ u, strN (encTs S.R) = u := ⟨_, rfl⟩
  rw [hu1] at sa HE
  rw [hu2] at sr HE
  have HU1 := Lib.hid hu1
  have HU2 := Lib.hid hu2
  have hno : ¬ 9223372036854775807 < u1.size + u2.size := by omega
  clear hu1 hu2
  go_enter Try.func14, Try.ntmps14
  go_wp2_with fail
  ((with_reducible refine (check_any S _ _ _ h1 (by omega) 0 KQ.out).mono ?_); rintro e w1 ⟨rfl, hb1⟩)
  have x1 := HX.out.below hb1 (by simp)
  have h2 := h1.below hb1 (Nat.le_refl _)
  have hB1 := hB.trans (hb1.mono (by simp))
  have lt1 : w.heap.size < w1.heap.size := x1.lt
  clear c0 c1 h1 hb1 HX
  have d0 := x1.c0
  have d1 := x1.c1
  go_wp2_with fail
  ((with_reducible refine (Cd.putTexts_good S.A la HA.out _ _ (toCd h2.a)).mono ?_); rintro e w2 ⟨rfl, hb2⟩)
  rw [HU1.out]
  have x2 := x1.below hb2 lt1
  have h3 := h2.below hb2 (Nat.le_refl _)
  have hB2 := hB1.trans (hb2.mono hB1.size)
  clear d0 d1 h2 hb2 x1
  have c0 := x2.c0
  have c1 := x2.c1
  go_wp2_with fail
  ((with_reducible refine (Cd.putTexts_good S.R lr HR.out _ _ (toCd h3.r)).mono ?_); rintro e w3 ⟨rfl, hb3⟩)
  rw [HU2.out]
  have hB3 := hB2.trans (hb3.mono hB2.size)
  clear c0 c1 h3 hb3 x2
  go_wp2
  go_ret2
  exact ⟨by rw [← HE.out]; rfl, hB3⟩

set_option maxHeartbeats 2000000 in
theorem refEnc_err (S : Sm) (a0 r0 : Value) (w : World) (h : IsSum w a0 r0 S) (hl : S.R.length ≤ 1000000) (q : Int) (hq : chk S = q) (hq0 : q ≠ 0) :
    Calls Try.prog 15 #[sv a0 r0] w fun e w' => e = .returned (.tuple #[.string ⟨#[]⟩, .int .i64 q]) ∧ Below w.heap.size w w' := by
  have hB := (Below.refl w.heap.size w).alloc (Nat.le_refl _) (.cells #[a0, r0] 24)
  have x := SBox.new w a0 r0
  have h1 := h.below hB (Nat.le_refl _)
  obtain ⟨pa, ca, pr, cr, rfl, rfl, na, nr⟩ := h.parts
  have c0 := x.c0
  have c1 := x.c1
  have e1 : (q == 0) = false := by simpa using hq0
  have e2 : (q != 0) = true := by simpa using hq0
  have HQ := Lib.hid hq
  clear x hq hq0
  go_enter Try.func15, Try.ntmps15
  go_wp2_with fail
  ((with_reducible refine (refCheck_any S _ _ _ h1 hl q HQ.out).mono ?_); rintro e w1 ⟨rfl, hb1⟩)
  go_wp2
  go_ret2
  exact ⟨rfl, hB.trans (hb1.mono (by simp))⟩
set_option maxHeartbeats 2000000 in
theorem refEnc_ok (S : Sm) (a0 r0 : Value) (w : World) (h : IsSum w a0 r0 S) (hS : Ok S) :
    Calls Try.prog 15 #[sv a0 r0] w fun e w' => e = .returned (.tuple #[.string (encS S), .int .i64 0]) ∧ Below w.heap.size w w' := by
  have hB := (Below.refl w.heap.size w).alloc (Nat.le_refl _) (.cells #[a0, r0] 24)
  have x := SBox.new w a0 r0
  have h1 := h.below hB (Nat.le_refl _)
  obtain ⟨pa, ca, pr, cr, rfl, rfl, na, nr⟩ := h.parts
  have c0 := x.c0
  have c1 := x.c1
  have HX := Lib.hid x
  have KQ := Lib.hid ((chk_ok S).2 hS)
  have la := hS.m
  have lr : S.R.length ≤ 1000 := by have := hS.l; omega
  have HA := Lib.hid hS.a
  have HR := Lib.hid hS.r
  have sa := encTs_size S.A la hS.a
  have sr := encTs_size S.R lr hS.r
  have HE := Lib.hid (show strN (encTs S.A) ++ strN (encTs S.R) = encS S from rfl)
  clear x hS
  obtain ⟨u1, hu1⟩ : ∃ u, strN (encTs S.A) = u := ⟨_, rfl⟩
  obtain ⟨u2, hu2⟩ : ∃ u, strN (encTs S.R) = u := ⟨_, rfl⟩
  rw [hu1] at sa HE
  rw [hu2] at sr HE
  have HU1 := Lib.hid hu1
  have HU2 := Lib.hid hu2
  have hno : ¬ 9223372036854775807 < u1.size + u2.size := by omega
  clear hu1 hu2
  go_enter Try.func15, Try.ntmps15
  go_wp2_with fail
  ((with_reducible refine (refCheck_any S _ _ _ h1 (by omega) 0 KQ.out).mono ?_); rintro e w1 ⟨rfl, hb1⟩)
  have x1 := HX.out.below hb1 (by simp)
  have h2 := h1.below hb1 (Nat.le_refl _)
  have hB1 := hB.trans (hb1.mono (by simp))
  have lt1 : w.heap.size < w1.heap.size := x1.lt
  clear c0 c1 h1 hb1 HX
  have d0 := x1.c0
  have d1 := x1.c1
  go_wp2_with fail
  ((with_reducible refine (Cd.refPutTexts_good S.A la HA.out _ _ (toCd h2.a)).mono ?_); rintro e w2 ⟨rfl, hb2⟩)
  rw [HU1.out]
  have x2 := x1.below hb2 lt1
  have h3 := h2.below hb2 (Nat.le_refl _)
  have hB2 := hB1.trans (hb2.mono hB1.size)
  clear d0 d1 h2 hb2 x1
  have c0 := x2.c0
  have c1 := x2.c1
  go_wp2_with fail
  ((with_reducible refine (Cd.refPutTexts_good S.R lr HR.out _ _ (toCd h3.r)).mono ?_); rintro e w3 ⟨rfl, hb3⟩)
  rw [HU2.out]
  have hB3 := hB2.trans (hb3.mono hB2.size)
  clear c0 c1 h3 hb3 x2
  go_wp2
  go_ret2
  exact ⟨by rw [← HE.out]; rfl, hB3⟩
end Go.Proofs.Ytgnkfikihjjpeaa
