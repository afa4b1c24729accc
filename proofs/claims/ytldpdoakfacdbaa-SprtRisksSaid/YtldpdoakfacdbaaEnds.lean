/- The short ways of Ends and of the reference's Ends, and Same, at this translation. -/
import Derived.Test.YtldpdoakfacdbaaEndsMath
import Derived.Test.YtldpdoakfacdbaaFuncs
import Derived.Test.YtldpdoakfacdbaaRefFuncs
import Derived.BigQuiet
import Derived.Deep.QuietTactic
namespace Go.Proofs.Ytldpdoakfacdbaa
open Go.RowKit Go.Shelf

theorem ends_bad (gn gd bn bd an ad en ed n : Int) (h : chk gn gd bn bd an ad en ed = 1) (w : World) :
    Calls Try.prog 19 #[trialV gn gd bn bd an ad en ed, .int .i64 n] w fun e w' => e = .returned (.tuple #[.slice none 0 0, .int .i64 1]) ∧ Below w.heap.size w w' := by
  have H := Lib.hid h
  clear h
  go_enter Try.func19, Try.ntmps19
  go_wp2_with fail
  ((with_reducible refine (check_any gn gd bn bd an ad en ed _).mono ?_); rintro e w1 ⟨he, hb1⟩)
  rw [H.out] at he
  subst he
  go_wp2
  go_ret2
  exact ⟨rfl, ((Below.refl _ _).alloc (Nat.le_refl _) _).trans (hb1.mono (by simp))⟩
theorem refEnds_bad (gn gd bn bd an ad en ed n : Int) (h : chk gn gd bn bd an ad en ed = 1) (w : World) :
    Calls Try.prog 20 #[trialV gn gd bn bd an ad en ed, .int .i64 n] w fun e w' => e = .returned (.tuple #[.slice none 0 0, .int .i64 1]) ∧ Below w.heap.size w w' := by
  have H := Lib.hid h
  clear h
  go_enter Try.func20, Try.ntmps20
  go_wp2_with fail
  ((with_reducible refine (refCheck_any gn gd bn bd an ad en ed _).mono ?_); rintro e w1 ⟨he, hb1⟩)
  rw [H.out] at he
  subst he
  go_wp2
  go_ret2
  exact ⟨rfl, ((Below.refl _ _).alloc (Nat.le_refl _) _).trans (hb1.mono (by simp))⟩
theorem ends_low (gn gd bn bd an ad en ed n : Int) (h : chk gn gd bn bd an ad en ed = 0) (hn : n < 0) (w : World) :
    Calls Try.prog 19 #[trialV gn gd bn bd an ad en ed, .int .i64 n] w fun e w' => e = .returned (.tuple #[.slice none 0 0, .int .i64 2]) ∧ Below w.heap.size w w' := by
  have H := Lib.hid h
  clear h
  go_enter Try.func19, Try.ntmps19
  go_wp2_with fail
  ((with_reducible refine (check_any gn gd bn bd an ad en ed _).mono ?_); rintro e w1 ⟨he, hb1⟩)
  rw [H.out] at he
  subst he
  go_wp2
  go_ret2
  exact ⟨rfl, ((Below.refl _ _).alloc (Nat.le_refl _) _).trans (hb1.mono (by simp))⟩
theorem refEnds_low (gn gd bn bd an ad en ed n : Int) (h : chk gn gd bn bd an ad en ed = 0) (hn : n < 0) (w : World) :
    Calls Try.prog 20 #[trialV gn gd bn bd an ad en ed, .int .i64 n] w fun e w' => e = .returned (.tuple #[.slice none 0 0, .int .i64 2]) ∧ Below w.heap.size w w' := by
  have H := Lib.hid h
  clear h
  go_enter Try.func20, Try.ntmps20
  go_wp2_with fail
  ((with_reducible refine (refCheck_any gn gd bn bd an ad en ed _).mono ?_); rintro e w1 ⟨he, hb1⟩)
  rw [H.out] at he
  subst he
  go_wp2
  go_ret2
  exact ⟨rfl, ((Below.refl _ _).alloc (Nat.le_refl _) _).trans (hb1.mono (by simp))⟩
theorem ends_high (gn gd bn bd an ad en ed n : Int) (h : chk gn gd bn bd an ad en ed = 0) (hn : 30 < n) (w : World) :
    Calls Try.prog 19 #[trialV gn gd bn bd an ad en ed, .int .i64 n] w fun e w' => e = .returned (.tuple #[.slice none 0 0, .int .i64 2]) ∧ Below w.heap.size w w' := by
  have hn0 : ¬ n < 0 := by omega
  have H := Lib.hid h
  clear h
  go_enter Try.func19, Try.ntmps19
  go_wp2_with fail
  ((with_reducible refine (check_any gn gd bn bd an ad en ed _).mono ?_); rintro e w1 ⟨he, hb1⟩)
  rw [H.out] at he
  subst he
  go_wp2
  go_ret2
  exact ⟨rfl, ((Below.refl _ _).alloc (Nat.le_refl _) _).trans (hb1.mono (by simp))⟩
theorem refEnds_high (gn gd bn bd an ad en ed n : Int) (h : chk gn gd bn bd an ad en ed = 0) (hn : 30 < n) (w : World) :
    Calls Try.prog 20 #[trialV gn gd bn bd an ad en ed, .int .i64 n] w fun e w' => e = .returned (.tuple #[.slice none 0 0, .int .i64 2]) ∧ Below w.heap.size w w' := by
  have hn0 : ¬ n < 0 := by omega
  have H := Lib.hid h
  clear h
  go_enter Try.func20, Try.ntmps20
  go_wp2_with fail
  ((with_reducible refine (refCheck_any gn gd bn bd an ad en ed _).mono ?_); rintro e w1 ⟨he, hb1⟩)
  rw [H.out] at he
  subst he
  go_wp2
  go_ret2
  exact ⟨rfl, ((Below.refl _ _).alloc (Nat.le_refl _) _).trans (hb1.mono (by simp))⟩

/-- A slice whose cells are these ends. -/
def IsEnds (w : World) (v : Value) (L : List EndR) : Prop :=
  ∃ a cap, v = .slice a L.length cap ∧ L.length ≤ 1000 ∧ L.length ≤ cap ∧ (L = [] ∨ ∃ b off, a = some ⟨b, off, none⟩ ∧ b < w.heap.size ∧ ∀ j (h : j < L.length),
    w.cell? ⟨b, off + j * 4, none⟩ = some (.int .i64 L[j].p) ∧ w.cell? ⟨b, off + j * 4 + 1, none⟩ = some (.int .i64 L[j].f) ∧ w.cell? ⟨b, off + j * 4 + 2, none⟩ = some (.int .i64 L[j].d) ∧ w.cell? ⟨b, off + j * 4 + 3, none⟩ = some (.int .i64 L[j].c))
theorem IsEnds.below {w w' : World} {v : Value} {L : List EndR} {B : Nat} (h : IsEnds w v L) (hB : Below B w w') (hz : w.heap.size ≤ B) : IsEnds w' v L := by
  obtain ⟨a, cap, e, h1, h2, h3⟩ := h
  refine ⟨a, cap, e, h1, h2, h3.imp id ?_⟩
  rintro ⟨b, off, e2, hb, hj⟩
  have c : ∀ o, w'.cell? ⟨b, o, none⟩ = w.cell? ⟨b, o, none⟩ := fun o => hB.cell (p := ⟨b, o, none⟩) (show b < B by omega)
  exact ⟨b, off, e2, Nat.lt_of_lt_of_le hb hB.size, fun j h => ⟨(c _).trans (hj j h).1, (c _).trans (hj j h).2.1, (c _).trans (hj j h).2.2.1, (c _).trans (hj j h).2.2.2⟩⟩
theorem isEnds_nil (w : World) : IsEnds w (.slice none 0 0) [] := ⟨none, 0, rfl, by simp, Nat.le_refl _, .inl rfl⟩

set_option maxHeartbeats 2000000 in
theorem sameE_any (L : List EndR) (v1 v2 : Value) (w : World) (h1 : IsEnds w v1 L) (h2 : IsEnds w v2 L) : Calls Try.prog 21 #[v1, v2] w fun e w' => e = .returned (.bool true) ∧ Below w.heap.size w w' := by
  obtain ⟨a1, cap1, rfl, hm, hcap1, hc1⟩ := h1
  obtain ⟨a2, cap2, rfl, _, hcap2, hc2⟩ := h2
  have HC1 := Lib.hid hc1
  have HC2 := Lib.hid hc2
  clear hc1 hc2
  go_enter Try.func21, Try.ntmps21
  go_wp2
  go_loopw [5] (fun s5 wr => ∃ k : Nat, k ≤ L.length ∧ s5 = .int .i64 k ∧ Below w.heap.size w wr) (fun s5 _ => L.length - (intOf s5).toNat)
  case atStart => exact ⟨0, Nat.zero_le _, rfl, Below.refl _ _⟩
  case round =>
    obtain ⟨k, hk, rfl, hB⟩ := hrel
    by_cases hlt : k < L.length
    · obtain ⟨b1, o1, rfl, hb1, hcell1⟩ := HC1.out.resolve_left (by intro e; rw [e] at hlt; simp at hlt)
      obtain ⟨b2, o2, rfl, hb2, hcell2⟩ := HC2.out.resolve_left (by intro e; rw [e] at hlt; simp at hlt)
      obtain ⟨p0, p1, p2, p3⟩ := hcell1 k hlt
      obtain ⟨q0, q1, q2, q3⟩ := hcell2 k hlt
      have c1 : ∀ o, wr.cell? ⟨b1, o, none⟩ = w.cell? ⟨b1, o, none⟩ := fun o => hB.cell (p := ⟨b1, o, none⟩) hb1
      have c2 : ∀ o, wr.cell? ⟨b2, o, none⟩ = w.cell? ⟨b2, o, none⟩ := fun o => hB.cell (p := ⟨b2, o, none⟩) hb2
      rw [← c1] at p0 p1 p2 p3
      rw [← c2] at q0 q1 q2 q3
      generalize L[k] = x at p0 p1 p2 p3 q0 q1 q2 q3
      clear hcell1 hcell2 c1 c2
      go_wp2
      go_quiet (fail)
      go_wp2
      go_roundw
      case rel => exact ⟨k + 1, by omega, by go_num, ⟨hB.os, hB.tape, hB.output, hB.size, hB.block⟩⟩
      case measure => simp [intOf]; omega
    · go_wp2
      go_ret
      exact ⟨rfl, hB⟩
end Go.Proofs.Ytldpdoakfacdbaa
