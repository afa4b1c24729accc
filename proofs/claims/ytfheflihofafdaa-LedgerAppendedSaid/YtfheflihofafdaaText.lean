/- The text of a record, of the reference, at this translation. -/
import Derived.Test.YtfheflihofafdaaCheck
namespace Go.Proofs.Ytfheflihofafdaa
open Go.RowKit Go.Great Pt Tr

/-- The text of a record. -/
def recS (r : Rec) : BA := numS r.time.toNat ++ txtS r.who ++ txtS r.what ++ txtS r.data
theorem isChars_le {s : BA} (h : isChars s = true) : s.size ≤ 24 := by
  unfold isChars at h
  simp only [Bool.and_eq_true, decide_eq_true_eq] at h
  exact h.2
theorem okR_parts {r : Rec} (h : okR r = true) : ∃ m : Nat, r.time = m ∧ m ≤ 1099511627776 ∧ r.who.size ≤ 24 ∧ r.what.size ≤ 24 ∧ r.data.size ≤ 65536 := by
  simp only [okR, Bool.and_eq_true, decide_eq_true_eq] at h
  obtain ⟨⟨⟨⟨h1, h2⟩, h3⟩, h4⟩, h5⟩ := h
  obtain ⟨m, hm⟩ := Int.eq_ofNat_of_zero_le h1
  exact ⟨m, hm, by omega, isChars_le h3, isChars_le h4, h5⟩
theorem txtS_le (s : BA) (h : s.size ≤ 65536) : (txtS s).size ≤ s.size + 6 := by
  rw [txtS_size]
  have := (Cd.enc7_len s.size 6 (by omega)).2 (by omega)
  omega
theorem recS_le {r : Rec} (h : okR r = true) : (recS r).size ≤ 70000 := by
  obtain ⟨m, e, hm, h1, h2, h3⟩ := okR_parts h
  have a := numS_le m hm
  have b := txtS_le r.who (by omega)
  have c := txtS_le r.what (by omega)
  have d := txtS_le r.data h3
  unfold recS
  rw [e, ByteArray.size_append, ByteArray.size_append, ByteArray.size_append]
  simp only [Int.toNat_natCast]
  omega

set_option maxRecDepth 100000 in
set_option maxHeartbeats 1000000 in
theorem refText_any (r : Rec) (w : World) (hok : okR r = true) :
    Calls Try.prog 45 #[rv r] w fun e w' => e = .returned (.string (recS r)) ∧ Below w.heap.size w w' := by
  obtain ⟨m, e, hm, h1, h2, h3⟩ := okR_parts hok
  obtain ⟨t, n1, n2, n3⟩ := r
  simp only at e h1 h2 h3
  subst e
  have z0 := numS_le m hm
  have z1 := txtS_le n1 (by omega)
  have z2 := txtS_le n2 (by omega)
  have z3 := txtS_le n3 h3
  have hr : recS ⟨(m : Int), n1, n2, n3⟩ = numS m ++ txtS n1 ++ txtS n2 ++ txtS n3 := by unfold recS; simp only [Int.toNat_natCast]
  rw [hr]
  clear hr hok
  obtain ⟨S0, hS0⟩ : ∃ s, numS m = s := ⟨_, rfl⟩
  obtain ⟨S1, hS1⟩ : ∃ s, txtS n1 = s := ⟨_, rfl⟩
  obtain ⟨S2, hS2⟩ : ∃ s, txtS n2 = s := ⟨_, rfl⟩
  obtain ⟨S3, hS3⟩ : ∃ s, txtS n3 = s := ⟨_, rfl⟩
  have k0 := fun W => refPutInt_any m hm W
  have k1 := fun W => Cd.refPutText_good n1 (by omega) W
  have k2 := fun W => Cd.refPutText_good n2 (by omega) W
  have k3 := fun W => Cd.refPutText_good n3 h3 W
  rw [show Cd.strN (Cd.encT n1) = S1 from hS1] at k1
  rw [show Cd.strN (Cd.encT n2) = S2 from hS2] at k2
  rw [show Cd.strN (Cd.encT n3) = S3 from hS3] at k3
  rw [hS0] at k0 z0 ⊢
  rw [hS1] at z1 ⊢
  rw [hS2] at z2 ⊢
  rw [hS3] at z3 ⊢
  have K0 := Lib.hid k0
  have K1 := Lib.hid k1
  have K2 := Lib.hid k2
  have K3 := Lib.hid k3
  clear k0 k1 k2 k3 hS0 hS1 hS2 hS3
  have hb0 := box_on (w := w) ⟨(m : Int), n1, n2, n3⟩ (Below.refl _ _)
  have hB0 : Below w.heap.size w (w.alloc (rc ⟨(m : Int), n1, n2, n3⟩)) := bla (Below.refl _ _) _
  have hs0 : w.heap.size < (w.alloc (rc ⟨(m : Int), n1, n2, n3⟩)).heap.size := by simp
  go_enter Try.func45, Try.ntmps45
  go_wp2_with fail
  ((with_reducible refine (K0.out _).mono ?_); rintro e w1 ⟨rfl, b1⟩)
  have hb1 := hb0.below b1 hs0
  have hs1 := Nat.lt_of_lt_of_le hs0 b1.size
  have hB1 := bl hB0 b1
  obtain ⟨q0, q1, q2, q3⟩ := hb1
  simp only at q0 q1 q2 q3
  go_wp2_with fail
  ((with_reducible refine (K1.out _).mono ?_); rintro e w2 ⟨rfl, b2⟩)
  have hb2 := RecAt.below (x := ⟨(m : Int), n1, n2, n3⟩) ⟨q0, q1, q2, q3⟩ b2 hs1
  have hs2 := Nat.lt_of_lt_of_le hs1 b2.size
  have hB2 := bl hB1 b2
  clear q0 q1 q2 q3
  obtain ⟨q0, q1, q2, q3⟩ := hb2
  simp only at q0 q1 q2 q3
  go_wp2_with fail
  ((with_reducible refine (K2.out _).mono ?_); rintro e w3 ⟨rfl, b3⟩)
  have hb3 := RecAt.below (x := ⟨(m : Int), n1, n2, n3⟩) ⟨q0, q1, q2, q3⟩ b3 hs2
  have hB3 := bl hB2 b3
  clear q0 q1 q2 q3
  obtain ⟨q0, q1, q2, q3⟩ := hb3
  simp only at q0 q1 q2 q3
  go_wp2_with fail
  ((with_reducible refine (K3.out _).mono ?_); rintro e w4 ⟨rfl, b4⟩)
  have hB4 := bl hB3 b4
  have l1 : S0.size + S1.size ≤ 9223372036854775807 := by omega
  have l2 : S0.size + S1.size + S2.size ≤ 9223372036854775807 := by omega
  have l3 : S0.size + S1.size + S2.size + S3.size ≤ 9223372036854775807 := by omega
  go_wp2
  go_ret
  exact ⟨rfl, hB4⟩
end Go.Proofs.Ytfheflihofafdaa
