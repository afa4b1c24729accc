/- The reference's Prove, at this translation. -/
import Derived.Test.YtfheflihofafdaaRefHead
namespace Go.Proofs.Ytfheflihofafdaa
open Go.RowKit Go.Great Pt Tr

/-- The proof of an element, and why there is none. -/
def prfD (D : List Dig) (i : Int) : List Dig := if 0 ≤ i ∧ i < D.length then proofT (D.length + 1) D i.toNat else []
def prfE (D : List Dig) (i : Int) : Int := if 0 ≤ i ∧ i < D.length then 0 else 2
theorem refProofD_any (D : List Dig) (i : Int) (u : Value) (W : World) (hu : IsDigs W u D) (hl : D.length < 1000) :
    Calls Try.prog 36 #[u, .int .i64 i] W fun e w' => ∃ v, e = .returned (.tuple #[v, .int .i64 (prfE D i)]) ∧ IsDigs w' v (prfD D i) ∧ Below W.heap.size W w' := by
  by_cases h : 0 ≤ i ∧ i < D.length
  · obtain ⟨k, rfl⟩ := Int.eq_ofNat_of_zero_le h.1
    refine (refProof_any (D.length + 1) D k W u (Nat.lt_succ_self _) (by omega) (by omega) hu).mono ?_
    rintro e w' ⟨v, rfl, ho, hb⟩
    refine ⟨v, by rw [prfE, if_pos h], ?_, hb⟩
    rw [prfD, if_pos h]
    exact own_digs ho
  · have hu' := hu
    obtain ⟨a, cap, rfl, _⟩ := hu'
    refine (refProofBad_any D.length cap a i (by omega) W).mono ?_
    rintro e w' ⟨v, rfl, ho, hb⟩
    refine ⟨v, by rw [prfE, if_neg h], ?_, hb⟩
    rw [prfD, if_neg h]
    exact own_digs (L := []) ho
def proveM (L : List Rec) (i : Int) : List Dig := if chkL L = 0 then prfD (L.map recD) i else []
def proveE (L : List Rec) (i : Int) : Int := if chkL L = 0 then prfE (L.map recD) i else chkL L
theorem isDigs_nil (w : World) : IsDigs w (.slice none 0 0) [] := ⟨none, 0, rfl, Nat.zero_le _, Nat.zero_le _, .inl rfl⟩

set_option maxRecDepth 100000 in
set_option maxHeartbeats 1000000 in
theorem refProve_any (L : List Rec) (v : Value) (i : Int) (w : World) (h : IsRecs w v L) (hf : ∀ x ∈ L, x.Fit) (hlen : L.length < 1000) :
    Calls Try.prog 18 #[.agg #[v], .int .i64 i] w fun e w' => ∃ u, e = .returned (.tuple #[u, .int .i64 (proveE L i)]) ∧ IsDigs w' u (proveM L i) ∧ Below w.heap.size w w' := by
  have h' := h
  obtain ⟨a, cap, rfl, _⟩ := h'
  have c0 := recs_box (w := w) (a := a) (n := L.length) (cap := cap) (T := 24)
  have hB0 : Below w.heap.size w (w.alloc (.cells #[.slice a L.length cap] 24)) := bla (Below.refl _ _) _
  have hz : w.heap.size < (w.alloc (.cells #[.slice a L.length cap] 24)).heap.size := by simp
  have KC := Lib.hid (fun W (hW : Below w.heap.size w W) => refCheck_any L _ W (h.below hW (Nat.le_refl _)) hf _ rfl)
  by_cases hk : chkL L = 0
  · obtain ⟨hl, hok⟩ := chk_ok hk
    have KD := Lib.hid (fun W (hW : Below w.heap.size w W) => refDigests_any L _ W (h.below hW (Nat.le_refl _)) hok hl)
    have KP := Lib.hid (fun W u (hu : IsDigs W u (L.map recD)) => refProofD_any (L.map recD) i u W hu (by rw [List.length_map]; omega))
    have hM : proveM L i = prfD (L.map recD) i := by unfold proveM; rw [if_pos hk]
    have hE : proveE L i = prfE (L.map recD) i := by unfold proveE; rw [if_pos hk]
    rw [hM, hE]
    rw [hk] at KC
    clear hok hl hM h hf hE
    go_enter Try.func18, Try.ntmps18
    go_wp2_with fail
    ((with_reducible refine (KC.out _ hB0).mono ?_); rintro e w1 ⟨rfl, b1⟩)
    have hB1 := bl hB0 b1
    have c1 := (b1.cell (p := ⟨w.heap.size, 0, none⟩) hz).trans c0
    clear c0
    go_wp2_with fail
    ((with_reducible refine (KD.out _ hB1).mono ?_); rintro e w2 ⟨u, rfl, hu, b2⟩)
    have hB2 := bl hB1 b2
    go_wp2_with fail
    ((with_reducible refine (KP.out _ _ hu).mono ?_); rintro e w3 ⟨u3, rfl, hu3, b3⟩)
    have hB3 := bl hB2 b3
    go_wp2
    go_ret2
    exact ⟨_, rfl, hu3, hB3⟩
  · have hM : proveM L i = [] := by unfold proveM; rw [if_neg hk]
    have hE : proveE L i = chkL L := by unfold proveE; rw [if_neg hk]
    have hb : (chkL L == 0) = false := by simpa using hk
    rw [hM, hE]
    clear h hf hM hE
    go_enter Try.func18, Try.ntmps18
    go_wp2_with fail
    ((with_reducible refine (KC.out _ hB0).mono ?_); rintro e w1 ⟨rfl, b1⟩)
    have hB1 := bl hB0 b1
    go_wp2
    go_ret2
    exact ⟨_, rfl, isDigs_nil _, hB1⟩
end Go.Proofs.Ytfheflihofafdaa
