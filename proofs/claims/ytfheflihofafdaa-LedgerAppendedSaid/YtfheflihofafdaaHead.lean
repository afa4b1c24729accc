/- ledger.Head and ledger.Prove, over the digest of one record, at this translation. -/
import Derived.Test.YtfheflihofafdaaDigs
import Derived.Test.YtfheflihofafdaaRefProve
namespace Go.Proofs.Ytfheflihofafdaa
open Go.RowKit Go.Great Pt Tr

set_option maxRecDepth 100000 in
set_option maxHeartbeats 1000000 in
theorem head_of (L : List Rec) (v : Value) (w : World) (h : IsRecs w v L) (hf : ∀ x ∈ L, x.Fit)
    (K43 : ∀ r W, okR r = true → Calls Try.prog 43 #[rv r] W fun e w' => e = .returned (.agg #[.int .u64 (recD r).1, .int .u64 (recD r).2]) ∧ Below W.heap.size W w') :
    Calls Try.prog 21 #[.agg #[v]] w fun e w' => e = .returned (headM L).v ∧ Below w.heap.size w w' := by
  have h' := h
  obtain ⟨a, cap, rfl, _⟩ := h'
  have c0 := recs_box (w := w) (a := a) (n := L.length) (cap := cap) (T := 24)
  have c0 := (((Below.refl (w.heap.size + 1) (w.alloc (.cells #[.slice a L.length cap] 24))).alloc (by simp) (.cells #[.int .u64 0, .int .u64 0] 40)).cell (p := ⟨w.heap.size, 0, none⟩) (by simp)).trans c0
  have r0 := Two.fresh (w.alloc (.cells #[.slice a L.length cap] 24)) 0 0 40
  rw [World.size_alloc] at r0
  have hB0 : Below w.heap.size w ((w.alloc (.cells #[.slice a L.length cap] 24)).alloc (.cells #[.int .u64 0, .int .u64 0] 40)) := bla (bla (Below.refl _ _) _) _
  have hz : w.heap.size < ((w.alloc (.cells #[.slice a L.length cap] 24)).alloc (.cells #[.int .u64 0, .int .u64 0] 40)).heap.size := by simp; omega
  have hz1 : w.heap.size + 1 < ((w.alloc (.cells #[.slice a L.length cap] 24)).alloc (.cells #[.int .u64 0, .int .u64 0] 40)).heap.size := by simp
  have KC := Lib.hid (fun W (hW : Below w.heap.size w W) => check_any L _ W (h.below hW (Nat.le_refl _)) hf _ rfl)
  by_cases hk : chkL L = 0
  · obtain ⟨hl, hok⟩ := chk_ok hk
    have KD := Lib.hid (fun W (hW : Below w.heap.size w W) => digests_of L _ W (h.below hW (Nat.le_refl _)) hok hl K43)
    have hM : headM L = rootL L := by unfold headM; rw [if_pos hk]
    have KR := Lib.hid (fun W u (hu : IsDigs W u (L.map recD)) => root_any ((L.map recD).length + 1) (L.map recD) W u (Nat.lt_succ_self _) (by rw [List.length_map]; omega) hu)
    rw [hM]
    rw [hk] at KC
    clear hok hl hM h hf
    go_enter Try.func21, Try.ntmps21
    go_wp2_with fail
    ((with_reducible refine (KC.out _ hB0).mono ?_); rintro e w1 ⟨rfl, b1⟩)
    have hB1 := bl hB0 b1
    have c1 := (b1.cell (p := ⟨w.heap.size, 0, none⟩) hz).trans c0
    have r1 := r0.below b1 hz1
    have z1 := Nat.lt_of_lt_of_le hz1 b1.size
    clear c0 r0
    go_wp2_with fail
    ((with_reducible refine (KD.out _ hB1).mono ?_); rintro e w2 ⟨u, rfl, hu, b2⟩)
    have hB2 := bl hB1 b2
    have r2 := r1.below b2 z1
    have z2 := Nat.lt_of_lt_of_le z1 b2.size
    go_wp2_with fail
    ((with_reducible refine (KR.out _ _ hu).mono ?_); rintro e w3 ⟨rfl, b3⟩)
    have hB3 := bl hB2 b3
    have hQ := r2.below b3 z2
    obtain ⟨q0, q1, q2, q3⟩ := hQ
    have hQ : Two w3 (w.heap.size + 1) 0 0 := ⟨q0, q1, q2, q3⟩
    have hv : (rootL L).v = .agg #[.int .u64 ((rootL L).1 : Nat), .int .u64 ((rootL L).2 : Nat)] := rfl
    obtain ⟨x, hx⟩ : ∃ x : Nat, (rootL L).1 = x := ⟨_, rfl⟩
    obtain ⟨y, hy⟩ : ∃ y : Nat, (rootL L).2 = y := ⟨_, rfl⟩
    rw [hx, hy] at hv
    have HV := Lib.hid hv
    rw [show rootT ((L.map recD).length + 1) (L.map recD) = rootL L from rfl, hv]
    clear KR KD KC hx hy hv r2 r1
    go_wp2
    refine bodyPost_ret (v := .agg #[.int .u64 x, .int .u64 y]) ?_ rfl ⟨congrArg Ending.returned HV.out.symm, ?_⟩
    · obtain ⟨s0, s1, _, _⟩ := (hQ.set0 x).set1 y
      simp [results, Try.results21, go_sem, s0, s1]
    · exact (hB3.setCell (p := ⟨w.heap.size + 1, 0, none⟩) (by simp) _).setCell (p := ⟨w.heap.size + 1, 1, none⟩) (by simp) _
  · have hM : headM L = (0, 0) := by unfold headM; rw [if_neg hk]
    have hb : (chkL L == 0) = false := by simpa using hk
    rw [hM]
    clear h hf
    go_enter Try.func21, Try.ntmps21
    go_wp2_with fail
    ((with_reducible refine (KC.out _ hB0).mono ?_); rintro e w1 ⟨rfl, b1⟩)
    have hB1 := bl hB0 b1
    obtain ⟨q0, q1, q2, q3⟩ := r0.below b1 hz1
    have hQ : Two w1 (w.heap.size + 1) 0 0 := ⟨q0, q1, q2, q3⟩
    go_wp2
    refine bodyPost_ret (v := .agg #[.int .u64 0, .int .u64 0]) ?_ rfl ⟨rfl, ?_⟩
    · obtain ⟨s0, s1, _, _⟩ := (hQ.set0 0).set1 0
      simp [results, Try.results21, go_sem, s0, s1]
    · exact (hB1.setCell (p := ⟨w.heap.size + 1, 0, none⟩) (by simp) _).setCell (p := ⟨w.heap.size + 1, 1, none⟩) (by simp) _

theorem proofD_any (D : List Dig) (i : Int) (u : Value) (W : World) (hu : IsDigs W u D) (hl : D.length < 999) :
    Calls Try.prog 34 #[u, .int .i64 i] W fun e w' => ∃ v, e = .returned (.tuple #[v, .int .i64 (prfE D i)]) ∧ IsDigs w' v (prfD D i) ∧ Below W.heap.size W w' := by
  have hu' := hu
  obtain ⟨a, cap, rfl, _⟩ := hu'
  by_cases h : 0 ≤ i ∧ i < D.length
  · obtain ⟨k, rfl⟩ := Int.eq_ofNat_of_zero_le h.1
    refine (proofGood_any D.length cap (proofT (D.length + 1) D k).length a k (digCells (proofT (D.length + 1) D k)) h.1 h.2 W (proof_any (D.length + 1) D k W _ (Nat.lt_succ_self _) (by omega) (by omega) hu)).mono ?_
    rintro e w' ⟨v, rfl, ho, hb⟩
    refine ⟨v, by rw [prfE, if_pos h], ?_, hb⟩
    rw [prfD, if_pos h]
    exact own_digs ho
  · refine (proofBad_any D.length cap a i (by omega) W).mono ?_
    rintro e w' ⟨v, rfl, ho, hb⟩
    refine ⟨v, by rw [prfE, if_neg h], ?_, hb⟩
    rw [prfD, if_neg h]
    exact own_digs (L := []) ho

set_option maxRecDepth 100000 in
set_option maxHeartbeats 1000000 in
theorem prove_of (L : List Rec) (v : Value) (i : Int) (w : World) (h : IsRecs w v L) (hf : ∀ x ∈ L, x.Fit) (hlen : L.length < 999)
    (K43 : ∀ r W, okR r = true → Calls Try.prog 43 #[rv r] W fun e w' => e = .returned (.agg #[.int .u64 (recD r).1, .int .u64 (recD r).2]) ∧ Below W.heap.size W w') :
    Calls Try.prog 17 #[.agg #[v], .int .i64 i] w fun e w' => ∃ u, e = .returned (.tuple #[u, .int .i64 (proveE L i)]) ∧ IsDigs w' u (proveM L i) ∧ Below w.heap.size w w' := by
  have h' := h
  obtain ⟨a, cap, rfl, _⟩ := h'
  have c0 := recs_box (w := w) (a := a) (n := L.length) (cap := cap) (T := 24)
  have hB0 : Below w.heap.size w (w.alloc (.cells #[.slice a L.length cap] 24)) := bla (Below.refl _ _) _
  have hz : w.heap.size < (w.alloc (.cells #[.slice a L.length cap] 24)).heap.size := by simp
  have KC := Lib.hid (fun W (hW : Below w.heap.size w W) => check_any L _ W (h.below hW (Nat.le_refl _)) hf _ rfl)
  by_cases hk : chkL L = 0
  · obtain ⟨hl, hok⟩ := chk_ok hk
    have KD := Lib.hid (fun W (hW : Below w.heap.size w W) => digests_of L _ W (h.below hW (Nat.le_refl _)) hok hl K43)
    have KP := Lib.hid (fun W u (hu : IsDigs W u (L.map recD)) => proofD_any (L.map recD) i u W hu (by rw [List.length_map]; omega))
    have hM : proveM L i = prfD (L.map recD) i := by unfold proveM; rw [if_pos hk]
    have hE : proveE L i = prfE (L.map recD) i := by unfold proveE; rw [if_pos hk]
    rw [hM, hE]
    rw [hk] at KC
    clear hok hl hM h hf hE
    go_enter Try.func17, Try.ntmps17
    go_wp2_with fail
    ((with_reducible refine (KC.out _ hB0).mono ?_); rintro e w1 ⟨rfl, b1⟩)
    have hB1 := bl hB0 b1
    have c1 := (b1.cell (p := ⟨w.heap.size, 0, none⟩) hz).trans c0
    clear c0
    go_wp2_with fail
    ((with_reducible refine (KD.out _ hB1).mono ?_); rintro e w2 ⟨u, rfl, hu, b2⟩)
    have hB2 := bl hB1 b2
    go_wp2_with fail
    ((with_reducible refine (KP.out _ _ hu).mono ?_); rintro e w3 ⟨u3, rfl, hu3, b3⟩)
    have hB3 := bl hB2 b3
    go_wp2
    go_ret2
    exact ⟨_, rfl, hu3, hB3⟩
  · have hM : proveM L i = [] := by unfold proveM; rw [if_neg hk]
    have hE : proveE L i = chkL L := by unfold proveE; rw [if_neg hk]
    have hb : (chkL L == 0) = false := by simpa using hk
    rw [hM, hE]
    clear h hf hM hE
    go_enter Try.func17, Try.ntmps17
    go_wp2_with fail
    ((with_reducible refine (KC.out _ hB0).mono ?_); rintro e w1 ⟨rfl, b1⟩)
    have hB1 := bl hB0 b1
    go_wp2
    go_ret2
    exact ⟨_, rfl, isDigs_nil _, hB1⟩
end Go.Proofs.Ytfheflihofafdaa
