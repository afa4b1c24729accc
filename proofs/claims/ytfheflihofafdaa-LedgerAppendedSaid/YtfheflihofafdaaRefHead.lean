/- The reference's Head and Prove, at this translation. -/
import Derived.Test.YtfheflihofafdaaRefDigs
import Derived.Test.YtfheflihofafdaaRefCheck
namespace Go.Proofs.Ytfheflihofafdaa
open Go.RowKit Go.Great Pt Tr

theorem chk_ok {L : List Rec} (h : chkL L = 0) : L.length ≤ 10000 ∧ ∀ x ∈ L, okR x = true := by
  unfold chkL at h
  split at h
  · simp at h
  · rename_i h1
    refine ⟨by omega, ?_⟩
    have key : ∀ (L : List Rec) (t : Int), chkFrom t L = 0 → ∀ x ∈ L, okR x = true := by
      intro L
      induction L with
      | nil => intro t _ x hx; cases hx
      | cons y l ih =>
        intro t h x hx
        simp only [chkFrom] at h
        cases hy : okR y with
        | false => rw [hy] at h; simp at h
        | true =>
          rw [hy] at h
          simp only [Bool.true_eq_false, if_false] at h
          split at h
          · simp at h
          · rcases List.mem_cons.1 hx with rfl | hx
            · exact hy
            · exact ih _ h x hx
    exact key L 0 h
/-- The root of a ledger's tree. -/
def rootL (L : List Rec) : Dig := rootT ((L.map recD).length + 1) (L.map recD)
def headM (L : List Rec) : Dig := if chkL L = 0 then rootL L else (0, 0)
theorem recs_box {w : World} {a : Option Addr} {n cap : Nat} {T : TypeId} : (w.alloc (.cells #[.slice a n cap] T)).cell? ⟨w.heap.size, 0, none⟩ = some (.slice a n cap) := by simp [World.cell?_alloc_new]

set_option maxRecDepth 100000 in
set_option maxHeartbeats 1000000 in
theorem refHead_any (L : List Rec) (v : Value) (w : World) (h : IsRecs w v L) (hf : ∀ x ∈ L, x.Fit) :
    Calls Try.prog 22 #[.agg #[v]] w fun e w' => e = .returned (headM L).v ∧ Below w.heap.size w w' := by
  have h' := h
  obtain ⟨a, cap, rfl, _⟩ := h'
  have c0 := recs_box (w := w) (a := a) (n := L.length) (cap := cap) (T := 24)
  have c0 := (((Below.refl (w.heap.size + 1) (w.alloc (.cells #[.slice a L.length cap] 24))).alloc (by simp) (.cells #[.int .u64 0, .int .u64 0] 40)).cell (p := ⟨w.heap.size, 0, none⟩) (by simp)).trans c0
  have r0 := Two.fresh (w.alloc (.cells #[.slice a L.length cap] 24)) 0 0 40
  rw [World.size_alloc] at r0
  have hB0 : Below w.heap.size w ((w.alloc (.cells #[.slice a L.length cap] 24)).alloc (.cells #[.int .u64 0, .int .u64 0] 40)) := bla (bla (Below.refl _ _) _) _
  have hz : w.heap.size < ((w.alloc (.cells #[.slice a L.length cap] 24)).alloc (.cells #[.int .u64 0, .int .u64 0] 40)).heap.size := by simp; omega
  have hz1 : w.heap.size + 1 < ((w.alloc (.cells #[.slice a L.length cap] 24)).alloc (.cells #[.int .u64 0, .int .u64 0] 40)).heap.size := by simp
  have KC := Lib.hid (fun W (hW : Below w.heap.size w W) => refCheck_any L _ W (h.below hW (Nat.le_refl _)) hf _ rfl)
  by_cases hk : chkL L = 0
  · obtain ⟨hl, hok⟩ := chk_ok hk
    have KD := Lib.hid (fun W (hW : Below w.heap.size w W) => refDigests_any L _ W (h.below hW (Nat.le_refl _)) hok hl)
    have hM : headM L = rootL L := by unfold headM; rw [if_pos hk]
    have KR := Lib.hid (fun W u (hu : IsDigs W u (L.map recD)) => refRoot_any ((L.map recD).length + 1) (L.map recD) W u (Nat.lt_succ_self _) (by rw [List.length_map]; omega) hu)
    rw [hM]
    rw [hk] at KC
    clear hok hl hM h hf
    go_enter Try.func22, Try.ntmps22
    go_wp2_with fail
    ((with_reducible refine (KC.out _ hB0).mono ?_); rintro e w1 ⟨rfl, b1⟩)
    have hB1 := bl hB0 b1
    have c1 := (b1.cell (p := ⟨w.heap.size, 0, none⟩) hz).trans c0
    have r1 := r0.below b1 hz1
    have z1 := Nat.lt_of_lt_of_le hz1 b1.size
    clear c0 r0
    go_wp2_with fail
    ((with_reducible refine (KD.out _ hB1).mono ?_); rintro e w2 ⟨u, rfl, hu, b2⟩)
    have hB2 := bl hB1 b2
    have r2 := r1.below b2 z1
    have z2 := Nat.lt_of_lt_of_le z1 b2.size
    go_wp2_with fail
    ((with_reducible refine (KR.out _ _ hu).mono ?_); rintro e w3 ⟨rfl, b3⟩)
    have hB3 := bl hB2 b3
    have hQ := r2.below b3 z2
    obtain ⟨q0, q1, q2, q3⟩ := hQ
    have hQ : Two w3 (w.heap.size + 1) 0 0 := ⟨q0, q1, q2, q3⟩
    have hv : (rootL L).v = .agg #[.int .u64 ((rootL L).1 : Nat), .int .u64 ((rootL L).2 : Nat)] := rfl
    obtain ⟨x, hx⟩ : ∃ x : Nat, (rootL L).1 = x := ⟨_, rfl⟩
    obtain ⟨y, hy⟩ : ∃ y : Nat, (rootL L).2 = y := ⟨_, rfl⟩
    rw [hx, hy] at hv
    have HV := Lib.hid hv
    rw [show rootT ((L.map recD).length + 1) (L.map recD) = rootL L from rfl, hv]
    clear KR KD KC hx hy hv r2 r1
    go_wp2
    refine bodyPost_ret (v := .agg #[.int .u64 x, .int .u64 y]) ?_ rfl ⟨congrArg Ending.returned HV.out.symm, ?_⟩
    · obtain ⟨s0, s1, _, _⟩ := (hQ.set0 x).set1 y
      simp [results, Try.results22, go_sem, s0, s1]
    · exact (hB3.setCell (p := ⟨w.heap.size + 1, 0, none⟩) (by simp) _).setCell (p := ⟨w.heap.size + 1, 1, none⟩) (by simp) _
  · have hM : headM L = (0, 0) := by unfold headM; rw [if_neg hk]
    have hb : (chkL L == 0) = false := by simpa using hk
    rw [hM]
    clear h hf
    go_enter Try.func22, Try.ntmps22
    go_wp2_with fail
    ((with_reducible refine (KC.out _ hB0).mono ?_); rintro e w1 ⟨rfl, b1⟩)
    have hB1 := bl hB0 b1
    obtain ⟨q0, q1, q2, q3⟩ := r0.below b1 hz1
    have hQ : Two w1 (w.heap.size + 1) 0 0 := ⟨q0, q1, q2, q3⟩
    go_wp2
    refine bodyPost_ret (v := .agg #[.int .u64 0, .int .u64 0]) ?_ rfl ⟨rfl, ?_⟩
    · obtain ⟨s0, s1, _, _⟩ := (hQ.set0 0).set1 0
      simp [results, Try.results22, go_sem, s0, s1]
    · exact (hB1.setCell (p := ⟨w.heap.size + 1, 0, none⟩) (by simp) _).setCell (p := ⟨w.heap.size + 1, 1, none⟩) (by simp) _
end Go.Proofs.Ytfheflihofafdaa
