/- slices.Contains at digests, at this translation. -/
import Derived.Test.YtiaahjoldahlnaaEnts
namespace Go.Proofs.Ytiaahjoldahlnaa
open Go.RowKit Go.Great
attribute [local go_sem] eq_arr

theorem dig_eq (p q : Dig) : (((p.1 : Nat) : Int) == (q.1 : Nat) && ((p.2 : Nat) : Int) == (q.2 : Nat)) = decide (p = q) := by
  obtain ⟨a, b⟩ := p; obtain ⟨c, d⟩ := q
  by_cases h : (a, b) = (c, d)
  · rw [decide_eq_true h]; simp at h; simp [h]
  · rw [decide_eq_false h]; simp at h ⊢; omega

set_option maxHeartbeats 2000000 in
theorem index_any (L : List Dig) (v : Value) (w : World) (h : IsDigs w v L) (p : Dig) :
    Calls Try.prog 85 #[v, dgv p] w fun e w' => (∃ r : Int, e = .returned (.int .i64 r) ∧ (0 ≤ r ↔ p ∈ L)) ∧ Below w.heap.size w w' := by
  obtain ⟨a, cap, rfl, hn, _, hc⟩ := h
  unfold maxLen at hn
  have HC := Lib.hid hc
  clear hc
  have hB := (Below.refl w.heap.size w).alloc (Nat.le_refl _) (.cells #[.int .u64 p.1, .int .u64 p.2] 25)
  have x0 : World.cell? (w.alloc (.cells #[.int .u64 p.1, .int .u64 p.2] 25)) ⟨w.heap.size, 0, none⟩ = some (.int .u64 p.1) := by simp [World.cell?_alloc_new]
  have x1 : World.cell? (w.alloc (.cells #[.int .u64 p.1, .int .u64 p.2] 25)) ⟨w.heap.size, 1, none⟩ = some (.int .u64 p.2) := by simp [World.cell?_alloc_new]
  have xl : w.heap.size < (w.alloc (.cells #[.int .u64 p.1, .int .u64 p.2] 25)).heap.size := by simp
  go_enter Try.func85, Try.ntmps85
  go_wp2
  generalize hW : w.alloc (.cells #[.int .u64 p.1, .int .u64 p.2] 25) = W at hB x0 x1 xl ⊢
  go_loopw [8] (fun s8 wr => ∃ j : Nat, j ≤ L.length ∧ s8 = .int .i64 j ∧ Hid (p ∉ L.take j) ∧ ∃ n, wr = W.drewN n) (fun i _ => L.length - (intOf i).toNat)
  case atStart => exact ⟨0, Nat.zero_le _, rfl, Lib.hid (by simp), 0, rfl⟩
  case round =>
    obtain ⟨j, hj, rfl, HJ, n, rfl⟩ := hrel
    by_cases hlt : j < L.length
    · obtain ⟨b1, o1, rfl, hb1, hcell⟩ := HC.out.resolve_left (by intro e; rw [e] at hlt; simp at hlt)
      have c0 := (hB.cell (p := ⟨b1, o1 + j * 2, none⟩) hb1).trans (hcell j hlt).1
      have c1 := (hB.cell (p := ⟨b1, o1 + j * 2 + 1, none⟩) hb1).trans (hcell j hlt).2
      have y0 : World.cell? (W.drewN n) ⟨w.heap.size, 0, none⟩ = some (.int .u64 p.1) := x0
      have y1 : World.cell? (W.drewN n) ⟨w.heap.size, 1, none⟩ = some (.int .u64 p.2) := x1
      have c0 : World.cell? (W.drewN n) ⟨b1, o1 + j * 2, none⟩ = some (.int .u64 L[j].1) := c0
      have c1 : World.cell? (W.drewN n) ⟨b1, o1 + j * 2 + 1, none⟩ = some (.int .u64 L[j].2) := c1
      have ht := Lib.hid (show L.take (j + 1) = L.take j ++ [L[j]] from by rw [List.take_succ_eq_append_getElem hlt])
      have hm := Lib.hid (List.getElem_mem hlt)
      obtain ⟨q, hq⟩ : ∃ q, L[j] = q := ⟨_, rfl⟩
      rw [hq] at ht hm
      clear hcell
      go_wp2_with fail
      go_quiet (fail)
      go_wp2
      · rename_i he
        have hpq : p = q := by
          obtain ⟨h1, h2⟩ := he
          simp only [beq_iff_eq, Int.ofNat_inj] at h1 h2
          exact Prod.ext h1 h2
        go_ret
        refine ⟨⟨_, rfl, ?_⟩, below_drewN (below_drewN hB _) _⟩
        rw [hpq]
        simp [hm.out]
      · rename_i he
        have hpq : ¬ p = q := by
          rintro rfl
          simp at he
        go_roundw
        case rel => exact ⟨j + 1, by omega, by go_num, Lib.hid (by rw [ht.out]; simp [HJ.out, hpq]), n + nq, rfl⟩
        case measure => simp [intOf]; omega
    · have HL := Lib.hid (show L.take j = L from List.take_of_length_le (by omega))
      go_wp2
      go_ret
      refine ⟨⟨_, rfl, ?_⟩, below_drewN hB _⟩
      have := HJ.out
      rw [HL.out] at this
      simp [this]

theorem isDigs_take {w : World} {a : Option Addr} {cap : Nat} {L : List Dig} (h : IsDigs w (.slice a L.length cap) L) (i : Nat) (hi : i ≤ L.length) : IsDigs w (.slice a i cap) (L.take i) := by
  obtain ⟨a', cap', e, h1, h2, h3⟩ := h
  obtain ⟨rfl, _, rfl⟩ : a = a' ∧ L.length = L.length ∧ cap = cap' := by simpa using e
  have hl : (L.take i).length = i := by rw [List.length_take]; omega
  refine ⟨a, cap, by rw [hl], by omega, by omega, ?_⟩
  rcases h3 with rfl | ⟨b, off, rfl, hb, hj⟩
  · exact .inl (by simp)
  · exact .inr ⟨b, off, rfl, hb, fun j h => by
      have := hj j (by omega)
      simpa using this⟩

theorem contains_any (L : List Dig) (v : Value) (w : World) (h : IsDigs w v L) (p : Dig) (c : Bool) (hc : decide (p ∈ L) = c) :
    Calls Try.prog 70 #[v, dgv p] w fun e w' => e = .returned (.bool c) ∧ Below w.heap.size w w' := by
  have hB := (Below.refl w.heap.size w).alloc (Nat.le_refl _) (.cells #[.int .u64 p.1, .int .u64 p.2] 25)
  have h' := h.below hB (Nat.le_refl _)
  have HC := Lib.hid hc
  clear hc
  obtain ⟨a, cap, rfl, hn, _, _⟩ := h
  go_enter Try.func70, Try.ntmps70
  go_wp2_with fail
  ((with_reducible refine (index_any L _ _ h' p).mono ?_); rintro e w1 ⟨⟨r, rfl, hr⟩, hb1⟩)
  have HR := Lib.hid hr
  clear hr
  go_wp2
  go_ret
  refine ⟨?_, hB.trans (hb1.mono hB.size)⟩
  rw [← HC.out]
  have := HR.out
  by_cases h0 : 0 ≤ r
  · simp [h0, this.1 h0]
  · have hn : ¬ p ∈ L := fun hm => h0 (this.2 hm)
    simp [h0, hn]
end Go.Proofs.Ytiaahjoldahlnaa
