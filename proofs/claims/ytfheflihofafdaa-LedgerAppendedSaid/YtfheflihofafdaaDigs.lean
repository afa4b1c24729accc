/- The digests of the records of a ledger, over the digest of one, at this translation. -/
import Derived.Test.YtfheflihofafdaaRefDigs
namespace Go.Proofs.Ytfheflihofafdaa
open Go.RowKit Go.Great Pt Tr

set_option maxRecDepth 100000 in
set_option maxHeartbeats 4000000 in
theorem digests_of (L : List Rec) (v : Value) (w : World) (h : IsRecs w v L) (hok : ∀ x ∈ L, okR x = true) (hlen : L.length ≤ 10000)
    (K43 : ∀ r W, okR r = true → Calls Try.prog 43 #[rv r] W fun e w' => e = .returned (.agg #[.int .u64 (recD r).1, .int .u64 (recD r).2]) ∧ Below W.heap.size W w') :
    Calls Try.prog 35 #[.agg #[v]] w fun e w' => ∃ u, e = .returned u ∧ IsDigs w' u (L.map recD) ∧ Below w.heap.size w w' := by
  obtain ⟨a, cap, rfl, hn, _, hc⟩ := h
  have HC := Lib.hid hc
  have HF := Lib.hid hok
  have H43 := Lib.hid K43
  clear hc hok K43
  unfold maxLen at hn
  obtain ⟨i0, hi, hz0, hz1, hz2⟩ := info_parts info24
  have c0 : (w.alloc (.cells #[.slice a L.length cap] 24)).cell? ⟨w.heap.size, 0, none⟩ = some (.slice a L.length cap) := by simp [World.cell?_alloc_new]
  have hB0 : Below w.heap.size w (w.alloc (.cells #[.slice a L.length cap] 24)) := bla (Below.refl _ _) _
  have hz : (w.alloc (.cells #[.slice a L.length cap] 24)).heap.size = w.heap.size + 1 := by simp
  go_enter Try.func35, Try.ntmps35
  go_wp2
  go_loopw [3, 9] (fun s3 s4 wr => ∃ j : Nat, j ≤ L.length ∧ s4 = .int .i64 j ∧ Hid (wr.ownsRow (w.heap.size + 1) 40 2 s3 j (digCells ((L.take j).map recD))) ∧ Below (w.heap.size + 1) (w.alloc (.cells #[.slice a L.length cap] 24)) wr) (fun _ i _ => L.length - (intOf i).toNat)
  case atStart => exact ⟨0, Nat.zero_le _, rfl, Lib.hid (World.ownsRow_nil _ _ _ _), Below.refl _ _⟩
  case round =>
    obtain ⟨j, hj, rfl, ho, hBr⟩ := hrel
    have hsz := hBr.size
    rw [hz] at hsz
    have hbox : wr.cell? ⟨w.heap.size, 0, none⟩ = some (.slice a L.length cap) := (hBr.cell (p := ⟨w.heap.size, 0, none⟩) (by simp)).trans c0
    by_cases hlt : j < L.length
    · obtain ⟨b1, o1, rfl, hb1, hcell⟩ := HC.out.resolve_left (by intro e; rw [e] at hlt; simp at hlt)
      obtain ⟨p0, p1, p2, p3⟩ := ((hcell j hlt).below hB0 hb1).below hBr (show b1 < w.heap.size + 1 by omega)
      have HX := Lib.hid (HF.out _ (List.getElem_mem hlt))
      have ET := Lib.hid (digCells_take L j hlt)
      obtain ⟨x, hx0⟩ : ∃ x, L[j] = x := ⟨_, rfl⟩
      rw [hx0] at p0 p1 p2 p3 HX ET
      obtain ⟨t, n1, n2, n3⟩ := x
      simp only at p0 p1 p2 p3
      clear hx0 hcell c0
      go_wp2_with fail
      ((with_reducible refine (H43.out ⟨t, n1, n2, n3⟩ _ HX.out).mono ?_); rintro e w4 ⟨rfl, hb4⟩)
      have sza : w.heap.size + 1 ≤ (wr.alloc (rc ⟨t, n1, n2, n3⟩)).heap.size := by simp; omega
      have B4 := (hBr.alloc hsz (rc ⟨t, n1, n2, n3⟩)).trans (hb4.mono sza)
      have OW4 := Lib.hid (own_kept (ho.out.alloc (rc ⟨t, n1, n2, n3⟩)) hb4)
      have sz4 : w.heap.size + 1 ≤ w4.heap.size := Nat.le_trans sza hb4.size
      obtain ⟨d0, hd0⟩ : ∃ d, (recD ⟨t, n1, n2, n3⟩).1 = d := ⟨_, rfl⟩
      obtain ⟨d1, hd1⟩ : ∃ d, (recD ⟨t, n1, n2, n3⟩).2 = d := ⟨_, rfl⟩
      rw [hd0, hd1] at ET
      rw [hd0, hd1]
      clear p0 p1 p2 p3 ho hd0 hd1 hb4 hbox
      go_wp2_with (at_builtin; refine wpList_append_own _ rfl _ _ 35 rfl (w.heap.size + 1) 40 i0 (.agg #[.int .u64 0, .int .u64 0]) 2 16 Try.underlying35 hi hz0 hz1 hz2 rfl (by decide) _ j (digCells ((L.take j).map recD)) rfl (OW4.out.alloc _) ⟨w4.heap.size, 0, none⟩ 1 1 [.int .u64 d0, .int .u64 d1] rfl rfl (two_cells w4 d0 d1 _) (by intro u hu; simp at hu; rcases hu with rfl | rfl <;> rfl) (by unfold maxLen; omega) (by omega) (by simp; omega) ?_)
      intro v' w5 hown hgrow _
      have BG := (B4.alloc sz4 (.cells #[.int .u64 d0, .int .u64 d1] 40)).trans ((Below.refl (w.heap.size + 1) (w4.alloc (.cells #[.int .u64 d0, .int .u64 d1] 40))).grown hgrow (by simp; omega) (fun k e => (OW4.out.lt k e).1))
      have OW := Lib.hid hown
      clear hown hgrow
      go_wp2
      go_roundw
      case rel => exact ⟨j + 1, by omega, by go_num, Lib.hid (by rw [ET.out, List.map_take]; exact OW.out), BG⟩
      case measure => simp [intOf]; omega
    · obtain rfl : j = L.length := by omega
      have OW := Lib.hid (own_digs (L := L.map recD) (by have := ho.out; rw [List.take_length] at this; rw [List.length_map]; exact this))
      have hB := hB0.trans (hBr.mono (by omega))
      clear ho c0
      go_wp2
      go_ret
      exact ⟨_, rfl, OW.out, hB⟩
end Go.Proofs.Ytfheflihofafdaa
