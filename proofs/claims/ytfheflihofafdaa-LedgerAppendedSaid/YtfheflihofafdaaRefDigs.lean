/- The digests of the records of a ledger, of the reference, at this translation. -/
import Derived.Test.YtfheflihofafdaaText
import Derived.Test.YtfheflihofafdaaTrAll
namespace Go.Proofs.Ytfheflihofafdaa
open Go.RowKit Go.Great Pt Tr

/-- The digest of a record. -/
def recD (r : Rec) : Dig := ofD (recS r).data.toList
theorem refOfD_any (s : BA) (hs : s.size ≤ maxLen) (w : World) : Calls Try.prog 29 #[.string s] w fun e w' => e = .returned (.agg #[.int .u64 (ofD s.data.toList).1, .int .u64 (ofD s.data.toList).2]) ∧ Below w.heap.size w w' := by
  refine (refOf_any s w hs).mono ?_
  rintro e w' ⟨rfl, hb⟩
  exact ⟨by rw [ofD_v]; rfl, hb⟩
theorem two_cells (W : World) (x y : Nat) (t : TypeId) : ∀ j u, [Value.int .u64 x, .int .u64 y][j]? = some u → (W.alloc (.cells #[.int .u64 x, .int .u64 y] t)).cell? ((⟨W.heap.size, 0, none⟩ : Addr).add j) = some u := by
  intro j u h
  match j, h with
  | 0, h => simpa [Addr.add, World.cell?_alloc_new] using h
  | 1, h => simpa [Addr.add, World.cell?_alloc_new] using h
  | j + 2, h => simp at h
theorem digCells_take (L : List Rec) (j : Nat) (h : j < L.length) : digCells ((L.take (j + 1)).map recD) = digCells ((L.take j).map recD) ++ [.int .u64 (recD L[j]).1, .int .u64 (recD L[j]).2] := by
  rw [List.take_succ_eq_append_getElem h, List.map_append]
  exact digCells_snoc _ _

set_option maxRecDepth 100000 in
set_option maxHeartbeats 4000000 in
theorem refDigests_any (L : List Rec) (v : Value) (w : World) (h : IsRecs w v L) (hok : ∀ x ∈ L, okR x = true) (hlen : L.length ≤ 10000) :
    Calls Try.prog 37 #[.agg #[v]] w fun e w' => ∃ u, e = .returned u ∧ IsDigs w' u (L.map recD) ∧ Below w.heap.size w w' := by
  obtain ⟨a, cap, rfl, hn, _, hc⟩ := h
  have HC := Lib.hid hc
  have HF := Lib.hid hok
  clear hc hok
  unfold maxLen at hn
  obtain ⟨i0, hi, hz0, hz1, hz2⟩ := info_parts info24
  have c0 : (w.alloc (.cells #[.slice a L.length cap] 24)).cell? ⟨w.heap.size, 0, none⟩ = some (.slice a L.length cap) := by simp [World.cell?_alloc_new]
  have hB0 : Below w.heap.size w (w.alloc (.cells #[.slice a L.length cap] 24)) := bla (Below.refl _ _) _
  have hz : (w.alloc (.cells #[.slice a L.length cap] 24)).heap.size = w.heap.size + 1 := by simp
  go_enter Try.func37, Try.ntmps37
  go_wp2
  go_loopw [3, 4] (fun s3 s4 wr => ∃ j : Nat, j ≤ L.length ∧ s4 = .int .i64 j ∧ Hid (wr.ownsRow (w.heap.size + 1) 40 2 s3 j (digCells ((L.take j).map recD))) ∧ Below (w.heap.size + 1) (w.alloc (.cells #[.slice a L.length cap] 24)) wr) (fun _ i _ => L.length - (intOf i).toNat)
  case atStart => exact ⟨0, Nat.zero_le _, rfl, Lib.hid (World.ownsRow_nil _ _ _ _), Below.refl _ _⟩
  case round =>
    obtain ⟨j, hj, rfl, ho, hBr⟩ := hrel
    have hsz := hBr.size
    rw [hz] at hsz
    have hbox : wr.cell? ⟨w.heap.size, 0, none⟩ = some (.slice a L.length cap) := (hBr.cell (p := ⟨w.heap.size, 0, none⟩) (by simp)).trans c0
    by_cases hlt : j < L.length
    · obtain ⟨b1, o1, rfl, hb1, hcell⟩ := HC.out.resolve_left (by intro e; rw [e] at hlt; simp at hlt)
      obtain ⟨p0, p1, p2, p3⟩ := ((hcell j hlt).below hB0 hb1).below hBr (show b1 < w.heap.size + 1 by omega)
      have HX := Lib.hid (HF.out _ (List.getElem_mem hlt))
      have ET := Lib.hid (digCells_take L j hlt)
      obtain ⟨x, hx0⟩ : ∃ x, L[j] = x := ⟨_, rfl⟩
      rw [hx0] at p0 p1 p2 p3 HX ET
      obtain ⟨t, n1, n2, n3⟩ := x
      simp only at p0 p1 p2 p3
      clear hx0 hcell c0
      have hle := recS_le HX.out
      go_wp2_with fail
      ((with_reducible refine (refText_any ⟨t, n1, n2, n3⟩ _ HX.out).mono ?_); rintro e w3 ⟨rfl, hb3⟩)
      go_wp2_with fail
      ((with_reducible refine (refOfD_any _ (by unfold maxLen; omega) _).mono ?_); rintro e w4 ⟨rfl, hb4⟩)
      have OW4 := Lib.hid (own_kept (own_kept ho.out hb3) hb4)
      have B4 := (hBr.trans (hb3.mono hsz)).trans (hb4.mono (Nat.le_trans hsz hb3.size))
      have sz4 : w.heap.size + 1 ≤ w4.heap.size := Nat.le_trans hsz (Nat.le_trans hb3.size hb4.size)
      obtain ⟨d0, hd0⟩ : ∃ d, (ofD (recS ⟨t, n1, n2, n3⟩).data.toList).1 = d := ⟨_, rfl⟩
      obtain ⟨d1, hd1⟩ : ∃ d, (ofD (recS ⟨t, n1, n2, n3⟩).data.toList).2 = d := ⟨_, rfl⟩
      rw [show (recD ⟨t, n1, n2, n3⟩).1 = d0 from hd0, show (recD ⟨t, n1, n2, n3⟩).2 = d1 from hd1] at ET
      rw [hd0, hd1]
      clear p0 p1 p2 p3 ho hd0 hd1 hb3 hb4 hbox hle
      go_wp2_with (at_builtin; refine wpList_append_own _ rfl _ _ 35 rfl (w.heap.size + 1) 40 i0 (.agg #[.int .u64 0, .int .u64 0]) 2 16 Try.underlying35 hi hz0 hz1 hz2 rfl (by decide) _ j (digCells ((L.take j).map recD)) rfl (OW4.out.alloc _) ⟨w4.heap.size, 0, none⟩ 1 1 [.int .u64 d0, .int .u64 d1] rfl rfl (two_cells w4 d0 d1 _) (by intro u hu; simp at hu; rcases hu with rfl | rfl <;> rfl) (by unfold maxLen; omega) (by omega) (by simp; omega) ?_)
      intro v' w5 hown hgrow _
      have BG := (B4.alloc sz4 (.cells #[.int .u64 d0, .int .u64 d1] 40)).trans ((Below.refl (w.heap.size + 1) (w4.alloc (.cells #[.int .u64 d0, .int .u64 d1] 40))).grown hgrow (by simp; omega) (fun k e => (OW4.out.lt k e).1))
      have OW := Lib.hid hown
      clear hown hgrow
      go_wp2
      go_roundw
      case rel => exact ⟨j + 1, by omega, by go_num, Lib.hid (by rw [ET.out, List.map_take]; exact OW.out), BG⟩
      case measure => simp [intOf]; omega
    · obtain rfl : j = L.length := by omega
      have OW := Lib.hid (own_digs (L := L.map recD) (by have := ho.out; rw [List.take_length] at this; rw [List.length_map]; exact this))
      have hB := hB0.trans (hBr.mono (by omega))
      clear ho c0
      go_wp2
      go_ret
      exact ⟨_, rfl, OW.out, hB⟩
end Go.Proofs.Ytfheflihofafdaa
