/- Slices of digests in memory; the reference's SameDigests, Bounds and Manifest, at this translation. -/
import Derived.Test.YtcdnhnbigincpaaDigest
import Derived.Test.YtcdnhnbigincpaaRef3
import Derived.Test.YtcdnhnbigincpaaMeet
namespace Go.Proofs.Ytcdnhnbigincpaa
open Go.RowKit
attribute [local go_sem] eq_arr

abbrev digV (d : Int × Int) : Value := .agg #[.int .u64 d.1, .int .u64 d.2]
def digOf (x : ByteArray) : Int × Int := (of0 x.data.toList, of1 x.data.toList)
def rowD (L : List (Int × Int)) : List Value := L.flatMap fun d => [.int .u64 d.1, .int .u64 d.2]
theorem rowD_append (L R : List (Int × Int)) : rowD (L ++ R) = rowD L ++ rowD R := by simp [rowD]
theorem rowD_length (L : List (Int × Int)) : (rowD L).length = L.length * 2 := by
  induction L with
  | nil => rfl
  | cons e L ih => simp only [rowD, List.flatMap_cons, List.length_append, List.length_cons, List.length_nil] at ih ⊢; omega
theorem rowD_at (L : List (Int × Int)) (j : Nat) (h : j < L.length) : (rowD L)[j * 2]? = some (.int .u64 L[j].1) ∧ (rowD L)[j * 2 + 1]? = some (.int .u64 L[j].2) := by
  induction L generalizing j with
  | nil => simp at h
  | cons e L ih =>
    cases j with
    | zero => simp [rowD]
    | succ j =>
      have := ih j (by simpa using h)
      simp only [rowD, List.flatMap_cons] at this ⊢
      rw [show (j + 1) * 2 = j * 2 + 1 + 1 by omega]
      simpa using this

/-- A slice whose cells are these digests. -/
def IsDigs (w : World) (v : Value) (L : List (Int × Int)) : Prop :=
  ∃ a cap, v = .slice a L.length cap ∧ L.length ≤ maxLen ∧ L.length ≤ cap ∧ (L = [] ∨ ∃ b off, a = some ⟨b, off, none⟩ ∧ b < w.heap.size ∧ ∀ j (h : j < L.length), w.cell? ⟨b, off + j * 2, none⟩ = some (.int .u64 L[j].1) ∧ w.cell? ⟨b, off + j * 2 + 1, none⟩ = some (.int .u64 L[j].2))
theorem IsDigs.below {w w' : World} {v : Value} {L : List (Int × Int)} {B : Nat} (h : IsDigs w v L) (hB : Below B w w') (hz : w.heap.size ≤ B) : IsDigs w' v L := by
  obtain ⟨a, cap, e, h1, h2, h3⟩ := h
  refine ⟨a, cap, e, h1, h2, h3.imp id ?_⟩
  rintro ⟨b, off, e2, hb, hj⟩
  have c : ∀ o, w'.cell? ⟨b, o, none⟩ = w.cell? ⟨b, o, none⟩ := fun o => hB.cell (p := ⟨b, o, none⟩) (show b < B by omega)
  exact ⟨b, off, e2, Nat.lt_of_lt_of_le hb hB.size, fun j h => ⟨(c _).trans (hj j h).1, (c _).trans (hj j h).2⟩⟩
theorem digs_none (W : World) (a : Option Addr) (cap : Nat) : IsDigs W (.slice a 0 cap) [] := ⟨a, cap, rfl, Nat.zero_le _, Nat.zero_le _, .inl rfl⟩
theorem own_digs {w : World} {B m : Nat} {v : Value} {L : List (Int × Int)} (h : w.ownsRow B 57 2 v m (rowD L)) (hm : L.length = m) (hl : m ≤ maxLen) : IsDigs w v L := by
  subst hm
  have h0 := h
  obtain ⟨_, ⟨rfl, e⟩ | ⟨g, cap, cur, rfl, hb, hcur, hn, hcap, hsz, _⟩⟩ := h
  · rw [List.length_eq_zero_iff.1 e]; exact digs_none w _ _
  · refine ⟨_, cap, rfl, hl, hn, .inr ⟨g, 0, rfl, (Array.getElem?_eq_some_iff.1 hcur).1, fun j hj => ?_⟩⟩
    have c0 := h0.cellAt (j * 2) (by omega)
    have c1 := h0.cellAt (j * 2 + 1) (by omega)
    rw [Nat.zero_add, c0, c1]
    exact rowD_at L j hj
theorem two_dig (W : World) (d : Int × Int) (t : TypeId) : ∀ j u, [Value.int .u64 d.1, .int .u64 d.2][j]? = some u → (W.alloc (.cells #[.int .u64 d.1, .int .u64 d.2] t)).cell? ((⟨W.heap.size, 0, none⟩ : Addr).add j) = some u := by
  intro j u h
  match j, h with
  | 0, h => simpa [Addr.add, World.cell?_alloc_new] using h
  | 1, h => simpa [Addr.add, World.cell?_alloc_new] using h
  | j + 2, h => simp at h
theorem dig_one (d : Int × Int) : ∀ u ∈ [Value.int .u64 d.1, .int .u64 d.2], u.oneCell' = true := by
  intro u hu
  simp at hu
  rcases hu with rfl | rfl <;> rfl
theorem info57 : (Try.prog.info? 57).map (fun i => (i.zero, i.size, i.bytes)) = some (some (.agg #[.int .u64 0, .int .u64 0]), 2, 16) := by kernel_rfl
theorem own_moveD {w w' : World} {B m s : Nat} {e : TypeId} {v : Value} {xs : List Value} (h : w.ownsRow B e s v m xs) (hk : ∀ k, B ≤ k → k < w.heap.size → w'.heap[k]? = w.heap[k]?) : w'.ownsRow B e s v m xs := by
  refine ⟨h.1, h.2.imp id ?_⟩
  rintro ⟨g, cap, cur, e, hg, hh, h3⟩
  exact ⟨g, cap, cur, e, hg, (hk g hg (Array.getElem?_eq_some_iff.1 hh).1).trans hh, h3⟩

set_option maxHeartbeats 2000000 in
theorem sameD_any (L : List (Int × Int)) (v1 v2 : Value) (w : World) (h1 : IsDigs w v1 L) (h2 : IsDigs w v2 L) :
    Calls Try.prog 20 #[v1, v2] w fun e w' => e = .returned (.bool true) ∧ Below w.heap.size w w' := by
  obtain ⟨a, cap, rfl, hn, _, hc⟩ := h1
  obtain ⟨b, cap2, rfl, _, _, hc2⟩ := h2
  unfold maxLen at hn
  have HC := Lib.hid hc
  have HC2 := Lib.hid hc2
  clear hc hc2
  go_enter Try.func20, Try.ntmps20
  go_wp2
  go_loopw [5] (fun s5 wr => ∃ j : Nat, j ≤ L.length ∧ s5 = .int .i64 j ∧ Below w.heap.size w wr) (fun i _ => L.length - (intOf i).toNat)
  case atStart => exact ⟨0, Nat.zero_le _, rfl, Below.refl _ _⟩
  case round =>
    obtain ⟨j, hj, rfl, hBr⟩ := hrel
    by_cases hlt : j < L.length
    · obtain ⟨b1, o1, rfl, hb1, hcell⟩ := HC.out.resolve_left (by intro e; rw [e] at hlt; simp at hlt)
      obtain ⟨b2, o2, rfl, hb2, hcell2⟩ := HC2.out.resolve_left (by intro e; rw [e] at hlt; simp at hlt)
      have p0 := (hBr.cell (p := ⟨b1, o1 + j * 2, none⟩) hb1).trans (hcell j hlt).1
      have p1 := (hBr.cell (p := ⟨b1, o1 + j * 2 + 1, none⟩) hb1).trans (hcell j hlt).2
      have p2 := (hBr.cell (p := ⟨b2, o2 + j * 2, none⟩) hb2).trans (hcell2 j hlt).1
      have p3 := (hBr.cell (p := ⟨b2, o2 + j * 2 + 1, none⟩) hb2).trans (hcell2 j hlt).2
      generalize L[j] = x at p0 p1 p2 p3
      clear hcell hcell2
      go_wp2
      go_quiet (fail)
      go_wp2
      go_roundw
      case rel => exact ⟨j + 1, by omega, by go_num, below_drewN hBr nq⟩
      case measure => simp [intOf]; omega
    · go_wp2
      go_ret
      exact ⟨rfl, hBr⟩
end Go.Proofs.Ytcdnhnbigincpaa
