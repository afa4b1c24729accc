/- The reference's Proof and Same, at this translation. -/
import Derived.Test.YtamhokedekhocaaTree2
namespace Go.Proofs.Ytamhokedekhocaa
open Go.RowKit
attribute [local go_sem] eq_arr

set_option maxHeartbeats 400000 in
theorem refProofBad_any (len cap : Nat) (a : Option Addr) (i : Int) (h : i < 0 ∨ (len : Int) ≤ i) (w : World) :
    Calls Try.prog 22 #[.slice a len cap, .int .i64 i] w fun e w' => ∃ v, e = .returned (.tuple #[v, .int .i64 2]) ∧ w'.ownsRow w.heap.size 24 2 v 0 [] ∧ Below w.heap.size w w' := by
  have hm := World.ownsRow_made (base := w.heap.size) (e := 24) (size := 2) w #[] 0 (Nat.le_refl _) (Nat.zero_le _) rfl
  have HM := Lib.hid hm
  clear hm
  by_cases h1 : i < 0
  · clear h
    go_enter Try.func22, Try.ntmps22
    go_wp2
    go_ret2
    exact ⟨_, rfl, HM.out, bla (Below.refl _ _) _⟩
  · have h2 : (len : Int) ≤ i := by omega
    clear h
    go_enter Try.func22, Try.ntmps22
    go_wp2
    go_ret2
    exact ⟨_, rfl, HM.out, bla (Below.refl _ _) _⟩
set_option maxHeartbeats 400000 in
theorem refProof_one (cap : Nat) (a : Option Addr) (w : World) :
    Calls Try.prog 22 #[.slice a 1 cap, .int .i64 0] w fun e w' => ∃ v, e = .returned (.tuple #[v, .int .i64 0]) ∧ w'.ownsRow w.heap.size 24 2 v 0 [] ∧ Below w.heap.size w w' := by
  have hm := World.ownsRow_made (base := w.heap.size) (e := 24) (size := 2) w #[] 0 (Nat.le_refl _) (Nat.zero_le _) rfl
  have HM := Lib.hid hm
  clear hm
  go_enter Try.func22, Try.ntmps22
  go_wp2
  go_ret2
  exact ⟨_, rfl, HM.out, bla (Below.refl _ _) _⟩

set_option maxHeartbeats 1000000 in
theorem refProof_less (len k cap b off m : Nat) (i y0 y1 : Int) (xs : List Value) (hk : leftN len = k) (hk1 : k < len) (hl : 2 ≤ len) (hl2 : len ≤ 1099511627776) (hm : m ≤ 1000) (hc1 : len ≤ cap) (hi0 : 0 ≤ i) (hi2 : i < (k : Int)) (w : World)
    (h1 : ∀ W, Below w.heap.size w W → Calls Try.prog 22 #[.slice (some ⟨b, off, none⟩) k cap, .int .i64 i] W fun e w' => ∃ v, e = .returned (.tuple #[v, .int .i64 0]) ∧ w'.ownsRow W.heap.size 24 2 v m xs ∧ Below W.heap.size W w')
    (h2 : ∀ W, Below w.heap.size w W → Calls Try.prog 24 #[.slice (some ⟨b, off + k * 2, none⟩) (len - k) (cap - k)] W fun e w' => e = .returned (.agg #[.int .u64 y0, .int .u64 y1]) ∧ Below W.heap.size W w') :
    Calls Try.prog 22 #[.slice (some ⟨b, off, none⟩) len cap, .int .i64 i] w fun e w' => ∃ v, e = .returned (.tuple #[v, .int .i64 0]) ∧ w'.ownsRow w.heap.size 24 2 v (m + 1) (xs ++ [.int .u64 y0, .int .u64 y1]) ∧ Below w.heap.size w w' := by
  obtain ⟨i0, hi, hz0, hz1, hz2⟩ := info_parts info24
  have H1 := Lib.hid h1
  have H2 := Lib.hid h2
  have HK := Lib.hid hk
  clear h1 h2 hk
  have t0 : ¬ i < 0 := by omega
  have ta : ¬ (len : Int) ≤ i := by omega
  have t1 : ((len : Int) == 1) = false := by simp; omega
  have t2 : (0 : Int) ≤ (k : Int) := by omega
  have t3 : (k : Int) ≤ (len : Int) := by omega
  have t4 : (k : Int) ≤ (cap : Int) := by omega
  have w1 : IntKind.i64.wrap (i - (k : Int)) = i - (k : Int) := by rw [IntKind.wrap_i64]; omega
  have t6 : i < (k : Int) := by omega
  have tk : ¬ cap = k := by omega
  have t5 : (len : Int) ≤ (cap : Int) := by omega
  go_enter Try.func22, Try.ntmps22
  go_wp2_with (go_at_call 43; refine (left_any len hl hl2 _).mono ?_; rintro e w' ⟨rfl, rfl⟩; rw [HK.out])
  refine (H1.out _ (Below.refl _ _)).mono ?_
  rintro e w1 ⟨v, rfl, hown, hb1⟩
  have HO := Lib.hid hown
  clear hown
  go_wp2_with fail
  refine (H2.out _ hb1).mono ?_
  rintro e w2 ⟨rfl, hb2⟩
  have hown1 := own_kept HO.out hb2
  have hh := bl hb1 hb2
  clear HO hb1 hb2
  go_wp2_with (at_builtin; refine wpList_append_lies _ rfl _ _ 35 rfl w.heap.size 24 i0 (.agg #[.int .u64 0, .int .u64 0]) 2 16 Try.underlying35 hi hz0 hz1 hz2 rfl (by decide) _ _ _ rfl (hown1.alloc _) ⟨w2.heap.size, 0, none⟩ 1 1 [.int .u64 y0, .int .u64 y1] rfl rfl ?c1 ?c2 (by decide) ?c3 ?c4 ?c5 _ rfl ?_)
  case c1 => exact World.news_of_block (heap_alloc_new w2 _)
  case c2 => intro u hu; simp at hu; rcases hu with rfl | rfl <;> rfl
  case c3 => unfold maxLen; omega
  case c4 => omega
  case c5 => have := hh.size; simp; omega
  intro g cap' w3 hown3 hgrow hat hlt
  have hh3 := (bla hh (.cells #[.int .u64 y0, .int .u64 y1] 24)).grown hgrow (by have := hh.size; simp; omega) (fun k hk => (hown1.lt k hk).1)
  have H3 := Lib.hid hown3
  clear hown3 hown1 hgrow hat
  go_wp2
  go_ret2
  exact ⟨_, rfl, H3.out, hh3⟩

set_option maxHeartbeats 1000000 in
theorem refProof_more (len k cap b off m : Nat) (i y0 y1 : Int) (xs : List Value) (hk : leftN len = k) (hk1 : k < len) (hl : 2 ≤ len) (hl2 : len ≤ 1099511627776) (hm : m ≤ 1000) (hc1 : len ≤ cap) (hi2 : (k : Int) ≤ i) (hi3 : i < (len : Int)) (w : World)
    (h1 : ∀ W, Below w.heap.size w W → Calls Try.prog 22 #[.slice (some ⟨b, off + k * 2, none⟩) (len - k) (cap - k), .int .i64 (i - (k : Int))] W fun e w' => ∃ v, e = .returned (.tuple #[v, .int .i64 0]) ∧ w'.ownsRow W.heap.size 24 2 v m xs ∧ Below W.heap.size W w')
    (h2 : ∀ W, Below w.heap.size w W → Calls Try.prog 24 #[.slice (some ⟨b, off, none⟩) k cap] W fun e w' => e = .returned (.agg #[.int .u64 y0, .int .u64 y1]) ∧ Below W.heap.size W w') :
    Calls Try.prog 22 #[.slice (some ⟨b, off, none⟩) len cap, .int .i64 i] w fun e w' => ∃ v, e = .returned (.tuple #[v, .int .i64 0]) ∧ w'.ownsRow w.heap.size 24 2 v (m + 1) (xs ++ [.int .u64 y0, .int .u64 y1]) ∧ Below w.heap.size w w' := by
  obtain ⟨i0, hi, hz0, hz1, hz2⟩ := info_parts info24
  have H1 := Lib.hid h1
  have H2 := Lib.hid h2
  have HK := Lib.hid hk
  clear h1 h2 hk
  have t0 : ¬ i < 0 := by omega
  have ta : ¬ (len : Int) ≤ i := by omega
  have t1 : ((len : Int) == 1) = false := by simp; omega
  have t2 : (0 : Int) ≤ (k : Int) := by omega
  have t3 : (k : Int) ≤ (len : Int) := by omega
  have t4 : (k : Int) ≤ (cap : Int) := by omega
  have w1 : IntKind.i64.wrap (i - (k : Int)) = i - (k : Int) := by rw [IntKind.wrap_i64]; omega
  have t6 : ¬ i < (k : Int) := by omega
  have tk : ¬ cap = k := by omega
  have t5 : (len : Int) ≤ (cap : Int) := by omega
  go_enter Try.func22, Try.ntmps22
  go_wp2_with (go_at_call 43; refine (left_any len hl hl2 _).mono ?_; rintro e w' ⟨rfl, rfl⟩; rw [HK.out])
  refine (H1.out _ (Below.refl _ _)).mono ?_
  rintro e w1 ⟨v, rfl, hown, hb1⟩
  have HO := Lib.hid hown
  clear hown
  go_wp2_with fail
  refine (H2.out _ hb1).mono ?_
  rintro e w2 ⟨rfl, hb2⟩
  have hown1 := own_kept HO.out hb2
  have hh := bl hb1 hb2
  clear HO hb1 hb2
  go_wp2_with (at_builtin; refine wpList_append_lies _ rfl _ _ 35 rfl w.heap.size 24 i0 (.agg #[.int .u64 0, .int .u64 0]) 2 16 Try.underlying35 hi hz0 hz1 hz2 rfl (by decide) _ _ _ rfl (hown1.alloc _) ⟨w2.heap.size, 0, none⟩ 1 1 [.int .u64 y0, .int .u64 y1] rfl rfl ?c1 ?c2 (by decide) ?c3 ?c4 ?c5 _ rfl ?_)
  case c1 => exact World.news_of_block (heap_alloc_new w2 _)
  case c2 => intro u hu; simp at hu; rcases hu with rfl | rfl <;> rfl
  case c3 => unfold maxLen; omega
  case c4 => omega
  case c5 => have := hh.size; simp; omega
  intro g cap' w3 hown3 hgrow hat hlt
  have hh3 := (bla hh (.cells #[.int .u64 y0, .int .u64 y1] 24)).grown hgrow (by have := hh.size; simp; omega) (fun k hk => (hown1.lt k hk).1)
  have H3 := Lib.hid hown3
  clear hown3 hown1 hgrow hat
  go_wp2
  go_ret2
  exact ⟨_, rfl, H3.out, hh3⟩
theorem refProof_any : ∀ (f : Nat) (L : List Dig) (i : Nat) (w : World) (v : Value), L.length < f → f ≤ 1000 → i < L.length → IsDigs w v L →
    Calls Try.prog 22 #[v, .int .i64 i] w fun e w' => ∃ v, e = .returned (.tuple #[v, .int .i64 0]) ∧ w'.ownsRow w.heap.size 24 2 v (proofT f L i).length (digCells (proofT f L i)) ∧ Below w.heap.size w w'
  | 0, _, _, _, _, h, _, _, _ => absurd h (Nat.not_lt_zero _)
  | f + 1, L, i, w, v, hf, hf2, hi, hv => by
    obtain ⟨b, off, cap, rfl, h1, h2, hb, htake, hdrop, hc⟩ := hv.parts (by intro e; rw [e] at hi; exact absurd hi (Nat.not_lt_zero _))
    by_cases h3 : L.length = 1
    · have e : proofT (f + 1) L i = [] := by rw [proofT, if_pos h3]
      obtain rfl : i = 0 := by omega
      rw [e, h3]
      exact refProof_one cap _ w
    · obtain ⟨_, _, _, _, hk, hk2⟩ := leftN_spec L.length (by omega) (by omega)
      have hpos : 1 ≤ leftN L.length := Nat.pow_pos (by decide)
      by_cases hik : i < leftN L.length
      · have e : proofT (f + 1) L i = proofT f (L.take (leftN L.length)) i ++ [rootT (f + 1) (L.drop (leftN L.length))] := by rw [proofT, if_neg h3, if_pos hik]
        rw [e, digCells_snoc, List.length_append, List.length_singleton]
        exact refProof_less L.length _ cap b off _ i _ _ _ rfl hk (by omega) (by omega) (Nat.le_trans (proofT_length f _ _) (by omega)) h1 (by omega) (by omega) w
          (fun W hW => refProof_any f (L.take (leftN L.length)) i W _ (by rw [List.length_take]; omega) (by omega) (by rw [List.length_take]; omega) ((htake _ (by omega)).below hW))
          (fun W hW => refRoot_any (f + 1) (L.drop (leftN L.length)) W _ (by rw [List.length_drop]; omega) (by rw [List.length_drop]; omega) ((hdrop _ (by omega)).below hW))
      · have e : proofT (f + 1) L i = proofT f (L.drop (leftN L.length)) (i - leftN L.length) ++ [rootT (f + 1) (L.take (leftN L.length))] := by rw [proofT, if_neg h3, if_neg hik]
        rw [e, digCells_snoc, List.length_append, List.length_singleton]
        refine refProof_more L.length _ cap b off _ i _ _ _ rfl hk (by omega) (by omega) (Nat.le_trans (proofT_length f _ _) (by omega)) h1 (by omega) (by omega) w
          (fun W hW => ?_)
          (fun W hW => refRoot_any (f + 1) (L.take (leftN L.length)) W _ (by rw [List.length_take]; omega) (by rw [List.length_take]; omega) ((htake _ (by omega)).below hW))
        have := refProof_any f (L.drop (leftN L.length)) (i - leftN L.length) W _ (by rw [List.length_drop]; omega) (by omega) (by rw [List.length_drop]; omega) ((hdrop _ (by omega)).below hW)
        rw [Int.natCast_sub (by omega)] at this
        exact this

theorem digCells_get : ∀ (L : List Dig) (j : Nat) (d : Dig), L[j]? = some d → (digCells L)[j * 2]? = some (.int .u64 d.1) ∧ (digCells L)[j * 2 + 1]? = some (.int .u64 d.2)
  | [], j, d, h => by simp at h
  | x :: L, 0, d, h => by
    simp at h
    subst h
    simp [digCells]
  | x :: L, j + 1, d, h => by
    have := digCells_get L j d (by simpa using h)
    have e : digCells (x :: L) = .int .u64 x.1 :: .int .u64 x.2 :: digCells L := by simp [digCells]
    rw [e, show (j + 1) * 2 = j * 2 + 1 + 1 from by omega]
    exact ⟨by simpa using this.1, by simpa using this.2⟩
theorem own_digs {W : World} {B : Nat} {v : Value} {L : List Dig} (h : W.ownsRow B 24 2 v L.length (digCells L)) : IsDigs W v L := by
  by_cases h0 : L.length = 0
  · obtain rfl : L = [] := List.length_eq_zero_iff.1 h0
    rcases h.2 with ⟨rfl, _⟩ | ⟨g, cap, cur, rfl, _, _, h1, h2, _⟩
    · exact ⟨none, 0, rfl, by simp, Nat.zero_le _, .inl rfl⟩
    · exact ⟨_, cap, rfl, h1, h2, .inl rfl⟩
  · rcases h.2 with ⟨_, h1⟩ | ⟨g, cap, cur, rfl, _, hg, h1, h2, _⟩
    · exact absurd h1 h0
    · have hlt := (h.lt g rfl).2
      refine ⟨_, cap, rfl, h1, h2, .inr ⟨g, 0, rfl, hlt, fun j d hj => ?_⟩⟩
      obtain ⟨c0, c1⟩ := digCells_get L j d hj
      have a0 := h.cells rfl _ _ c0
      have a1 := h.cells rfl _ _ c1
      rw [Nat.zero_add]
      refine ⟨?_, ?_⟩
      · rcases Nat.eq_zero_or_pos j with rfl | hp
        · simpa [Addr.add] using a0
        · have hne : ¬ j * 2 = 0 := by omega
          simpa [Addr.add, hne] using a0
      · simpa [Addr.add] using a1

set_option maxHeartbeats 1000000 in
/-- The reference's Same, of two slices of the same digests. -/
theorem same_any (L : List Dig) (v1 v2 : Value) (w : World) (h1 : IsDigs w v1 L) (h2 : IsDigs w v2 L) :
    Calls Try.prog 25 #[v1, v2] w fun e w' => e = .returned (.bool true) ∧ Below w.heap.size w w' := by
  have k1 := h1
  have k2 := h2
  obtain ⟨a1, c1, rfl, l1, m1, _⟩ := k1
  obtain ⟨a2, c2, rfl, l2, m2, _⟩ := k2
  obtain ⟨n, hn⟩ : ∃ n, L.length = n := ⟨_, rfl⟩
  rw [hn] at h1 h2 l1 l2 ⊢
  have HN := Lib.hid hn
  clear hn
  unfold maxLen at m1 m2
  have D1 := Lib.hid h1
  have D2 := Lib.hid h2
  clear h1 h2
  go_enter Try.func25, Try.ntmps25
  go_wp2
  go_loopw [5] (fun i wr => ∃ k : Nat, k ≤ n ∧ i = .int .i64 k ∧ Below w.heap.size w wr) (fun i _ => n - (intOf i).toNat)
  case atStart => exact ⟨0, Nat.zero_le _, rfl, Below.refl _ _⟩
  case round =>
    obtain ⟨k, hk, rfl, hB⟩ := hrel
    by_cases hlt : k < n
    · obtain ⟨d, hd⟩ : ∃ d, L[k]? = some d := ⟨L[k]'(by rw [HN.out]; exact hlt), List.getElem?_eq_getElem _⟩
      obtain ⟨b, off, rfl, x0, x1⟩ : ∃ b off, a1 = some ⟨b, off, none⟩ ∧ wr.cell? ⟨b, off + k * 2, none⟩ = some (.int .u64 d.1) ∧ wr.cell? ⟨b, off + k * 2 + 1, none⟩ = some (.int .u64 d.2) := by
        obtain ⟨a, cap, e, _, _, h⟩ := D1.out.below hB
        injection e with e1 e2 e3
        subst e1
        rcases h with rfl | ⟨b, off, rfl, _, hc⟩
        · simp at hd
        · exact ⟨b, off, rfl, (hc k d hd).1, (hc k d hd).2⟩
      obtain ⟨b2, off2, rfl, y0, y1⟩ : ∃ b off, a2 = some ⟨b, off, none⟩ ∧ wr.cell? ⟨b, off + k * 2, none⟩ = some (.int .u64 d.1) ∧ wr.cell? ⟨b, off + k * 2 + 1, none⟩ = some (.int .u64 d.2) := by
        obtain ⟨a, cap, e, _, _, h⟩ := D2.out.below hB
        injection e with e1 e2 e3
        subst e1
        rcases h with rfl | ⟨b, off, rfl, _, hc⟩
        · simp at hd
        · exact ⟨b, off, rfl, (hc k d hd).1, (hc k d hd).2⟩
      have t1 : (0 : Int) ≤ (k : Int) := by omega
      have t2 : (k : Int) < (n : Int) := by omega
      clear hd
      go_wp2
      go_quiet (fail)
      go_wp2
      go_roundw
      case rel => exact ⟨k + 1, by omega, by go_num, blN hB _⟩
      case measure => simp [intOf]; omega
    · go_wp2
      go_ret
      exact ⟨rfl, hB⟩
end Go.Proofs.Ytamhokedekhocaa
