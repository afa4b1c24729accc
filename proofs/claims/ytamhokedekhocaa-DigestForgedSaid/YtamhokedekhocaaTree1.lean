/- Root, of program and reference, at this translation. -/
import Derived.Test.YtamhokedekhocaaVerify5
namespace Go.Proofs.Ytamhokedekhocaa
open Go.RowKit
attribute [local go_sem] eq_arr

/-- The result's cells, in a later world. -/
structure Res1 (w : World) (W : World) : Prop where
  res : Two W w.heap.size 0 0
  size : w.heap.size < W.heap.size
  below : Below w.heap.size w W
theorem Res1.on {w W W' : World} (h : Res1 w W) (hB : Below W.heap.size W W') : Res1 w W' := ⟨h.res.below hB h.size, Nat.lt_of_lt_of_le h.size hB.size, bl h.below hB⟩
theorem Res1.first (w : World) : Res1 w (w.alloc (.cells #[.int .u64 0, .int .u64 0] 24)) := ⟨Two.fresh w 0 0 24, by simp, bla (Below.refl _ _) _⟩
theorem Res1.drew {w W : World} (h : Res1 w W) : Res1 w W.drew := ⟨h.res, h.size, h.below.drew⟩
theorem Res1.put {w W : World} (h : Res1 w W) (u v : Value) : Below w.heap.size w ((W.setCell ⟨w.heap.size, 0, none⟩ u).setCell ⟨w.heap.size, 1, none⟩ v) :=
  (h.below.setCell (p := ⟨w.heap.size, 0, none⟩) (Nat.le_refl _) _).setCell (p := ⟨w.heap.size, 1, none⟩) (Nat.le_refl _) _

set_option maxHeartbeats 1000000 in
theorem root_two (len k cap b off : Nat) (x0 x1 y0 y1 s0 s1 : Int) (hk : leftN len = k) (hk0 : 1 ≤ k) (hk1 : k < len) (hl : 2 ≤ len) (hl2 : len ≤ 1099511627776) (hc1 : len ≤ cap) (w : World)
    (h1 : ∀ W, Below w.heap.size w W → Calls Try.prog 23 #[.slice (some ⟨b, off, none⟩) k cap] W fun e w' => e = .returned (.agg #[.int .u64 x0, .int .u64 x1]) ∧ Below W.heap.size W w')
    (h2 : ∀ W, Below w.heap.size w W → Calls Try.prog 23 #[.slice (some ⟨b, off + k * 2, none⟩) (len - k) (cap - k)] W fun e w' => e = .returned (.agg #[.int .u64 y0, .int .u64 y1]) ∧ Below W.heap.size W w')
    (hpair : ∀ W, Calls Try.prog 15 #[.agg #[.int .u64 x0, .int .u64 x1], .agg #[.int .u64 y0, .int .u64 y1]] W fun e w' => e = .returned (.agg #[.int .u64 s0, .int .u64 s1]) ∧ Below W.heap.size W w') :
    Calls Try.prog 23 #[.slice (some ⟨b, off, none⟩) len cap] w fun e w' => e = .returned (.agg #[.int .u64 s0, .int .u64 s1]) ∧ Below w.heap.size w w' := by
  have H1 := Lib.hid h1
  have H2 := Lib.hid h2
  have HP := Lib.hid hpair
  have HK := Lib.hid hk
  clear h1 h2 hpair hk
  have t0 : ((len : Int) == 0) = false := by simp; omega
  have t1 : ((len : Int) == 1) = false := by simp; omega
  have t2 : (0 : Int) ≤ (k : Int) := by omega
  have t3 : (k : Int) ≤ (len : Int) := by omega
  have t4 : (k : Int) ≤ (cap : Int) := by omega
  have t5 : (len : Int) ≤ (cap : Int) := by omega
  go_enter Try.func23, Try.ntmps23
  go_wp2_with (go_at_call 45; refine (half_any len hl hl2 _).mono ?_; rintro e w' ⟨rfl, rfl⟩; rw [HK.out])
  have start := (Res1.first w).drew
  go_region_held3 (fun W => Below w.heap.size w W) (first | exact hh.below | exact start.below | exact hh.put _ _)
    (first | (go_at_call 23; with_reducible refine (H1.out _ (by first | exact hh.below | exact start.below)).mono ?_; rintro e w' ⟨rfl, hb⟩; have hh := Res1.on (by first | exact hh | exact start) hb; clear hb) | (go_at_call 23; with_reducible refine (H2.out _ (by first | exact hh.below | exact start.below)).mono ?_; rintro e w' ⟨rfl, hb⟩; have hh := Res1.on (by first | exact hh | exact start) hb; clear hb) | (go_at_call 15; refine (HP.out _).mono ?_; rintro e w' ⟨rfl, hb⟩; have hh := Res1.on hh hb; obtain ⟨q0, q1, q2, q3⟩ := hh.res; clear hb))
  go_wp2
  refine bodyPost_ret (v := .agg #[.int .u64 s0, .int .u64 s1]) ?_ rfl ⟨rfl, hh.put _ _⟩
  obtain ⟨x0, x1, _, _⟩ := (hh.res.set0 s0).set1 s1
  simp [results, Try.results23, go_sem, x0, x1]
set_option maxHeartbeats 1000000 in
theorem refRoot_two (len k cap b off : Nat) (x0 x1 y0 y1 s0 s1 : Int) (hk : leftN len = k) (hk0 : 1 ≤ k) (hk1 : k < len) (hl : 2 ≤ len) (hl2 : len ≤ 1099511627776) (hc1 : len ≤ cap) (w : World)
    (h1 : ∀ W, Below w.heap.size w W → Calls Try.prog 24 #[.slice (some ⟨b, off, none⟩) k cap] W fun e w' => e = .returned (.agg #[.int .u64 x0, .int .u64 x1]) ∧ Below W.heap.size W w')
    (h2 : ∀ W, Below w.heap.size w W → Calls Try.prog 24 #[.slice (some ⟨b, off + k * 2, none⟩) (len - k) (cap - k)] W fun e w' => e = .returned (.agg #[.int .u64 y0, .int .u64 y1]) ∧ Below W.heap.size W w')
    (hpair : ∀ W, Calls Try.prog 16 #[.agg #[.int .u64 x0, .int .u64 x1], .agg #[.int .u64 y0, .int .u64 y1]] W fun e w' => e = .returned (.agg #[.int .u64 s0, .int .u64 s1]) ∧ Below W.heap.size W w') :
    Calls Try.prog 24 #[.slice (some ⟨b, off, none⟩) len cap] w fun e w' => e = .returned (.agg #[.int .u64 s0, .int .u64 s1]) ∧ Below w.heap.size w w' := by
  have H1 := Lib.hid h1
  have H2 := Lib.hid h2
  have HP := Lib.hid hpair
  have HK := Lib.hid hk
  clear h1 h2 hpair hk
  have t0 : ((len : Int) == 0) = false := by simp; omega
  have t1 : ((len : Int) == 1) = false := by simp; omega
  have t2 : (0 : Int) ≤ (k : Int) := by omega
  have t3 : (k : Int) ≤ (len : Int) := by omega
  have t4 : (k : Int) ≤ (cap : Int) := by omega
  have t5 : (len : Int) ≤ (cap : Int) := by omega
  go_enter Try.func24, Try.ntmps24
  go_wp2_with (go_at_call 43; refine (left_any len hl hl2 _).mono ?_; rintro e w' ⟨rfl, rfl⟩; rw [HK.out])
  have start := (Res1.first w).drew
  go_region_held3 (fun W => Below w.heap.size w W) (first | exact hh.below | exact start.below | exact hh.put _ _)
    (first | (go_at_call 24; with_reducible refine (H1.out _ (by first | exact hh.below | exact start.below)).mono ?_; rintro e w' ⟨rfl, hb⟩; have hh := Res1.on (by first | exact hh | exact start) hb; clear hb) | (go_at_call 24; with_reducible refine (H2.out _ (by first | exact hh.below | exact start.below)).mono ?_; rintro e w' ⟨rfl, hb⟩; have hh := Res1.on (by first | exact hh | exact start) hb; clear hb) | (go_at_call 16; refine (HP.out _).mono ?_; rintro e w' ⟨rfl, hb⟩; have hh := Res1.on hh hb; obtain ⟨q0, q1, q2, q3⟩ := hh.res; clear hb))
  go_wp2
  refine bodyPost_ret (v := .agg #[.int .u64 s0, .int .u64 s1]) ?_ rfl ⟨rfl, hh.put _ _⟩
  obtain ⟨x0, x1, _, _⟩ := (hh.res.set0 s0).set1 s1
  simp [results, Try.results24, go_sem, x0, x1]
set_option maxHeartbeats 400000 in
theorem root_zero (cap : Nat) (a : Option Addr) (s0 s1 : Int) (w : World) (hof : ∀ W, Calls Try.prog 11 #[.string ⟨#[]⟩] W fun e w' => e = .returned (.agg #[.int .u64 s0, .int .u64 s1]) ∧ Below W.heap.size W w') :
    Calls Try.prog 23 #[.slice a 0 cap] w fun e w' => e = .returned (.agg #[.int .u64 s0, .int .u64 s1]) ∧ Below w.heap.size w w' := by
  have HO := Lib.hid hof
  clear hof
  go_enter Try.func23, Try.ntmps23
  go_wp2_with fail
  refine (HO.out _).mono ?_
  rintro e w' ⟨rfl, hb⟩
  have hh := (Res1.first w).on hb
  obtain ⟨q0, q1, q2, q3⟩ := hh.res
  go_wp2
  refine bodyPost_ret (v := .agg #[.int .u64 s0, .int .u64 s1]) ?_ rfl ⟨rfl, hh.put _ _⟩
  obtain ⟨x0, x1, _, _⟩ := (hh.res.set0 s0).set1 s1
  simp [results, Try.results23, go_sem, x0, x1]
set_option maxHeartbeats 400000 in
theorem root_one (cap b off : Nat) (d0 d1 s0 s1 : Int) (w : World) (e0 : w.cell? ⟨b, off, none⟩ = some (.int .u64 d0)) (e1 : w.cell? ⟨b, off + 1, none⟩ = some (.int .u64 d1)) (hb : b < w.heap.size)
    (hleaf : ∀ W, Calls Try.prog 44 #[.agg #[.int .u64 d0, .int .u64 d1]] W fun e w' => e = .returned (.agg #[.int .u64 s0, .int .u64 s1]) ∧ Below W.heap.size W w') :
    Calls Try.prog 23 #[.slice (some ⟨b, off, none⟩) 1 cap] w fun e w' => e = .returned (.agg #[.int .u64 s0, .int .u64 s1]) ∧ Below w.heap.size w w' := by
  have HO := Lib.hid hleaf
  clear hleaf
  go_enter Try.func23, Try.ntmps23
  go_wp2_with fail
  refine (HO.out _).mono ?_
  rintro e w' ⟨rfl, hb⟩
  have hh := (Res1.first w).on hb
  obtain ⟨q0, q1, q2, q3⟩ := hh.res
  go_wp2
  refine bodyPost_ret (v := .agg #[.int .u64 s0, .int .u64 s1]) ?_ rfl ⟨rfl, hh.put _ _⟩
  obtain ⟨x0, x1, _, _⟩ := (hh.res.set0 s0).set1 s1
  simp [results, Try.results23, go_sem, x0, x1]
set_option maxHeartbeats 400000 in
theorem refRoot_zero (cap : Nat) (a : Option Addr) (s0 s1 : Int) (w : World) (hof : ∀ W, Calls Try.prog 12 #[.string ⟨#[]⟩] W fun e w' => e = .returned (.agg #[.int .u64 s0, .int .u64 s1]) ∧ Below W.heap.size W w') :
    Calls Try.prog 24 #[.slice a 0 cap] w fun e w' => e = .returned (.agg #[.int .u64 s0, .int .u64 s1]) ∧ Below w.heap.size w w' := by
  have HO := Lib.hid hof
  clear hof
  go_enter Try.func24, Try.ntmps24
  go_wp2_with fail
  refine (HO.out _).mono ?_
  rintro e w' ⟨rfl, hb⟩
  have hh := (Res1.first w).on hb
  obtain ⟨q0, q1, q2, q3⟩ := hh.res
  go_wp2
  refine bodyPost_ret (v := .agg #[.int .u64 s0, .int .u64 s1]) ?_ rfl ⟨rfl, hh.put _ _⟩
  obtain ⟨x0, x1, _, _⟩ := (hh.res.set0 s0).set1 s1
  simp [results, Try.results24, go_sem, x0, x1]
set_option maxHeartbeats 400000 in
theorem refRoot_one (cap b off : Nat) (d0 d1 s0 s1 : Int) (S : ByteArray) (w : World) (e0 : w.cell? ⟨b, off, none⟩ = some (.int .u64 d0)) (e1 : w.cell? ⟨b, off + 1, none⟩ = some (.int .u64 d1)) (hb : b < w.heap.size)
    (hstr : ∀ W, Calls Try.prog 46 #[.agg #[.int .u64 d0, .int .u64 d1]] W fun e w' => e = .returned (.string S) ∧ Below W.heap.size W w')
    (hof : ∀ W, Calls Try.prog 12 #[.string S] W fun e w' => e = .returned (.agg #[.int .u64 s0, .int .u64 s1]) ∧ Below W.heap.size W w') :
    Calls Try.prog 24 #[.slice (some ⟨b, off, none⟩) 1 cap] w fun e w' => e = .returned (.agg #[.int .u64 s0, .int .u64 s1]) ∧ Below w.heap.size w w' := by
  have HS := Lib.hid hstr
  have HO := Lib.hid hof
  clear hstr hof
  go_enter Try.func24, Try.ntmps24
  go_wp2_with fail
  refine (HS.out _).mono ?_
  rintro e w1 ⟨rfl, hb1⟩
  go_wp2_with fail
  refine (HO.out _).mono ?_
  rintro e w' ⟨rfl, hb⟩
  have hh := ((Res1.first w).on hb1).on hb
  obtain ⟨q0, q1, q2, q3⟩ := hh.res
  go_wp2
  refine bodyPost_ret (v := .agg #[.int .u64 s0, .int .u64 s1]) ?_ rfl ⟨rfl, hh.put _ _⟩
  obtain ⟨x0, x1, _, _⟩ := (hh.res.set0 s0).set1 s1
  simp [results, Try.results24, go_sem, x0, x1]

theorem IsDigs.parts {w : World} {v : Value} {L : List Dig} (h : IsDigs w v L) (hL : L ≠ []) : ∃ b off cap, v = .slice (some ⟨b, off, none⟩) L.length cap ∧ L.length ≤ cap ∧ cap ≤ maxLen ∧ b < w.heap.size ∧
    (∀ k, k ≤ L.length → IsDigs w (.slice (some ⟨b, off, none⟩) k cap) (L.take k)) ∧ (∀ k, k ≤ L.length → IsDigs w (.slice (some ⟨b, off + k * 2, none⟩) (L.length - k) (cap - k)) (L.drop k)) ∧
    (∀ (j : Nat) (d : Dig), L[j]? = some d → w.cell? ⟨b, off + j * 2, none⟩ = some (.int .u64 d.1) ∧ w.cell? ⟨b, off + j * 2 + 1, none⟩ = some (.int .u64 d.2)) := by
  obtain ⟨a, cap, e, h1, h2, h3⟩ := h
  rcases h3 with h3 | ⟨b, off, e2, hb, hc⟩
  · exact absurd h3 hL
  · refine ⟨b, off, cap, by rw [e, e2], h1, h2, hb, fun k hk => ?_, fun k hk => ?_, hc⟩
    · refine ⟨some ⟨b, off, none⟩, cap, by rw [List.length_take, Nat.min_eq_left hk], by rw [List.length_take, Nat.min_eq_left hk]; omega, h2, .inr ⟨b, off, rfl, hb, fun j d hj => hc j d ?_⟩⟩
      rw [List.getElem?_take] at hj
      split at hj
      · exact hj
      · cases hj
    · refine ⟨some ⟨b, off + k * 2, none⟩, cap - k, by rw [List.length_drop], by rw [List.length_drop]; omega, by omega, .inr ⟨b, off + k * 2, rfl, hb, fun j d hj => ?_⟩⟩
      rw [List.getElem?_drop] at hj
      have := hc (k + j) d hj
      rw [show off + (k + j) * 2 = off + k * 2 + j * 2 from by omega] at this
      exact this

/-- The root of a list of digests. -/
def rootT : Nat → List Dig → Dig
  | 0, _ => ofD []
  | f + 1, l => if l.length = 0 then ofD [] else if l.length = 1 then leafD (l.headD (0, 0)) else pairD (rootT f (l.take (leftN l.length))) (rootT f (l.drop (leftN l.length)))
theorem of_none (W : World) : Calls Try.prog 11 #[.string ⟨#[]⟩] W fun e w' => e = .returned (.agg #[.int .u64 (ofD []).1, .int .u64 (ofD []).2]) ∧ Below W.heap.size W w' := by
  refine (of_any ⟨#[]⟩ W (Nat.zero_le _)).mono ?_
  rintro e w' ⟨rfl, hB⟩
  exact ⟨by rw [ofD_v]; rfl, hB⟩
theorem refOf_none (W : World) : Calls Try.prog 12 #[.string ⟨#[]⟩] W fun e w' => e = .returned (.agg #[.int .u64 (ofD []).1, .int .u64 (ofD []).2]) ∧ Below W.heap.size W w' := by
  refine (refOf_any ⟨#[]⟩ W (Nat.zero_le _)).mono ?_
  rintro e w' ⟨rfl, hB⟩
  exact ⟨by rw [ofD_v]; rfl, hB⟩
theorem root_any : ∀ (f : Nat) (L : List Dig) (w : World) (v : Value), L.length < f → L.length ≤ 1099511627776 → IsDigs w v L →
    Calls Try.prog 23 #[v] w fun e w' => e = .returned (rootT f L).v ∧ Below w.heap.size w w'
  | 0, _, _, _, h, _, _ => absurd h (Nat.not_lt_zero _)
  | f + 1, L, w, v, hf, h40, hv => by
    by_cases h0 : L.length = 0
    · obtain rfl : L = [] := List.length_eq_zero_iff.1 h0
      obtain ⟨a, cap, rfl, _⟩ := hv
      exact root_zero cap a _ _ w of_none
    · obtain ⟨b, off, cap, rfl, h1, h2, hb, htake, hdrop, hc⟩ := hv.parts (by intro e; rw [e] at h0; exact h0 rfl)
      by_cases h3 : L.length = 1
      · obtain ⟨d, rfl⟩ := List.length_eq_one_iff.1 h3
        have hd := hc 0 d rfl
        simp only [Nat.zero_mul, Nat.add_zero] at hd
        have e : rootT (f + 1) [d] = leafD d := by simp [rootT]
        rw [e]
        exact root_one cap b off d.1 d.2 _ _ w hd.1 hd.2 hb (fun W => leafV_any d.1 d.2 W)
      · obtain ⟨_, _, _, _, hk, _⟩ := leftN_spec L.length (by omega) (by omega)
        have hpos : 1 ≤ leftN L.length := Nat.pow_pos (by decide)
        have e : rootT (f + 1) L = pairD (rootT f (L.take (leftN L.length))) (rootT f (L.drop (leftN L.length))) := by rw [rootT, if_neg h0, if_neg h3]
        rw [e]
        exact root_two L.length _ cap b off _ _ _ _ _ _ rfl hpos hk (by omega) h40 h1 w
          (fun W hW => root_any f (L.take (leftN L.length)) W _ (by rw [List.length_take]; omega) (by rw [List.length_take]; omega) ((htake _ (by omega)).below hW))
          (fun W hW => root_any f (L.drop (leftN L.length)) W _ (by rw [List.length_drop]; omega) (by rw [List.length_drop]; omega) ((hdrop _ (by omega)).below hW)) (fun W => pairD_any _ _ W)
theorem refRoot_any : ∀ (f : Nat) (L : List Dig) (w : World) (v : Value), L.length < f → L.length ≤ 1099511627776 → IsDigs w v L →
    Calls Try.prog 24 #[v] w fun e w' => e = .returned (rootT f L).v ∧ Below w.heap.size w w'
  | 0, _, _, _, h, _, _ => absurd h (Nat.not_lt_zero _)
  | f + 1, L, w, v, hf, h40, hv => by
    by_cases h0 : L.length = 0
    · obtain rfl : L = [] := List.length_eq_zero_iff.1 h0
      obtain ⟨a, cap, rfl, _⟩ := hv
      exact refRoot_zero cap a _ _ w refOf_none
    · obtain ⟨b, off, cap, rfl, h1, h2, hb, htake, hdrop, hc⟩ := hv.parts (by intro e; rw [e] at h0; exact h0 rfl)
      by_cases h3 : L.length = 1
      · obtain ⟨d, rfl⟩ := List.length_eq_one_iff.1 h3
        have hd := hc 0 d rfl
        simp only [Nat.zero_mul, Nat.add_zero] at hd
        have e : rootT (f + 1) [d] = leafD d := by simp [rootT]
        rw [e]
        exact refRoot_one cap b off d.1 d.2 _ _ _ w hd.1 hd.2 hb (fun W => refLeaf_any d.1 d.2 W) (fun W => refOf_leaf d W)
      · obtain ⟨_, _, _, _, hk, _⟩ := leftN_spec L.length (by omega) (by omega)
        have hpos : 1 ≤ leftN L.length := Nat.pow_pos (by decide)
        have e : rootT (f + 1) L = pairD (rootT f (L.take (leftN L.length))) (rootT f (L.drop (leftN L.length))) := by rw [rootT, if_neg h0, if_neg h3]
        rw [e]
        exact refRoot_two L.length _ cap b off _ _ _ _ _ _ rfl hpos hk (by omega) h40 h1 w
          (fun W hW => refRoot_any f (L.take (leftN L.length)) W _ (by rw [List.length_take]; omega) (by rw [List.length_take]; omega) ((htake _ (by omega)).below hW))
          (fun W hW => refRoot_any f (L.drop (leftN L.length)) W _ (by rw [List.length_drop]; omega) (by rw [List.length_drop]; omega) ((hdrop _ (by omega)).below hW)) (fun W => refPairD_any _ _ W)
end Go.Proofs.Ytamhokedekhocaa
