/- codec.repeat and GetTexts, at this translation. -/
import Derived.Test.YtgnkfikihjjpeaaCdText
namespace Go.Proofs.Ytgnkfikihjjpeaa.Cd
open Go.RowKit Go.Shelf

/-- What repeat reads: the texts, the number of their bytes, the error. -/
def repT : Nat → ByteArray → List ByteArray × Nat × Int
  | 0, _ => ([], 0, 0)
  | n + 1, t => if (getT t).2.2 ≠ 0 then ([], 0, (getT t).2.2) else
      if (repT n (t.extract (getT t).2.1 t.size)).2.2 ≠ 0 then ([], 0, (repT n (t.extract (getT t).2.1 t.size)).2.2)
      else ((getT t).1 :: (repT n (t.extract (getT t).2.1 t.size)).1, (getT t).2.1 + (repT n (t.extract (getT t).2.1 t.size)).2.1, 0)
/-- .. behind some texts that were read already. -/
def onT (P : List ByteArray) (k : Nat) (r : List ByteArray × Nat × Int) : List ByteArray × Nat × Int := if r.2.2 ≠ 0 then ([], 0, r.2.2) else (P ++ r.1, k + r.2.1, 0)

theorem getT_fits (s : ByteArray) (h : (getT s).2.2 = 0) : 1 ≤ (getT s).2.1 ∧ (getT s).2.1 ≤ s.size ∧ (getT s).1.size ≤ 65536 ∧ (getT s).1.size ≤ s.size := by
  rcases hg : getL 12 13 6 0 0 (nats s) with ⟨x, k, e⟩
  unfold getT at h ⊢
  rw [hg] at h ⊢
  by_cases h1 : e = 0
  · subst h1
    obtain ⟨f1, f2, f3, f4, f5, f6⟩ := getL_fits s x k hg
    by_cases h2 : 65536 < x
    · rw [if_neg (by simp), if_pos h2] at h; simp at h
    · by_cases h3 : s.size < k + x
      · rw [if_neg (by simp), if_neg h2, if_pos h3] at h; simp at h
      · rw [if_neg (by simp), if_neg h2, if_neg h3]
        have : (s.extract k (k + x)).size = x := by rw [ByteArray.size_extract]; omega
        simp only [this]
        omega
  · rw [if_pos h1] at h; exact absurd h h1
theorem extract_extract' (s : ByteArray) (a k : Nat) (ha : a ≤ s.size) : (s.extract a s.size).extract k (s.extract a s.size).size = s.extract (a + k) s.size := by
  apply ByteArray.ext
  simp [ByteArray.data_extract]
  congr 1
  omega
theorem on_step (P : List ByteArray) (a n : Nat) (t x : ByteArray) (k : Nat) (h : getT t = (x, k, 0)) : onT P a (repT (n + 1) t) = onT (P ++ [x]) (a + k) (repT n (t.extract k t.size)) := by
  rcases hr : repT n (t.extract k t.size) with ⟨l, m, e⟩
  have e1 : repT (n + 1) t = if e ≠ 0 then ([], 0, e) else (x :: l, k + m, 0) := by
    rw [repT, h]
    simp only [hr]
    simp
  rw [e1]
  by_cases h2 : e = 0
  · simp [onT, h2]; omega
  · simp [onT, h2]
theorem on_err (P : List ByteArray) (a n : Nat) (t x : ByteArray) (k : Nat) (e : Int) (h : getT t = (x, k, e)) (he : e ≠ 0) : onT P a (repT (n + 1) t) = ([], 0, e) := by
  have e1 : repT (n + 1) t = ([], 0, e) := by
    rw [repT, h]
    simp [he]
  rw [e1]
  simp [onT, he]

abbrev strCellsL (L : List ByteArray) : List Value := L.map Value.string
theorem info9 : (Try.prog.info? 9).map (fun i => (i.zero, i.size, i.bytes)) = some (some (.string ByteArray.empty), 1, 16) := by kernel_rfl
theorem own_strs {W : World} {B : Nat} {v : Value} {L : List ByteArray} (h : W.ownsRow B 9 1 v L.length (strCellsL L)) : IsStrs W v L := by
  rcases h.2 with ⟨rfl, h0⟩ | ⟨g, cap, cur, rfl, hg, hh, h3, h4, _⟩
  · have : L = [] := List.eq_nil_of_length_eq_zero h0
    subst this
    exact ⟨none, 0, rfl, Nat.zero_le _, Nat.zero_le _, .inl rfl⟩
  · refine ⟨_, cap, rfl, by omega, h3, .inr ⟨g, 0, rfl, (h.lt g rfl).2, fun j hj => ?_⟩⟩
    have := h.cells (g := g) rfl j (.string L[j]) (by simp [strCellsL, hj])
    rcases Nat.eq_zero_or_pos j with rfl | h0
    · simpa [Addr.add] using this
    · simpa [Addr.add, show j ≠ 0 by omega] using this

set_option maxRecDepth 100000 in
set_option maxHeartbeats 4000000 in
theorem repeat_any (s : ByteArray) (hs : s.size ≤ maxLen) (count : Nat) (hc : count ≤ 1000) (R : List ByteArray) (n : Nat) (er : Int) (h : repT count s = (R, n, er)) (w : World) :
    Calls Try.prog 56 #[.string s, .int .i64 count, .func (.func 57) #[] #[]] w fun e w' => ∃ v', e = .returned (.tuple #[v', .int .i64 n, .int .i64 er]) ∧ IsStrs w' v' R ∧ Below w.heap.size w w' := by
  obtain ⟨i0, hi, hz0, hz1, hz2⟩ := info_parts info9
  have HS := Lib.hid hs
  unfold maxLen at hs
  have H : Hid (onT [] 0 (repT count (s.extract 0 s.size)) = (R, n, er)) := Lib.hid (by
    rw [ByteArray.extract_zero_size, h]
    unfold onT
    by_cases h0 : er = 0
    · subst h0; simp
    · have : repT count s = ([], 0, er) := by
        cases count with
        | zero => rw [repT] at h; simp at h; exact absurd h.2.2.symm h0
        | succ c =>
          rw [repT] at h ⊢
          split at h
          · rename_i h1; rw [if_pos h1]; simp at h; rw [h.2.2]
          · rename_i h1
            rw [if_neg h1]
            split at h
            · rename_i h2; rw [if_pos h2]; simp at h; rw [h.2.2]
            · simp at h; exact absurd h.2.2.symm h0
      rw [h] at this
      simp at this
      simp [h0, this])
  clear h
  go_enter Try.func56, Try.ntmps56
  go_wp2
  go_loopw [9, 10, 15] (fun s9 s10 s15 wr => ∃ (j a : Nat) (P : List ByteArray) (v' : Value), j ≤ count ∧ a ≤ s.size ∧ s9 = v' ∧ s10 = .int .i64 a ∧ s15 = .int .i64 j ∧ Hid (P.length = j) ∧ Hid (onT P a (repT (count - j) (s.extract a s.size)) = (R, n, er)) ∧
      wr.ownsRow w.heap.size 9 1 v' j (strCellsL P) ∧ Below w.heap.size w wr) (fun _ _ s15 _ => count - (intOf s15).toNat)
  case atStart => exact ⟨0, 0, [], _, Nat.zero_le _, Nat.zero_le _, rfl, rfl, rfl, rfl, H.out, World.ownsRow_nil _ _ _ _, Below.refl _ _⟩
  case round =>
    obtain ⟨j, a, P, v', hj, ha, rfl, rfl, rfl, hP, hO, hrow, hB⟩ := hrel
    by_cases hlt : j < count
    · have hO' : onT P a (repT (count - j) (s.extract a s.size)) = (R, n, er) := hO
      rw [show count - j = (count - (j + 1)) + 1 by omega] at hO'
      have hts : (s.extract a s.size).size ≤ maxLen := by rw [ByteArray.size_extract]; have := HS.out; omega
      have hts2 : (s.extract a s.size).size = s.size - a := by rw [ByteArray.size_extract]; omega
      rcases hg : getT (s.extract a s.size) with ⟨x, k, e⟩
      by_cases he : e = 0
      · subst he
        have hfit := getT_fits (s.extract a s.size) (by rw [hg])
        rw [hg] at hfit
        have hfit2 : 1 ≤ k ∧ k ≤ (s.extract a s.size).size := ⟨hfit.1, hfit.2.1⟩
        rw [on_step P a _ _ x k hg, extract_extract' s a k ha] at hO'
        have HG := Lib.hid hg
        have HO := Lib.hid hO'
        have HT := Lib.hid hts
        have hk : a + k ≤ s.size := by have := hfit2.2; omega
        clear hO hO' hts hts2 hfit hfit2 hg
        go_wp2_with fail
        ((with_reducible refine (getText_any _ HT.out x k 0 HG.out _).mono ?_); rintro e w2 ⟨rfl, hb2⟩)
        have hrow2 := own_kept hrow hb2
        have hB2 := hB.trans (hb2.mono hB.size)
        go_wp2_with (at_builtin; refine wpList_append_own _ rfl _ _ 22 rfl w.heap.size 9 i0 (.string ByteArray.empty) 1 16 Try.underlying22 hi hz0 hz1 hz2 rfl (by decide) _ _ _ rfl (hrow2.alloc _) ⟨w2.heap.size, 0, none⟩ 1 1 [.string x] rfl rfl (cell_one_new _ _ _) (by intro u hu; simp at hu; subst hu; rfl) (by unfold maxLen; omega) (by omega) (by have := hB2.size; simp; omega) ?_; intro v2 w3 hown' hgrow _; obtain ⟨g', cap', rfl⟩ := ownsRow_succ hown'; have hB3 := (hB2.alloc hB2.size _).grown hgrow (by have := hB2.size; simp; omega) (fun k hk => (hrow2.lt k hk).1); have hown3 := Lib.hid hown'; clear hgrow hown')
        go_roundw
        case rel =>
          refine ⟨j + 1, a + k, P ++ [x], _, by omega, hk, rfl, by simp, by go_num, Lib.hid (by rw [List.length_append, hP.out]; rfl), HO.out, ?_, hB3⟩
          simpa [strCellsL] using hown3.out
        case measure => simp [intOf]; omega
      · rw [on_err P a _ _ x k e hg he] at hO'
        simp only [Prod.mk.injEq] at hO'
        obtain ⟨rfl, rfl, rfl⟩ := hO'
        have HG := Lib.hid hg
        have HT := Lib.hid hts
        have q1 : (e == 0) = false := by simpa using he
        have q2 : (e != 0) = true := by simpa using he
        clear hO hts hts2 hg he
        go_wp2_with fail
        ((with_reducible refine (getText_any _ HT.out x k e HG.out _).mono ?_); rintro e2 w2 ⟨rfl, hb2⟩)
        go_wp2
        go_ret3
        exact ⟨_, rfl, own_strs (B := w.heap.size) (L := []) (World.ownsRow_nil _ _ _ _), hB.trans (hb2.mono hB.size)⟩
    · obtain rfl : j = count := by omega
      have hO' : onT P a (repT (j - j) (s.extract a s.size)) = (R, n, er) := hO
      rw [Nat.sub_self, repT] at hO'
      simp [onT] at hO'
      obtain ⟨rfl, hn, rfl⟩ := hO'
      have HN := Lib.hid hn
      have HR := Lib.hid hrow
      clear hO hn hrow
      go_wp2
      go_ret3
      exact ⟨_, by rw [← HN.out]; rfl, own_strs (by rw [hP.out]; exact HR.out), hB⟩
end Go.Proofs.Ytgnkfikihjjpeaa.Cd
