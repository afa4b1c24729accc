/- The reference's lists of texts, at this translation. -/
import Derived.Test.YtgnkfikihjjpeaaCdLists
namespace Go.Proofs.Ytgnkfikihjjpeaa.Cd
open Go.RowKit Go.Shelf

set_option maxRecDepth 100000 in
set_option maxHeartbeats 2000000 in
theorem refPutTexts_good (L : List ByteArray) (hL : L.length ≤ 1000) (hs : ∀ s ∈ L, s.size ≤ 65536) (v : Value) (w : World) (hv : IsStrs w v L) :
    Calls Try.prog 29 #[v] w fun e W' => e = .returned (.tuple #[.string (strN (encTs L)), .int .i64 0]) ∧ Below w.heap.size w W' := by
  obtain ⟨a, cap, rfl, hmax, hcap, hcells⟩ := hv
  have HC := Lib.hid hcells
  have HS := Lib.hid hs
  clear hcells hs hmax
  have hn : ¬ (1000 : Int) < L.length := by omega
  have hl6 := (enc7_len L.length 6 (by omega)).2 (by omega)
  have hl0 := enc7_pos L.length
  go_enter Try.func29, Try.ntmps29
  go_wp2_with fail
  ((with_reducible refine (refPut_any L.length (by omega) _).mono ?_); rintro e w1 ⟨rfl, hb1⟩)
  go_wp2
  go_loopw [4, 5] (fun s4 s5 wr => ∃ (k : Nat) (A : ByteArray), k ≤ L.length ∧ A.size ≤ 65542006 ∧ s4 = .string A ∧ s5 = .int .i64 k ∧ Hid (A = strN (enc7 L.length ++ (L.take k).flatMap encT)) ∧ Below w.heap.size w wr) (fun _ s5 _ => L.length - (intOf s5).toNat)
  case atStart => exact ⟨0, _, by omega, by rw [strN_size]; omega, rfl, rfl, Lib.hid (by simp), hb1⟩
  case round =>
    obtain ⟨k, A, hk, hA, rfl, rfl, hAe, hB⟩ := hrel
    by_cases hlt : k < L.length
    · obtain ⟨b, off, rfl, hb, hcell⟩ := HC.out.resolve_left (by intro e; rw [e] at hlt; simp at hlt)
      have hc := (hB.cell (p := ⟨b, off + k, none⟩) hb).trans (hcell k hlt)
      have hsz := HS.out _ (List.getElem_mem hlt)
      have htake : (L.take (k + 1)).flatMap encT = (L.take k).flatMap encT ++ encT L[k] := by
        rw [List.take_succ_eq_append_getElem hlt, List.flatMap_append]; simp
      have hfl := flat_len (L.take (k + 1)) (fun t ht => HS.out t (List.mem_of_mem_take ht))
      have hfl2 : (enc7 L.length ++ (L.take (k + 1)).flatMap encT).length ≤ 65542006 := by
        have : (L.take (k + 1)).length ≤ 1000 := by rw [List.length_take]; omega
        have := Nat.mul_le_mul_right 65542 this
        rw [List.length_append]; omega
      have hel := encT_len L[k] hsz
      have hA2 : A ++ strN (encT L[k]) = strN (enc7 L.length ++ (L.take (k + 1)).flatMap encT) := by
        rw [hAe.out, htake, ← strN_append, List.append_assoc]
      have hA3 : (A ++ strN (encT L[k])).size ≤ 65542006 := by rw [hA2, strN_size]; exact hfl2
      have hA4 : (strN (encT L[k])).size ≤ 65542 := by rw [strN_size]; exact hel
      have HA2 := Lib.hid hA2
      have HA3 := Lib.hid hA3
      generalize L[k] = s at hc hsz HA2 HA3 hA4
      clear hcell htake hfl hfl2 hel hA2 hA3 hAe
      go_wp2_with fail
      ((with_reducible refine (refPutText_good s hsz _).mono ?_); rintro e w3 ⟨rfl, hb3⟩)
      go_wp2
      go_roundw
      case rel => exact ⟨k + 1, A ++ strN (encT s), by omega, HA3.out, rfl, by go_num, HA2, hB.trans (hb3.mono hB.size)⟩
      case measure => simp [intOf]; omega
    · have hfin : A = strN (encTs L) := by rw [hAe.out, List.take_of_length_le (by omega)]; rfl
      have HF := Lib.hid hfin
      clear hfin hAe
      go_wp2
      go_ret2
      exact ⟨by rw [← HF.out]; rfl, hB⟩

set_option maxHeartbeats 2000000 in
theorem refGetTexts_err (s : ByteArray) (x k : Nat) (er : Int) (h : getL 12 13 6 0 0 (nats s) = (x, k, er)) (he : er ≠ 0) (w : World) :
    Calls Try.prog 40 #[.string s] w fun e w' => ∃ v', e = .returned (.tuple #[v', .int .i64 0, .int .i64 er]) ∧ IsStrs w' v' [] ∧ Below w.heap.size w w' := by
  have q1 : (er == 0) = false := by simpa using he
  have q2 : (er != 0) = true := by simpa using he
  have H := Lib.hid h
  clear h he
  go_enter Try.func40, Try.ntmps40
  go_wp2_with fail
  ((with_reducible refine (refGetInt_any s x k _ H.out _).mono ?_); rintro e w1 ⟨rfl, hb1⟩)
  go_wp2
  go_ret3
  exact ⟨_, rfl, isStrs_nil _, hb1⟩
set_option maxHeartbeats 2000000 in
theorem refGetTexts_much (s : ByteArray) (x k : Nat) (h : getL 12 13 6 0 0 (nats s) = (x, k, 0)) (hx : 1000 < x) (w : World) :
    Calls Try.prog 40 #[.string s] w fun e w' => ∃ v', e = .returned (.tuple #[v', .int .i64 0, .int .i64 13]) ∧ IsStrs w' v' [] ∧ Below w.heap.size w w' := by
  have hx' : (1000 : Int) < x := by omega
  have H := Lib.hid h
  clear h
  go_enter Try.func40, Try.ntmps40
  go_wp2_with fail
  ((with_reducible refine (refGetInt_any s x k _ H.out _).mono ?_); rintro e w1 ⟨rfl, hb1⟩)
  go_wp2
  go_ret3
  exact ⟨_, rfl, isStrs_nil _, hb1⟩

set_option maxRecDepth 100000 in
set_option maxHeartbeats 4000000 in
theorem refGetTexts_more (s : ByteArray) (hs : s.size ≤ maxLen) (x k : Nat) (h : getL 12 13 6 0 0 (nats s) = (x, k, 0)) (hx : x ≤ 1000) (R : List ByteArray) (n : Nat) (er : Int) (hr : onT [] k (repT x (s.extract k s.size)) = (R, n, er)) (w : World) :
    Calls Try.prog 40 #[.string s] w fun e w' => ∃ v', e = .returned (.tuple #[v', .int .i64 n, .int .i64 er]) ∧ IsStrs w' v' R ∧ Below w.heap.size w w' := by
  have hx' : ¬ (1000 : Int) < x := by omega
  obtain ⟨f1, f2, f3, f4, f5, f6⟩ := getL_fits s x k h
  obtain ⟨i0, hi, hz0, hz1, hz2⟩ := info_parts info9
  have HS := Lib.hid hs
  have H := Lib.hid h
  have HR := Lib.hid hr
  unfold maxLen at hs
  clear h hr f5 f6
  go_enter Try.func40, Try.ntmps40
  go_wp2_with fail
  ((with_reducible refine (refGetInt_any s x k _ H.out _).mono ?_); rintro e w1 ⟨rfl, hb1⟩)
  have row0 : (w1.alloc (.cells #[] 9)).ownsRow w.heap.size 9 1 (.slice (some ⟨w1.heap.size, 0, none⟩) 0 0) 0 [] := World.ownsRow_made w1 #[] 0 hb1.size (Nat.zero_le _) rfl
  have B0 := hb1.alloc hb1.size (.cells #[] 9)
  go_wp2
  go_loopw [6, 8, 9] (fun s6 s8 s9 wr => ∃ (j a : Nat) (P : List ByteArray) (v' : Value), j ≤ x ∧ a ≤ s.size ∧ s8 = v' ∧ s6 = .int .i64 a ∧ s9 = .int .i64 j ∧ Hid (P.length = j) ∧ Hid (onT P a (repT (x - j) (s.extract a s.size)) = (R, n, er)) ∧
      wr.ownsRow w.heap.size 9 1 v' j (strCellsL P) ∧ Below w.heap.size w wr) (fun _ _ s9 _ => x - (intOf s9).toNat)
  case atStart => exact ⟨0, k, [], _, Nat.zero_le _, f3, rfl, rfl, rfl, rfl, HR.out, row0, B0⟩
  case round =>
    obtain ⟨j, a, P, v', hj, ha, rfl, rfl, rfl, hP, hO, hrow, hB⟩ := hrel
    by_cases hlt : j < x
    · have hO' : onT P a (repT (x - j) (s.extract a s.size)) = (R, n, er) := hO
      rw [show x - j = (x - (j + 1)) + 1 by omega] at hO'
      have hts : (s.extract a s.size).size ≤ maxLen := by rw [ByteArray.size_extract]; have := HS.out; omega
      have hts2 : (s.extract a s.size).size = s.size - a := by rw [ByteArray.size_extract]; omega
      rcases hg : getT (s.extract a s.size) with ⟨y, m, e⟩
      by_cases he : e = 0
      · subst he
        have hfit := getT_fits (s.extract a s.size) (by rw [hg])
        rw [hg] at hfit
        have hfit2 : 1 ≤ m ∧ m ≤ (s.extract a s.size).size := ⟨hfit.1, hfit.2.1⟩
        rw [on_step P a _ _ y m hg, extract_extract' s a m ha] at hO'
        have HG := Lib.hid hg
        have HO := Lib.hid hO'
        have HT := Lib.hid hts
        have hk : a + m ≤ s.size := by have := hfit2.2; omega
        clear hO hO' hts hts2 hfit hfit2 hg
        go_wp2_with fail
        ((with_reducible refine (refGetText_any _ HT.out y m 0 HG.out _).mono ?_); rintro e w2 ⟨rfl, hb2⟩)
        have hrow2 := own_kept hrow hb2
        have hB2 := hB.trans (hb2.mono hB.size)
        go_wp2_with (at_builtin; refine wpList_append_own _ rfl _ _ 22 rfl w.heap.size 9 i0 (.string ByteArray.empty) 1 16 Try.underlying22 hi hz0 hz1 hz2 rfl (by decide) _ _ _ rfl (hrow2.alloc _) ⟨w2.heap.size, 0, none⟩ 1 1 [.string y] rfl rfl (cell_one_new _ _ _) (by intro u hu; simp at hu; subst hu; rfl) (by unfold maxLen; omega) (by omega) (by have := hB2.size; simp; omega) ?_; intro v2 w3 hown' hgrow _; obtain ⟨g', cap', rfl⟩ := ownsRow_succ hown'; have hB3 := (hB2.alloc hB2.size _).grown hgrow (by have := hB2.size; simp; omega) (fun k hk => (hrow2.lt k hk).1); have hown3 := Lib.hid hown'; clear hgrow hown')
        go_roundw
        case rel =>
          refine ⟨j + 1, a + m, P ++ [y], _, by omega, hk, rfl, by simp, by go_num, Lib.hid (by rw [List.length_append, hP.out]; rfl), HO.out, ?_, hB3⟩
          simpa [strCellsL] using hown3.out
        case measure => simp [intOf]; omega
      · rw [on_err P a _ _ y m e hg he] at hO'
        simp only [Prod.mk.injEq] at hO'
        obtain ⟨rfl, rfl, rfl⟩ := hO'
        have HG := Lib.hid hg
        have HT := Lib.hid hts
        have q1 : (e == 0) = false := by simpa using he
        have q2 : (e != 0) = true := by simpa using he
        clear hO hts hts2 hg he
        go_wp2_with fail
        ((with_reducible refine (refGetText_any _ HT.out y m e HG.out _).mono ?_); rintro e2 w2 ⟨rfl, hb2⟩)
        go_wp2
        go_ret3
        exact ⟨_, rfl, isStrs_nil _, hB.trans (hb2.mono hB.size)⟩
    · have hO' : onT P a (repT (x - j) (s.extract a s.size)) = (R, n, er) := hO
      rw [show x - j = 0 by omega, repT] at hO'
      simp [onT] at hO'
      obtain ⟨rfl, hn, rfl⟩ := hO'
      have HN := Lib.hid hn
      have HR2 := Lib.hid hrow
      clear hO hn hrow
      go_wp2
      go_ret3
      exact ⟨_, by rw [← HN.out]; rfl, own_strs (by rw [hP.out]; exact HR2.out), hB⟩

theorem refGetTexts_any (s : ByteArray) (hs : s.size ≤ maxLen) (R : List ByteArray) (n : Nat) (er : Int) (h : getTs s = (R, n, er)) (w : World) :
    Calls Try.prog 40 #[.string s] w fun e w' => ∃ v', e = .returned (.tuple #[v', .int .i64 n, .int .i64 er]) ∧ IsStrs w' v' R ∧ Below w.heap.size w w' := by
  unfold getTs at h
  rcases hg : getL 12 13 6 0 0 (nats s) with ⟨x, k, e⟩
  rw [hg] at h
  by_cases h1 : e = 0
  · subst h1
    rw [if_neg (by simp)] at h
    by_cases h2 : 1000 < x
    · rw [if_pos h2] at h
      simp only [Prod.mk.injEq] at h
      obtain ⟨rfl, rfl, rfl⟩ := h
      exact refGetTexts_much s x k hg h2 w
    · rw [if_neg h2] at h
      exact refGetTexts_more s hs x k hg (by omega) R n er h w
  · rw [if_pos h1] at h
    simp only [Prod.mk.injEq] at h
    obtain ⟨rfl, rfl, rfl⟩ := h
    exact refGetTexts_err s x k e hg h1 w
end Go.Proofs.Ytgnkfikihjjpeaa.Cd
