/- Plain mathematics: what was put can be got again; beginnings are too short; what can be got is what was put. -/
import Derived.Test.YtiaahjoldahlnaaCdText
namespace Go.Proofs.Ytiaahjoldahlnaa.Cd

theorem nats_extract (s : ByteArray) (a b : Nat) : nats (s.extract a b) = ((nats s).take b).drop a := by
  simp only [nats, ByteArray.data_extract, Array.toList_extract, List.map_drop, List.map_take, List.extract_eq_take_drop, List.drop_take]
theorem nats_strN' (l : List Nat) (h : ∀ d ∈ l, d < 256) (r : ByteArray) : nats (strN l ++ r) = l ++ nats r := by rw [nats_append, nats_strN l h]

theorem enc6 (m : Nat) (hm : m ≤ 1099511627776) : (enc7 m).length ≤ 6 := (enc7_len m 6 (by omega)).2 (by omega)
/-- Numbers. -/
theorem back_int (m : Nat) (hm : m ≤ 1099511627776) (l : List Nat) : getL 12 13 6 0 0 (enc7 m ++ l) = (m, (enc7 m).length, 0) := by
  rw [getL_enc 12 13 m 0 0 l 6 (enc6 m hm) (by omega) (by simpa using hm)]; simp
theorem short_int (m k : Nat) (hm : m ≤ 1099511627776) (hk : k < (enc7 m).length) : getL 12 13 6 0 0 ((enc7 m).take k) = (0, 0, 12) := getL_short 12 13 m k 0 0 6 (enc6 m hm) hk

/-- Texts. -/
theorem getT_of (s t : ByteArray) (l : List Nat) (ht : t.size ≤ 65536) (h : nats s = encT t ++ l) : getT s = (t, (encT t).length, 0) := by
  have hg : getL 12 13 6 0 0 (nats s) = (t.size, (enc7 t.size).length, 0) := by rw [h, encT, List.append_assoc]; exact back_int _ (by omega) _
  have hs : s.size = (enc7 t.size).length + t.size + l.length := by rw [← nats_length, h, encT, List.length_append, List.length_append, nats_length]
  unfold getT
  rw [hg]
  simp only
  rw [if_neg (by simp), if_neg (by omega), if_neg (by omega)]
  have e : s.extract (enc7 t.size).length ((enc7 t.size).length + t.size) = t := by
    apply nats_inj
    rw [nats_extract, h, encT]
    rw [List.append_assoc, List.take_append, List.drop_append]
    simp [nats_length]
  rw [e, encT, List.length_append, nats_length]
theorem encT_pos (t : ByteArray) : 0 < (encT t).length := by have := enc7_pos t.size; rw [encT, List.length_append]; omega
theorem short_T (s t : ByteArray) (k : Nat) (ht : t.size ≤ 65536) (h : nats s = (encT t).take k) (hk : k < (encT t).length) : getT s = (⟨#[]⟩, 0, 12) := by
  unfold getT
  by_cases h1 : k < (enc7 t.size).length
  · have hg : getL 12 13 6 0 0 (nats s) = (0, 0, 12) := by
      rw [h, encT, List.take_append_of_le_length (by omega)]
      exact short_int _ _ (by omega) h1
    rw [hg]; simp
  · have hg : getL 12 13 6 0 0 (nats s) = (t.size, (enc7 t.size).length, 0) := by
      rw [h, encT, List.take_append, List.take_of_length_le (by omega)]
      exact back_int _ (by omega) _
    have hs : s.size = k := by rw [← nats_length, h, List.length_take]; omega
    have hl : (encT t).length = (enc7 t.size).length + t.size := by rw [encT, List.length_append, nats_length]
    rw [hg]
    simp only
    rw [if_neg (by simp), if_neg (by omega), if_pos (by omega)]
theorem canon_T (s t : ByteArray) (n : Nat) (h : getT s = (t, n, 0)) : nats (s.extract 0 n) = encT t ∧ 1 ≤ n ∧ n ≤ s.size ∧ t.size ≤ 65536 ∧ t.size ≤ s.size := by
  have hf := getT_fits s (by rw [h])
  rw [h] at hf
  refine ⟨?_, hf.1, hf.2.1, hf.2.2.1, hf.2.2.2⟩
  rcases hg : getL 12 13 6 0 0 (nats s) with ⟨x, k, e⟩
  unfold getT at h
  rw [hg] at h
  by_cases h1 : e = 0
  · subst h1
    obtain ⟨f1, f2, f3, f4, f5, f6⟩ := getL_fits s x k hg
    rw [if_neg (by simp)] at h
    by_cases h2 : 65536 < x
    · rw [if_pos h2] at h; simp at h
    · rw [if_neg h2] at h
      by_cases h3 : s.size < k + x
      · rw [if_pos h3] at h; simp at h
      · rw [if_neg h3] at h
        simp only [Prod.mk.injEq] at h
        obtain ⟨rfl, rfl, _⟩ := h
        have hx : (s.extract k (k + x)).size = x := by rw [ByteArray.size_extract]; omega
        rw [encT, hx, nats_extract, nats_extract, List.drop_zero]
        obtain ⟨r, hr⟩ := f6
        rw [← hr, ← f5]
        have e := List.take_of_length_le (show (enc7 x).length ≤ (enc7 x).length + x by omega)
        rw [List.take_append, List.drop_append, e]
        simp
  · rw [if_pos h1] at h
    simp only [Prod.mk.injEq] at h
    exact absurd h.2.2 h1
end Go.Proofs.Ytiaahjoldahlnaa.Cd
