/- Plain mathematics: what was put can be got again; beginnings are too short; what can be got is what was put. -/
import Derived.Test.YtgnkfikihjjpeaaCdLists
namespace Go.Proofs.Ytgnkfikihjjpeaa.Cd

theorem nats_extract (s : ByteArray) (a b : Nat) : nats (s.extract a b) = ((nats s).take b).drop a := by
  simp only [nats, ByteArray.data_extract, Array.toList_extract, List.map_drop, List.map_take, List.extract_eq_take_drop, List.drop_take]
theorem nats_strN' (l : List Nat) (h : ∀ d ∈ l, d < 256) (r : ByteArray) : nats (strN l ++ r) = l ++ nats r := by rw [nats_append, nats_strN l h]

theorem enc6 (m : Nat) (hm : m ≤ 1099511627776) : (enc7 m).length ≤ 6 := (enc7_len m 6 (by omega)).2 (by omega)
/-- Numbers. -/
theorem back_int (m : Nat) (hm : m ≤ 1099511627776) (l : List Nat) : getL 12 13 6 0 0 (enc7 m ++ l) = (m, (enc7 m).length, 0) := by
  rw [getL_enc 12 13 m 0 0 l 6 (enc6 m hm) (by omega) (by simpa using hm)]; simp
theorem short_int (m k : Nat) (hm : m ≤ 1099511627776) (hk : k < (enc7 m).length) : getL 12 13 6 0 0 ((enc7 m).take k) = (0, 0, 12) := getL_short 12 13 m k 0 0 6 (enc6 m hm) hk

/-- Texts. -/
theorem getT_of (s t : ByteArray) (l : List Nat) (ht : t.size ≤ 65536) (h : nats s = encT t ++ l) : getT s = (t, (encT t).length, 0) := by
  have hg : getL 12 13 6 0 0 (nats s) = (t.size, (enc7 t.size).length, 0) := by rw [h, encT, List.append_assoc]; exact back_int _ (by omega) _
  have hs : s.size = (enc7 t.size).length + t.size + l.length := by rw [← nats_length, h, encT, List.length_append, List.length_append, nats_length]
  unfold getT
  rw [hg]
  simp only
  rw [if_neg (by simp), if_neg (by omega), if_neg (by omega)]
  have e : s.extract (enc7 t.size).length ((enc7 t.size).length + t.size) = t := by
    apply nats_inj
    rw [nats_extract, h, encT]
    rw [List.append_assoc, List.take_append, List.drop_append]
    simp [nats_length]
  rw [e, encT, List.length_append, nats_length]
theorem encT_pos (t : ByteArray) : 0 < (encT t).length := by have := enc7_pos t.size; rw [encT, List.length_append]; omega
theorem short_T (s t : ByteArray) (k : Nat) (ht : t.size ≤ 65536) (h : nats s = (encT t).take k) (hk : k < (encT t).length) : getT s = (⟨#[]⟩, 0, 12) := by
  unfold getT
  by_cases h1 : k < (enc7 t.size).length
  · have hg : getL 12 13 6 0 0 (nats s) = (0, 0, 12) := by
      rw [h, encT, List.take_append_of_le_length (by omega)]
      exact short_int _ _ (by omega) h1
    rw [hg]; simp
  · have hg : getL 12 13 6 0 0 (nats s) = (t.size, (enc7 t.size).length, 0) := by
      rw [h, encT, List.take_append, List.take_of_length_le (by omega)]
      exact back_int _ (by omega) _
    have hs : s.size = k := by rw [← nats_length, h, List.length_take]; omega
    have hl : (encT t).length = (enc7 t.size).length + t.size := by rw [encT, List.length_append, nats_length]
    rw [hg]
    simp only
    rw [if_neg (by simp), if_neg (by omega), if_pos (by omega)]
theorem canon_T (s t : ByteArray) (n : Nat) (h : getT s = (t, n, 0)) : nats (s.extract 0 n) = encT t ∧ 1 ≤ n ∧ n ≤ s.size ∧ t.size ≤ 65536 ∧ t.size ≤ s.size := by
  have hf := getT_fits s (by rw [h])
  rw [h] at hf
  refine ⟨?_, hf.1, hf.2.1, hf.2.2.1, hf.2.2.2⟩
  rcases hg : getL 12 13 6 0 0 (nats s) with ⟨x, k, e⟩
  unfold getT at h
  rw [hg] at h
  by_cases h1 : e = 0
  · subst h1
    obtain ⟨f1, f2, f3, f4, f5, f6⟩ := getL_fits s x k hg
    rw [if_neg (by simp)] at h
    by_cases h2 : 65536 < x
    · rw [if_pos h2] at h; simp at h
    · rw [if_neg h2] at h
      by_cases h3 : s.size < k + x
      · rw [if_pos h3] at h; simp at h
      · rw [if_neg h3] at h
        simp only [Prod.mk.injEq] at h
        obtain ⟨rfl, rfl, _⟩ := h
        have hx : (s.extract k (k + x)).size = x := by rw [ByteArray.size_extract]; omega
        rw [encT, hx, nats_extract, nats_extract, List.drop_zero]
        obtain ⟨r, hr⟩ := f6
        rw [← hr, ← f5]
        have e := List.take_of_length_le (show (enc7 x).length ≤ (enc7 x).length + x by omega)
        rw [List.take_append, List.drop_append, e]
        simp
  · rw [if_pos h1] at h
    simp only [Prod.mk.injEq] at h
    exact absurd h.2.2 h1

/-- Lists of texts. -/
theorem repT_of (L : List ByteArray) (hL : ∀ t ∈ L, t.size ≤ 65536) (s : ByteArray) (l : List Nat) (h : nats s = L.flatMap encT ++ l) : repT L.length s = (L, (L.flatMap encT).length, 0) := by
  induction L generalizing s with
  | nil => simp [repT]
  | cons t L ih =>
    have hg : getT s = (t, (encT t).length, 0) := getT_of s t (L.flatMap encT ++ l) (hL t (by simp)) (by rw [h]; simp)
    have hr := ih (fun u hu => hL u (by simp [hu])) (s.extract (encT t).length s.size) (by
      rw [nats_extract, List.take_of_length_le (by rw [nats_length]; omega), h]; simp)
    rw [List.length_cons, repT, hg]
    simp [hr]
theorem short_rep (L : List ByteArray) (hL : ∀ t ∈ L, t.size ≤ 65536) (s : ByteArray) (k : Nat) (h : nats s = (L.flatMap encT).take k) (hk : k < (L.flatMap encT).length) : repT L.length s = ([], 0, 12) := by
  induction L generalizing s k with
  | nil => simp at hk
  | cons t L ih =>
    rw [List.flatMap_cons] at h hk
    by_cases h1 : k < (encT t).length
    · have hg := short_T s t k (hL t (by simp)) (by rw [h, List.take_append_of_le_length (by omega)]) h1
      rw [List.length_cons, repT, hg]; simp
    · have hg : getT s = (t, (encT t).length, 0) := getT_of s t _ (hL t (by simp)) (by rw [h, List.take_append, List.take_of_length_le (by omega)])
      have hr := ih (fun u hu => hL u (by simp [hu])) (s.extract (encT t).length s.size) (k - (encT t).length) (by
        rw [nats_extract, List.take_of_length_le (by rw [nats_length]; omega), h, List.take_append, List.take_of_length_le (by omega : (encT t).length ≤ k)]
        simp) (by rw [List.length_append] at hk; omega)
      rw [List.length_cons, repT, hg]
      simp [hr]
theorem canon_rep : ∀ (c : Nat) (s : ByteArray) (R : List ByteArray) (n : Nat), repT c s = (R, n, 0) → nats (s.extract 0 n) = R.flatMap encT ∧ n ≤ s.size ∧ R.length = c ∧ ∀ t ∈ R, t.size ≤ 65536
  | 0, s, R, n, h => by
    simp [repT] at h
    obtain ⟨rfl, rfl⟩ := h
    refine ⟨?_, Nat.zero_le _, rfl, by simp⟩
    rw [nats_extract]; simp
  | c + 1, s, R, n, h => by
    rcases hg : getT s with ⟨t, k, e⟩
    rcases hr : repT c (s.extract k s.size) with ⟨l, m, e2⟩
    have e1 : repT (c + 1) s = if e ≠ 0 then ([], 0, e) else if e2 ≠ 0 then ([], 0, e2) else (t :: l, k + m, 0) := by
      rw [repT, hg]; simp only [hr]
    rw [e1] at h
    by_cases he : e = 0
    · subst he
      rw [if_neg (by simp)] at h
      by_cases he2 : e2 = 0
      · subst he2
        rw [if_neg (by simp)] at h
        simp only [Prod.mk.injEq] at h
        obtain ⟨rfl, rfl, _⟩ := h
        obtain ⟨a1, a2, a3, a4, a5⟩ := canon_T s t k hg
        obtain ⟨b1, b2, b3, b4⟩ := canon_rep c _ l m hr
        have hsz : (s.extract k s.size).size = s.size - k := by rw [ByteArray.size_extract]; omega
        rw [nats_extract, nats_extract, List.drop_zero, List.take_of_length_le (by rw [nats_length]; omega : (nats s).length ≤ s.size)] at b1
        rw [nats_extract, List.drop_zero] at a1
        refine ⟨?_, by omega, by simp [b3], ?_⟩
        · rw [nats_extract, List.drop_zero, List.flatMap_cons, ← a1, ← b1, List.take_add]
        · intro u hu
          rcases List.mem_cons.1 hu with rfl | hu
          · exact a4
          · exact b4 u hu
      · rw [if_pos he2] at h
        simp only [Prod.mk.injEq] at h
        exact absurd h.2.2 he2
    · rw [if_pos he] at h
      simp only [Prod.mk.injEq] at h
      exact absurd h.2.2 he
theorem getTs_of (L : List ByteArray) (hL : ∀ t ∈ L, t.size ≤ 65536) (h1000 : L.length ≤ 1000) (s : ByteArray) (l : List Nat) (h : nats s = encTs L ++ l) : getTs s = (L, (encTs L).length, 0) := by
  have hg : getL 12 13 6 0 0 (nats s) = (L.length, (enc7 L.length).length, 0) := by rw [h, encTs, List.append_assoc]; exact back_int _ (by omega) _
  have hr := repT_of L hL (s.extract (enc7 L.length).length s.size) l (by
    rw [nats_extract, List.take_of_length_le (by rw [nats_length]; omega), h, encTs]; simp)
  unfold getTs
  rw [hg]
  simp only
  rw [if_neg (by simp), if_neg (by omega), hr]
  simp [onT, encTs]
theorem short_Ts (L : List ByteArray) (hL : ∀ t ∈ L, t.size ≤ 65536) (h1000 : L.length ≤ 1000) (s : ByteArray) (k : Nat) (h : nats s = (encTs L).take k) (hk : k < (encTs L).length) : getTs s = ([], 0, 12) := by
  unfold getTs
  rw [encTs] at h hk
  by_cases h1 : k < (enc7 L.length).length
  · have hg : getL 12 13 6 0 0 (nats s) = (0, 0, 12) := by
      rw [h, List.take_append_of_le_length (by omega)]
      exact short_int _ _ (by omega) h1
    rw [hg]; simp
  · have hg : getL 12 13 6 0 0 (nats s) = (L.length, (enc7 L.length).length, 0) := by
      rw [h, List.take_append, List.take_of_length_le (by omega)]
      exact back_int _ (by omega) _
    have hr := short_rep L hL (s.extract (enc7 L.length).length s.size) (k - (enc7 L.length).length) (by
      rw [nats_extract, List.take_of_length_le (by rw [nats_length]; omega), h, List.take_append, List.take_of_length_le (by omega : (enc7 L.length).length ≤ k)]; simp) (by rw [List.length_append] at hk; omega)
    rw [hg]
    simp only
    rw [if_neg (by simp), if_neg (by omega), hr]
    simp [onT]
theorem canon_Ts (s : ByteArray) (R : List ByteArray) (n : Nat) (h : getTs s = (R, n, 0)) : nats (s.extract 0 n) = encTs R ∧ 1 ≤ n ∧ n ≤ s.size ∧ R.length ≤ 1000 ∧ ∀ t ∈ R, t.size ≤ 65536 := by
  rcases hg : getL 12 13 6 0 0 (nats s) with ⟨x, k, e⟩
  unfold getTs at h
  rw [hg] at h
  by_cases h1 : e = 0
  · subst h1
    obtain ⟨f1, f2, f3, f4, f5, f6⟩ := getL_fits s x k hg
    rw [if_neg (by simp)] at h
    by_cases h2 : 1000 < x
    · rw [if_pos h2] at h; simp at h
    · rw [if_neg h2] at h
      rcases hr : repT x (s.extract k s.size) with ⟨R2, m, e2⟩
      simp only [hr, onT] at h
      by_cases he2 : e2 = 0
      · subst he2
        simp at h
        obtain ⟨rfl, rfl⟩ := h
        obtain ⟨b1, b2, b3, b4⟩ := canon_rep x _ R2 m hr
        have hsz : (s.extract k s.size).size = s.size - k := by rw [ByteArray.size_extract]; omega
        rw [nats_extract, nats_extract, List.drop_zero, List.take_of_length_le (by rw [nats_length]; omega : (nats s).length ≤ s.size)] at b1
        refine ⟨?_, by omega, by omega, by omega, b4⟩
        rw [nats_extract, List.drop_zero, encTs, ← b1, b3, List.take_add]
        congr 1
        obtain ⟨r, hr2⟩ := f6
        rw [← hr2, ← f5]; simp
      · simp [he2] at h
  · rw [if_pos h1] at h
    simp only [Prod.mk.injEq] at h
    exact absurd h.2.2 h1
end Go.Proofs.Ytgnkfikihjjpeaa.Cd
