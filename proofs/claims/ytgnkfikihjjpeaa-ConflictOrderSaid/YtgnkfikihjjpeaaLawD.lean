/- Decoding and encoding sums: the laws' walks, at this translation. -/
import Derived.Test.YtgnkfikihjjpeaaDec
import Derived.Test.YtgnkfikihjjpeaaUn
import Derived.Test.YtgnkfikihjjpeaaGreat
namespace Go.Proofs.Ytgnkfikihjjpeaa
open Go.RowKit Go.Great Go.Maps
open Cd (encTs getTs strN nats encT)

theorem encTs_byte (L : List BA) : ∀ d ∈ encTs L, d < 256 := by
  intro d hd
  rcases List.mem_append.1 hd with hd | hd
  · exact Cd.enc7_byte _ d hd
  · obtain ⟨x, _, hx⟩ := List.mem_flatMap.1 hd
    exact Cd.encT_byte x d hx
theorem nats_encS (S : Sm) : nats (encS S) = encTs S.A ++ encTs S.R := by
  unfold encS
  rw [Cd.nats_strN' _ (encTs_byte _), Cd.nats_strN _ (encTs_byte _)]
/-- What was encoded is read again. -/
theorem dec_enc {S : Sm} (h : Ok S) : dec (encS S) = some S := by
  have hr : S.R.length ≤ 1000 := by have := h.l; have := h.m; omega
  have e1 := Cd.getTs_of S.A h.a h.m (encS S) (encTs S.R) (nats_encS S)
  have hsz : (encS S).size = (encTs S.A).length + (encTs S.R).length := by rw [← Cd.nats_length, nats_encS, List.length_append]
  have e2 := Cd.getTs_of S.R h.r hr ((encS S).extract (encTs S.A).length (encS S).size) [] (by
    rw [Cd.nats_extract, List.take_of_length_le (by rw [Cd.nats_length]; omega), nats_encS, List.drop_left, List.append_nil])
  unfold dec
  rw [e1]
  simp only [ne_eq, not_true_eq_false, if_false]
  rw [e2]
  simp only [not_true_eq_false, if_false]
  rw [if_neg (by rw [hsz]; simp), if_neg (by simpa using (chk_ok S).2 h)]
/-- What can be read is an encoding of a valid sum. -/
theorem dec_canon {t : BA} {S : Sm} (h : dec t = some S) : Ok S ∧ encS S = t := by
  rcases h1 : getTs t with ⟨L1, n1, e1⟩
  unfold dec at h
  rw [h1] at h
  by_cases k1 : e1 = 0
  · subst k1
    rw [if_neg (by simp)] at h
    simp only at h
    rcases h2 : getTs (t.extract n1 t.size) with ⟨L2, n2, e2⟩
    rw [h2] at h
    by_cases k2 : e2 = 0
    · subst k2
      rw [if_neg (by simp)] at h
      simp only at h
      by_cases k3 : n1 + n2 = t.size
      · rw [if_neg (by simpa using k3)] at h
        by_cases k4 : chk ⟨L1, L2⟩ = 0
        · rw [if_neg (by simpa using k4)] at h
          cases h
          refine ⟨(chk_ok _).1 k4, Cd.nats_inj ?_⟩
          have c1 := Cd.canon_Ts t L1 n1 h1
          have c2 := Cd.canon_Ts _ L2 n2 h2
          have z : (t.extract n1 t.size).size = n2 := by rw [ByteArray.size_extract]; omega
          have a1 := c1.1
          have a2 := c2.1
          rw [Cd.nats_extract, List.drop_zero] at a1
          rw [show n2 = (t.extract n1 t.size).size from z.symm, Cd.nats_extract, List.drop_zero, List.take_of_length_le (by rw [Cd.nats_length]; omega), Cd.nats_extract, List.take_of_length_le (by rw [Cd.nats_length]; omega)] at a2
          rw [nats_encS]
          show encTs L1 ++ encTs L2 = _
          rw [← a1, ← a2, List.take_append_drop]
        · rw [if_pos k4] at h; cases h
      · rw [if_pos k3] at h; cases h
    · rw [if_pos k2] at h; cases h
  · rw [if_pos k1] at h; cases h

set_option maxRecDepth 100000 in
set_option maxHeartbeats 4000000 in
theorem lawd_long (t : BA) (ht : t.size ≤ maxLen) (hl : 300 < t.size) (w : World) :
    Calls Try.prog 5 #[.string t] w fun e w' => e = .returned (.bool true) ∧ Below w.heap.size w w' := by
  unfold maxLen at ht
  go_enter Try.func5, Try.ntmps5
  go_wp2_with ((with_reducible refine (awake_any _).mono ?_); rintro e wz ⟨rfl, hd⟩)
  go_ret
  exact ⟨rfl, hd⟩

set_option maxRecDepth 100000 in
set_option maxHeartbeats 4000000 in
theorem lawd_none (t : BA) (ht : t.size ≤ maxLen) (hl : ¬ 300 < t.size) (ho : dec t = none) (w : World) :
    Calls Try.prog 5 #[.string t] w fun e w' => e = .returned (.bool true) ∧ Below w.heap.size w w' := by
  have HT := Lib.hid ht
  unfold maxLen at ht
  have HO := Lib.hid ho
  obtain ⟨Z, hZ⟩ : ∃ Z : Sm, Z = ⟨[], []⟩ := ⟨_, rfl⟩
  have HZ := Lib.hid hZ
  have zr : Z.R.length ≤ 1000000 := by rw [hZ]; simp
  have hdn : ∀ {va vr : Value} {W : World}, IsSum W va vr (Option.getD none ⟨[], []⟩) → IsSum W va vr Z := fun h => by rw [HZ.out]; exact h
  clear hZ
  have CD : Hid (∀ W, Calls Try.prog 25 #[.string t] W fun e w' => ∃ va vr, e = .returned (.tuple #[sv va vr, .int .i64 13]) ∧ IsSum w' va vr Z ∧ Below W.heap.size W w') := Lib.hid fun W => (dec_any t HT.out none HO.out W).mono (by rintro e w1 ⟨va, vr, rfl, hs, hb⟩; exact ⟨va, vr, rfl, hdn hs, hb⟩)
  have CR : Hid (∀ W, Calls Try.prog 26 #[.string t] W fun e w' => ∃ va vr, e = .returned (.tuple #[sv va vr, .int .i64 13]) ∧ IsSum w' va vr Z ∧ Below W.heap.size W w') := Lib.hid fun W => (refDec_any t HT.out none HO.out W).mono (by rintro e w1 ⟨va, vr, rfl, hs, hb⟩; exact ⟨va, vr, rfl, hdn hs, hb⟩)
  clear ho hdn
  go_enter Try.func5, Try.ntmps5
  go_upto_region 3 with fail
  go_wp2_with fail
  ((with_reducible refine (CD.out _).mono ?_); rintro e wa ⟨va, vr, rfl, hs, hd⟩)
  obtain ⟨u1, u2, u3, u4, rfl, rfl, -, -⟩ := hs.parts
  have hU := Un.new (bx := []) (w := w) ⟨hd, by simp⟩ hs
  clear hs hd
  go_upto_region 4 with fail
  go_wp2_with fail
  ((with_reducible refine (CR.out _).mono ?_); rintro e wc ⟨va, vr, rfl, hs, hd⟩)
  obtain ⟨u5, u6, u7, u8, rfl, rfl, -, -⟩ := hs.parts
  have hU := (hU.on hd).new hs
  clear hs hd
  go_upto_region 5 with fail
  have x0 := hU.x _ (List.mem_cons_self ..)
  have x1 := hU.x _ (List.mem_cons_of_mem _ (List.mem_cons_self ..))
  have c0 := x0.1.c0
  have c1 := x0.1.c1
  have c2 := x1.1.c0
  have c3 := x1.1.c1
  go_wp2_with fail
  ((with_reducible refine (same_any Z Z _ _ _ _ _ x1.2 x0.2 true (eqS_iff.2 rfl)).mono ?_); rintro e wg ⟨rfl, hd⟩)
  have hU := hU.on hd
  clear c0 c1 c2 c3 x0 x1 hd
  go_upto_region 7 with fail
  have x0 := hU.x _ (List.mem_cons_of_mem _ (List.mem_cons_self ..))
  have c0 := x0.1.c0
  have c1 := x0.1.c1
  go_wp2_with fail
  ((with_reducible refine (enc_err Z _ _ _ x0.2 zr 11 (by rw [HZ.out]; simp [chk]) (by omega)).mono ?_); rintro e wh ⟨rfl, hd⟩)
  have hU := hU.on hd
  clear c0 c1 x0 hd
  go_wp2_with ((with_reducible refine (awake_any _).mono ?_); rintro e wz ⟨rfl, hd⟩)
  have hU := hU.on hd
  go_ret
  exact ⟨rfl, hU.b⟩

set_option maxRecDepth 100000 in
set_option maxHeartbeats 4000000 in
theorem lawd_some (t : BA) (ht : t.size ≤ maxLen) (hl : ¬ 300 < t.size) (S : Sm) (ho : dec t = some S) (w : World) :
    Calls Try.prog 5 #[.string t] w fun e w' => e = .returned (.bool true) ∧ Below w.heap.size w w' := by
  have HT := Lib.hid ht
  unfold maxLen at ht
  have HO := Lib.hid ho
  have HC := Lib.hid (dec_canon ho)
  have st := str_self t
  have CD : Hid (∀ W, Calls Try.prog 25 #[.string t] W fun e w' => ∃ va vr, e = .returned (.tuple #[sv va vr, .int .i64 0]) ∧ IsSum w' va vr S ∧ Below W.heap.size W w') := Lib.hid fun W => dec_any t HT.out (some S) HO.out W
  have CR : Hid (∀ W, Calls Try.prog 26 #[.string t] W fun e w' => ∃ va vr, e = .returned (.tuple #[sv va vr, .int .i64 0]) ∧ IsSum w' va vr S ∧ Below W.heap.size W w') := Lib.hid fun W => refDec_any t HT.out (some S) HO.out W
  clear ho
  go_enter Try.func5, Try.ntmps5
  go_upto_region 3 with fail
  go_wp2_with fail
  ((with_reducible refine (CD.out _).mono ?_); rintro e wa ⟨va, vr, rfl, hs, hd⟩)
  obtain ⟨u1, u2, u3, u4, rfl, rfl, -, -⟩ := hs.parts
  have hU := Un.new (bx := []) (w := w) ⟨hd, by simp⟩ hs
  clear hs hd
  go_upto_region 4 with fail
  go_wp2_with fail
  ((with_reducible refine (CR.out _).mono ?_); rintro e wc ⟨va, vr, rfl, hs, hd⟩)
  obtain ⟨u5, u6, u7, u8, rfl, rfl, -, -⟩ := hs.parts
  have hU := (hU.on hd).new hs
  clear hs hd
  go_upto_region 5 with fail
  have x0 := hU.x _ (List.mem_cons_self ..)
  have x1 := hU.x _ (List.mem_cons_of_mem _ (List.mem_cons_self ..))
  have c0 := x0.1.c0
  have c1 := x0.1.c1
  have c2 := x1.1.c0
  have c3 := x1.1.c1
  go_wp2_with fail
  ((with_reducible refine (same_any S S _ _ _ _ _ x1.2 x0.2 true (eqS_iff.2 rfl)).mono ?_); rintro e wg ⟨rfl, hd⟩)
  have hU := hU.on hd
  clear c0 c1 c2 c3 x0 x1 hd
  go_upto_region 7 with fail
  have x0 := hU.x _ (List.mem_cons_of_mem _ (List.mem_cons_self ..))
  have c0 := x0.1.c0
  have c1 := x0.1.c1
  go_wp2_with fail
  ((with_reducible refine (enc_ok S _ _ _ x0.2 HC.out.1).mono ?_); rintro e wh ⟨rfl, hd⟩)
  rw [HC.out.2]
  have hU := hU.on hd
  clear c0 c1 x0 hd
  go_wp2_with ((with_reducible refine (awake_any _).mono ?_); rintro e wz ⟨rfl, hd⟩)
  have hU := hU.on hd
  go_ret
  exact ⟨rfl, hU.b⟩

theorem lawd_any (t : BA) (ht : t.size ≤ maxLen) (w : World) : Calls Try.prog 5 #[.string t] w fun e w' => e = .returned (.bool true) ∧ Below w.heap.size w w' := by
  by_cases hl : 300 < t.size
  · exact lawd_long t ht hl w
  · rcases ho : dec t with _ | S
    · exact lawd_none t ht hl ho w
    · exact lawd_some t ht hl S ho w
end Go.Proofs.Ytgnkfikihjjpeaa
