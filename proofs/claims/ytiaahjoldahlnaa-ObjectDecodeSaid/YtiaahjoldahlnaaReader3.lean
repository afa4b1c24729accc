/- parts.Reader's Int, Text, Count, Bool and Done, at this translation. -/
import Derived.Test.YtiaahjoldahlnaaReader2
namespace Go.Proofs.Ytiaahjoldahlnaa
open Go.RowKit Go.Great
attribute [local go_sem] eq_arr

theorem getL_err : ∀ (f i a : Nat) (l : List Nat), (Cd.getL 12 13 f i a l).2.2 ≠ 0 → (Cd.getL 12 13 f i a l).1 = 0 ∧ (Cd.getL 12 13 f i a l).2.1 = 0
  | 0, _, _, _, _ => ⟨rfl, rfl⟩
  | _ + 1, _, _, [], _ => ⟨rfl, rfl⟩
  | f + 1, i, a, d :: l, h => by
    unfold Cd.getL at h ⊢
    split at h
    · rename_i h1
      rw [if_pos h1]
      split at h
      · rename_i h2
        rw [if_pos h2]
        exact ⟨rfl, rfl⟩
      · exact absurd rfl h
    · rename_i h1
      rw [if_neg h1]
      exact getL_err f (i + 1) _ l h
theorem getT_err (s : BA) (h : (Cd.getT s).2.2 ≠ 0) : (Cd.getT s).1 = ⟨#[]⟩ ∧ (Cd.getT s).2.1 = 0 := by
  unfold Cd.getT at h ⊢
  split
  · exact ⟨rfl, rfl⟩
  · rename_i h1
    rw [if_neg h1] at h
    split
    · exact ⟨rfl, rfl⟩
    · rename_i h2
      rw [if_neg h2] at h
      split
      · exact ⟨rfl, rfl⟩
      · rename_i h3
        rw [if_neg h3] at h
        exact absurd rfl h
theorem rdY_bad : rdY 0 rdBad = (⟨#[]⟩, rdBad) := rfl
theorem rdY_of {k : Nat} {r : Rd} (h : k ≤ r.1.size) : rdY k r = (r.1.extract 0 k, (r.1.extract k r.1.size, r.2)) := by unfold rdY; rw [if_pos h]

set_option maxHeartbeats 2000000 in
theorem intR_any (N : Nat) (r : Rd) (w : World) (h : RdAt w N r) (hm : r.1.size ≤ maxLen) (v : Nat) (r' : Rd) (hv : rdI r = (v, r')) : Reads 32 #[.pointer (some ⟨N, 0, none⟩)] N w (.int .i64 v) r' := by
  rcases hg : Cd.getL 12 13 6 0 0 (Cd.nats r.1) with ⟨x, k, er⟩
  have G := Lib.hid (fun W => Cd.getInt_any r.1 x k er hg W)
  unfold rdI at hv
  rw [hg] at hv
  simp only at hv
  have hN := h.lt
  have c0 := h.c0
  by_cases he : er = 0
  · subst he
    obtain ⟨_, _, f3, _, _, _⟩ := Cd.getL_fits r.1 x k hg
    rw [if_pos rfl] at hv
    obtain ⟨rfl, rfl⟩ := Prod.mk.inj hv
    have hy := rdY_of f3
    have H := Lib.hid (fun W (hW : RdAt W N r) => bytes_any k N r W hW hm)
    rw [hy] at H
    unfold Reads at H ⊢
    simp only at H
    clear hg hv hy
    go_enter Try.func32, Try.ntmps32
    go_wp2_with fail
    ((with_reducible refine (G.out _).mono ?_); rintro e w1 ⟨rfl, hb1⟩)
    have h1 := h.on hb1
    have o1 := Only1.below hb1 hN
    clear h hb1 c0
    go_wp2_with fail
    ((with_reducible refine (H.out _ h1).mono ?_); rintro e w2 ⟨rfl, hr2, ho2⟩)
    have o2 := o1.trans ho2
    clear h1 o1 ho2
    go_wp2
    go_ret
    exact ⟨rfl, hr2, o2⟩
  · rw [if_neg he] at hv
    have z := getL_err 6 0 0 (Cd.nats r.1) (by rw [hg]; exact he)
    rw [hg] at z
    simp only at z
    obtain ⟨z1, z2⟩ := z
    obtain ⟨ev, rfl⟩ := Prod.mk.inj hv
    have exv : x = v := by rw [z1, ev]
    subst exv
    have H : Hid (∀ W, RdAt W N rdBad → Calls Try.prog 59 #[.pointer (some ⟨N, 0, none⟩), .int .i64 k] W fun e w' => e = .returned (.string ⟨#[]⟩) ∧ RdAt w' N rdBad ∧ Only1 N W w') := Lib.hid fun W hW => by
      subst z2
      exact bytes_any 0 N rdBad W hW (Nat.zero_le _)
    have hne : (er != 0) = true := by simpa using he
    have FF := Lib.hid (fun W (hW : RdAt W N r) => fail_any N r W hW)
    unfold Reads at FF ⊢
    clear hg hv ev he z1 z2
    go_enter Try.func32, Try.ntmps32
    go_wp2_with fail
    ((with_reducible refine (G.out _).mono ?_); rintro e w1 ⟨rfl, hb1⟩)
    have h1 := h.on hb1
    have o1 := Only1.below hb1 hN
    clear h hb1 c0
    go_wp2_with fail
    ((with_reducible refine (FF.out _ h1).mono ?_); rintro e w2 ⟨rfl, hr2, ho2⟩)
    have o2 := o1.trans ho2
    clear h1 o1 ho2
    go_wp2_with fail
    ((with_reducible refine (H.out _ hr2).mono ?_); rintro e w3 ⟨rfl, hr3, ho3⟩)
    have o3 := o2.trans ho3
    clear hr2 o2 ho3
    go_wp2
    go_ret
    exact ⟨rfl, hr3, o3⟩

set_option maxHeartbeats 2000000 in
theorem textR_any (N : Nat) (r : Rd) (w : World) (h : RdAt w N r) (hm : r.1.size ≤ maxLen) (v : BA) (r' : Rd) (hv : rdT r = (v, r')) : Reads 80 #[.pointer (some ⟨N, 0, none⟩)] N w (.string v) r' := by
  rcases hg : Cd.getT r.1 with ⟨x, k, er⟩
  have G := Lib.hid (fun W => Cd.getText_any r.1 hm x k er hg W)
  unfold rdT at hv
  rw [hg] at hv
  simp only at hv
  have hN := h.lt
  have c0 := h.c0
  by_cases he : er = 0
  · subst he
    obtain ⟨_, f3, _, _⟩ := Cd.getT_fits r.1 (by rw [hg])
    rw [hg] at f3
    simp only at f3
    rw [if_pos rfl] at hv
    obtain ⟨rfl, rfl⟩ := Prod.mk.inj hv
    have hy := rdY_of f3
    have H := Lib.hid (fun W (hW : RdAt W N r) => bytes_any k N r W hW hm)
    rw [hy] at H
    unfold Reads at H ⊢
    simp only at H
    clear hg hv hy
    go_enter Try.func80, Try.ntmps80
    go_wp2_with fail
    ((with_reducible refine (G.out _).mono ?_); rintro e w1 ⟨rfl, hb1⟩)
    have h1 := h.on hb1
    have o1 := Only1.below hb1 hN
    clear h hb1 c0
    go_wp2_with fail
    ((with_reducible refine (H.out _ h1).mono ?_); rintro e w2 ⟨rfl, hr2, ho2⟩)
    have o2 := o1.trans ho2
    clear h1 o1 ho2
    go_wp2
    go_ret
    exact ⟨rfl, hr2, o2⟩
  · rw [if_neg he] at hv
    have z := getT_err r.1 (by rw [hg]; exact he)
    rw [hg] at z
    simp only at z
    obtain ⟨z1, z2⟩ := z
    obtain ⟨ev, rfl⟩ := Prod.mk.inj hv
    have exv : x = v := by rw [z1, ev]
    subst exv
    have H : Hid (∀ W, RdAt W N rdBad → Calls Try.prog 59 #[.pointer (some ⟨N, 0, none⟩), .int .i64 k] W fun e w' => e = .returned (.string ⟨#[]⟩) ∧ RdAt w' N rdBad ∧ Only1 N W w') := Lib.hid fun W hW => by
      subst z2
      exact bytes_any 0 N rdBad W hW (Nat.zero_le _)
    have hne : (er != 0) = true := by simpa using he
    have FF := Lib.hid (fun W (hW : RdAt W N r) => fail_any N r W hW)
    unfold Reads at FF ⊢
    clear hg hv ev he z1 z2
    go_enter Try.func80, Try.ntmps80
    go_wp2_with fail
    ((with_reducible refine (G.out _).mono ?_); rintro e w1 ⟨rfl, hb1⟩)
    have h1 := h.on hb1
    have o1 := Only1.below hb1 hN
    clear h hb1 c0
    go_wp2_with fail
    ((with_reducible refine (FF.out _ h1).mono ?_); rintro e w2 ⟨rfl, hr2, ho2⟩)
    have o2 := o1.trans ho2
    clear h1 o1 ho2
    go_wp2_with fail
    ((with_reducible refine (H.out _ hr2).mono ?_); rintro e w3 ⟨rfl, hr3, ho3⟩)
    have o3 := o2.trans ho3
    clear hr2 o2 ho3
    go_wp2
    go_ret
    exact ⟨rfl, hr3, o3⟩

theorem rdI_le (r : Rd) (m : Nat) (h : r.1.size ≤ m) : (rdI r).2.1.size ≤ m := by
  unfold rdI
  split
  · simp only [ByteArray.size_extract]; omega
  · exact Nat.zero_le _
theorem rdT_le (r : Rd) (m : Nat) (h : r.1.size ≤ m) : (rdT r).2.1.size ≤ m := by
  unfold rdT
  split
  · simp only [ByteArray.size_extract]; omega
  · exact Nat.zero_le _
theorem rdI_val (r : Rd) : (rdI r).1 ≤ 1099511627776 := by
  unfold rdI
  split
  · rename_i h
    rcases hg : Cd.getL 12 13 6 0 0 (Cd.nats r.1) with ⟨x, k, er⟩
    rw [hg] at h
    simp only at h
    subst h
    exact (Cd.getL_fits r.1 x k hg).2.2.2.1
  · exact Nat.zero_le _

set_option maxHeartbeats 2000000 in
theorem countR_any (N : Nat) (r : Rd) (w : World) (h : RdAt w N r) (hm : r.1.size ≤ maxLen) (v : Nat) (r' : Rd) (hv : rdC r = (v, r')) : Reads 81 #[.pointer (some ⟨N, 0, none⟩)] N w (.int .i64 v) r' := by
  have hl := rdI_le r maxLen hm
  have hx := rdI_val r
  unfold rdC at hv
  rcases e1 : rdI r with ⟨x, r1⟩
  rw [e1] at hv hl hx
  simp only at hv hl hx
  unfold maxLen at hl
  have H := Lib.hid (intR_any N r w h hm x r1 e1)
  unfold Reads at H ⊢
  by_cases hc : r1.1.size < x
  · rw [if_pos hc] at hv
    obtain ⟨rfl, rfl⟩ := Prod.mk.inj hv
    have FF := Lib.hid (fun W (hW : RdAt W N r1) => fail_any N r1 W hW)
    unfold Reads at FF
    clear h hv e1
    go_enter Try.func81, Try.ntmps81
    go_wp2_with fail
    ((with_reducible refine H.out.mono ?_); rintro e w1 ⟨rfl, hr1, ho1⟩)
    have c0 := hr1.c0
    go_wp2_with fail
    ((with_reducible refine (FF.out _ hr1).mono ?_); rintro e w2 ⟨rfl, hr2, ho2⟩)
    have o2 := ho1.trans ho2
    clear hr1 ho1 ho2 c0
    go_wp2
    go_ret
    exact ⟨rfl, hr2, o2⟩
  · rw [if_neg hc] at hv
    obtain ⟨rfl, rfl⟩ := Prod.mk.inj hv
    clear h hv e1
    go_enter Try.func81, Try.ntmps81
    go_wp2_with fail
    ((with_reducible refine H.out.mono ?_); rintro e w1 ⟨rfl, hr1, ho1⟩)
    have c0 := hr1.c0
    go_wp2
    go_ret
    exact ⟨rfl, hr1, ho1⟩

set_option maxHeartbeats 2000000 in
theorem boolR_any (N : Nat) (r : Rd) (w : World) (h : RdAt w N r) (hm : r.1.size ≤ maxLen) (v : Bool) (r' : Rd) (hv : rdO r = (v, r')) : Reads 82 #[.pointer (some ⟨N, 0, none⟩)] N w (.bool v) r' := by
  have hx := rdI_val r
  unfold rdO at hv
  rcases e1 : rdI r with ⟨x, r1⟩
  rw [e1] at hv hx
  simp only at hv hx
  have H := Lib.hid (intR_any N r w h hm x r1 e1)
  unfold Reads at H ⊢
  by_cases hc : 1 < x
  · rw [if_pos hc] at hv
    obtain ⟨rfl, rfl⟩ := Prod.mk.inj hv
    have FF := Lib.hid (fun W (hW : RdAt W N r1) => fail_any N r1 W hW)
    have e9 : ((x : Int) == 1) = false := by simp; omega
    unfold Reads at FF
    clear h hv e1
    go_enter Try.func82, Try.ntmps82
    go_wp2_with fail
    ((with_reducible refine H.out.mono ?_); rintro e w1 ⟨rfl, hr1, ho1⟩)
    go_wp2_with fail
    ((with_reducible refine (FF.out _ hr1).mono ?_); rintro e w2 ⟨rfl, hr2, ho2⟩)
    have o2 := ho1.trans ho2
    clear hr1 ho1 ho2
    go_wp2
    go_ret
    exact ⟨rfl, hr2, o2⟩
  · rw [if_neg hc] at hv
    obtain ⟨ev, rfl⟩ := Prod.mk.inj hv
    have e9 : ((x : Int) == 1) = v := by
      rw [← ev]
      by_cases h1 : x = 1
      · subst h1; rfl
      · rw [decide_eq_false h1]; simp; omega
    have E9 := Lib.hid e9
    clear h hv e1 ev e9
    go_enter Try.func82, Try.ntmps82
    go_wp2_with fail
    ((with_reducible refine H.out.mono ?_); rintro e w1 ⟨rfl, hr1, ho1⟩)
    go_wp2
    go_ret
    exact ⟨by rw [← E9.out]; rfl, hr1, ho1⟩

set_option maxHeartbeats 2000000 in
theorem doneR_any (N : Nat) (r : Rd) (w : World) (h : RdAt w N r) (q : Bool) (hq : q = true ↔ r = (⟨#[]⟩, false)) : Calls Try.prog 34 #[.pointer (some ⟨N, 0, none⟩)] w fun e w' => e = .returned (.bool q) ∧ w' = w := by
  obtain ⟨s, b⟩ := r
  have c0 := h.c0
  have c1 := h.c1
  simp only at c0 c1
  clear h
  cases b with
  | true =>
    obtain rfl : q = false := by
      cases q with
      | false => rfl
      | true => have := hq.1 rfl; simp at this
    clear hq
    go_enter Try.func34, Try.ntmps34
    go_wp2
    go_ret
    exact ⟨rfl, rfl⟩
  | false =>
    by_cases hs : s = ⟨#[]⟩
    · obtain rfl : q = true := hq.2 (by rw [hs])
      subst hs
      clear hq
      go_enter Try.func34, Try.ntmps34
      go_wp2
      go_ret
      exact ⟨rfl, rfl⟩
    · obtain rfl : q = false := by
        cases q with
        | false => rfl
        | true => have := hq.1 rfl; simp at this; exact absurd this hs
      have e : (s.toList == []) = false := by rw [eq_empty]; simpa using hs
      clear hq hs
      go_enter Try.func34, Try.ntmps34
      go_wp2
      go_ret
      exact ⟨rfl, rfl⟩
theorem readR_any (s : BA) (w : World) : Calls Try.prog 31 #[.string s] w fun e w' => e = .returned (.pointer (some ⟨w.heap.size, 0, none⟩)) ∧ w' = w.alloc (.cells #[.string s, .bool false] 78) := by
  go_enter Try.func31, Try.ntmps31
  go_wp2
  go_ret
  exact ⟨rfl, rfl⟩
end Go.Proofs.Ytiaahjoldahlnaa
