/- The reference's less and Current. -/
import Derived.Test.YtgdfdelggihceaaRefCut
namespace Go.Proofs.Ytgdfdelggihceaa
open Go.RowKit

theorem refLess_any (l : Int) (h1 : -9223372036854775808 ≤ l) (h2 : l ≤ 9223372036854775807) (r : Int) (hr : lessI l = r) (w : World) : Calls Try.prog 36 #[.int .i64 l] w fun e w' => e = .returned (.int .i64 r) ∧ w' = w := by
  unfold lessI at hr
  by_cases h : 0 < l
  · rw [if_pos h] at hr
    have HR := Lib.hid hr
    clear hr
    go_enter Try.func36, Try.ntmps36
    go_wp2
    go_ret
    exact ⟨by show Ending.returned (.int .i64 (l - 1)) = _; rw [HR.out], rfl⟩
  · rw [if_neg h] at hr
    subst hr
    go_enter Try.func36, Try.ntmps36
    go_wp2
    go_ret
    exact ⟨rfl, rfl⟩

set_option maxHeartbeats 4000000 in
theorem refCurrent_ok (D : Dk) (hok : D.Ok) (hp : D.pend.length ≤ 100000) (z : Nat) (hz : (z : Int) = D.size) (v : Value) (w : World) (hv : IsDisk w v D) :
    Calls Try.prog 32 #[v] w fun e w' => ∃ v' B, e = .returned v' ∧ w.heap.size ≤ B ∧ w'.ownsRow B 9 1 v' D.secs.length (rowS (settleL (fun _ => z) 0 D.pend D.secs)) ∧ Below w.heap.size w w' := by
  obtain ⟨_, _, rfl, i1, ⟨b, cap2, rfl, hm, hcap2, hcW⟩⟩ := hv
  have HW := Lib.hid hcW
  have l1 := hok.l1
  have l2 := hok.l2
  have hs2 := hok.s2
  have hs1 := hok.s1
  have I1 := Lib.hid i1
  obtain ⟨a, cap, rfl, hln, hcap, _⟩ := i1
  obtain ⟨ad, rfl, _⟩ := strs_lie I1.out l1
  unfold maxLen at hm hln
  have HZ := Lib.hid hz
  have hB := (Below.refl w.heap.size w).alloc (Nat.le_refl _) (.cells #[.int .i64 D.size, .slice (some ad) D.secs.length cap, .slice b D.pend.length cap2, .int .i64 D.left] 26)
  have X0 := Lib.hid (Bx.fresh D.size (.slice (some ad) D.secs.length cap) (.slice b D.pend.length cap2) D.left w)
  clear hcW hz
  obtain ⟨i0, hi, hz0, hz1, hz2⟩ := info_parts info9
  go_enter Try.func32, Try.ntmps32
  go_upto_region 1 with fail
  generalize w.alloc (.cells #[.int .i64 D.size, .slice (some ad) D.secs.length cap, .slice b D.pend.length cap2, .int .i64 D.left] 26) = w1 at hB X0 ⊢
  have lt2 : w.heap.size + 1 ≤ w1.heap.size := X0.out.lt
  have I2 := Lib.hid (I1.out.below (hB.alloc (by omega) (.cells #[] 9)) (Nat.le_refl _))
  obtain ⟨_, e2, lies⟩ := strs_lie I2.out l1
  cases e2
  have LIES := Lib.hid lies
  clear lies
  obtain ⟨q0, q1, q2, q3, g0, g1, g2, g3, qlt⟩ := X0.out.alloc (.cells #[] 9)
  go_wp2_with (at_builtin; refine wpList_append_own _ rfl _ _ 23 rfl w1.heap.size 9 i0 (.string ⟨#[]⟩) 1 16 Try.underlying23 hi hz0 hz1 hz2 rfl (by decide) _ 0 _ rfl (World.ownsRow_lit w1 #[] 0 (Nat.le_refl _) (Nat.zero_le _) rfl) ad D.secs.length cap (rowS D.secs) rfl ?c0 ?c1 ?c2 ?c3 ?c4 ?c5 ?_)
  case c0 => rw [rowS_length, Nat.mul_one]
  case c1 => exact LIES.out
  case c2 => exact rowS_one _
  case c3 => unfold maxLen; omega
  case c4 => omega
  case c5 => simp
  intro v3 w3 hown hgrow _
  have hown' : w3.ownsRow w1.heap.size 9 1 v3 D.secs.length (rowS D.secs) := by simpa using hown
  have BG := (Below.refl w1.heap.size (w1.alloc (.cells #[] 9))).grown hgrow (by simp) (fun k hk => by simp [Value.ownBlock] at hk; omega)
  have B3 := (hB.alloc (by omega) (.cells #[] 9)).trans (BG.mono (by omega))
  have Y0 := Lib.hid ((X0.out.alloc (.cells #[] 9)).below BG X0.out.lt)
  obtain ⟨m, hmm⟩ : ∃ m, D.secs.length = m + 1 := ⟨D.secs.length - 1, by omega⟩
  rw [hmm] at hown'
  obtain ⟨g, capg, rfl⟩ := ownsRow_succ hown'
  rw [← hmm] at hown' ⊢
  have OW := Lib.hid hown'
  have gB : w1.heap.size ≤ g := (hown'.lt g rfl).1
  clear hown hown' hgrow BG X0 I2 LIES q0 q1 q2 q3 g0 g1 g2 g3 qlt hmm hB
  go_wp2
  go_loopw [4] (fun s4 wr => ∃ (j : Nat) (cur : List ByteArray), j ≤ D.pend.length ∧ s4 = .int .i64 j ∧ Hid (cur.length = D.secs.length) ∧ Hid (∀ x ∈ cur, (x.size : Int) = D.size) ∧ Hid (settleL (fun _ => z) j (D.pend.drop j) cur = settleL (fun _ => z) 0 D.pend D.secs) ∧ Hid (wr.ownsRow w1.heap.size 9 1 (.slice (some ⟨g, 0, none⟩) D.secs.length capg) D.secs.length (rowS cur)) ∧
    Hid (Bx w.heap.size D.size (.slice (some ad) D.secs.length cap) (.slice b D.pend.length cap2) D.left wr) ∧ Below w.heap.size w wr) (fun i _ => D.pend.length - (intOf i).toNat)
  case atStart => exact ⟨0, D.secs, Nat.zero_le _, rfl, rfl, Lib.hid hok.secs, rfl, OW, Y0, B3⟩
  case round =>
    obtain ⟨j, cur, hj, rfl, hcl, hcz, hset, hO, hY0, hBr⟩ := hrel
    obtain ⟨q0, q1, q2, q3, g0, g1, g2, g3, qlt⟩ := hY0.out
    by_cases hlt : j < D.pend.length
    · obtain ⟨b1, o1, rfl, hb1, hcell⟩ := HW.out.resolve_left (by intro e; rw [e] at hlt; simp at hlt)
      obtain ⟨hc1, hc2⟩ := hcell j hlt
      have p0 := (hBr.cell (p := ⟨b1, o1 + j * 2, none⟩) hb1).trans hc1
      have p1 := (hBr.cell (p := ⟨b1, o1 + j * 2 + 1, none⟩) hb1).trans hc2
      have hS := hset.out
      obtain ⟨v1, v2, v3⟩ := hok.pend _ (List.getElem_mem hlt)
      rw [List.drop_eq_getElem_cons hlt, settleL] at hS
      generalize D.pend[j] = q at p0 p1 hS v1 v2 v3
      obtain ⟨s, x⟩ := q
      simp only at p0 p1 hS v1 v2 v3
      obtain ⟨sn, rfl⟩ := Int.eq_ofNat_of_zero_le v1
      have hsn : sn < cur.length := by rw [hcl.out]; omega
      rw [Int.toNat_natCast, getD_at _ _ hsn] at hS
      have hys := hcz.out _ (List.getElem_mem hsn)
      have cs := own_cellS hO.out sn (by omega) hsn
      have fs := hO.out.frozenAt sn
      generalize cur[sn] = y at cs hS hys
      have te : tear z x y = x := by
        have : z = x.size := by have := HZ.out; omega
        rw [this]; exact tear_all x y (by omega)
      rw [te] at hS
      have HSS := Lib.hid hS
      have HXZ := Lib.hid v3
      have hsl : (sn : Int) < D.secs.length := v2
      have hsl2 : sn < D.secs.length := by omega
      clear hcell hc1 hc2 hset hS v3 hys v1 v2 hsn te
      go_upto_region 5 with fail
      go_region
      all_goals go_wp2
      all_goals go_roundw
      all_goals first
        | exact ⟨j + 1, cur.set sn x, by omega, by go_num, Lib.hid (by rw [List.length_set]; exact hcl.out), Lib.hid (fun z hz => by
            rcases List.mem_or_eq_of_mem_set hz with hz | rfl
            · exact hcz.out z hz
            · exact HXZ.out), Lib.hid HSS.out, Lib.hid (own_put (show wr.drew.ownsRow w1.heap.size 9 1 (.slice (some ⟨g, 0, none⟩) D.secs.length capg) D.secs.length (rowS cur) from hO.out) sn x), Lib.hid (hY0.out.drew.other (by omega) sn _), hBr.drew.setCell (p := ⟨g, sn, none⟩) (show w.heap.size ≤ g by omega) _⟩
        | (simp [intOf]; omega)
    · have hS := hset.out
      rw [List.drop_eq_nil_of_le (by omega), settleL] at hS
      have HSS := Lib.hid hS
      clear hset hS hY0
      go_wp2
      go_ret
      exact ⟨_, w1.heap.size, rfl, by omega, by rw [← HSS.out]; exact hO.out, hBr⟩
end Go.Proofs.Ytgdfdelggihceaa
