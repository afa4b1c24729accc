/- chunk.checkAll, at this translation. -/
import Derived.Test.YtcdnhnbigincpaaBounds
import Derived.Test.YtcdnhnbigincpaaWords
namespace Go.Proofs.Ytcdnhnbigincpaa
open Go.RowKit Go.Shelf
attribute [local go_sem] Oper.semAt_some

/-- What checkAll answers. -/
def chkA (a b c d : Int) (L : List ByteArray) : Int := if chkP a b c d ≠ 0 then chkP a b c d else if ∃ s ∈ L, 65536 < s.size then 4 else 0

set_option maxHeartbeats 2000000 in
theorem checkAll_in (n : Nat) (hn : 1 ≤ n) (a b c d : Int) (B cap : Nat) (L : List ByteArray) (hL : L.length ≤ 100) (hz : ∀ s ∈ L, s.size ≤ 100000) (w : World) (hB : B < w.heap.size) (hc : ∀ j (h : j < L.length), w.cell? ⟨B, 0 + j, none⟩ = some (.string L[j])) (r : Int) (hr : chkA a b c d L = r) :
    CallsIn Fence.wide n Try.prog 24 #[pv a b c d, .slice (some ⟨B, 0, none⟩) L.length cap] w fun e w' => e = .returned (.int .i64 r) ∧ Below w.heap.size w w' := by
  have hB0 := (Below.refl w.heap.size w).alloc (Nat.le_refl _) (.cells #[.int .i64 a, .int .i64 b, .int .i64 c, .int .i64 d] 23)
  have x := PBox.new w a b c d
  have c0 := x.c0
  have c1 := x.c1
  have c2 := x.c2
  have c3 := x.c3
  clear x
  have HC := Lib.hid hc
  have HZ := Lib.hid hz
  clear hc hz
  obtain ⟨r0, hr0⟩ : ∃ r0, chkP a b c d = r0 := ⟨_, rfl⟩
  rw [chkA, hr0] at hr
  refine callsIn_of_wp Try.func24 rfl trivial ?_ rfl
  simp only [Try.ntmps24, List.size_toArray, List.length_cons, List.length_nil, Nat.reduceAdd, Nat.reduceSub, Array.replicate_succ, Array.replicate_zero, List.push_toArray, List.append_toArray, List.nil_append, List.cons_append]
  by_cases h0 : r0 = 0
  · subst h0
    rw [if_neg (by simp)] at hr
    have HR := Lib.hid hr
    clear hr
    gi_wp2
    refine ⟨trivial, (check_in (n - 1) a b c d 0 hr0 _).mono ?_⟩
    rintro e w1 ⟨rfl, hb1⟩
    have B1 := hB0.trans (hb1.mono hB0.size)
    clear c0 c1 c2 c3 hb1 hB0
    gi_wp2
    gi_loopw [15] (fun i wr => ∃ j : Nat, j ≤ L.length ∧ i = .int .i64 j ∧ wr = w1 ∧ Hid (∀ k (h : k < L.length), k < j → L[k].size ≤ 65536)) (fun i _ => L.length - (intOf i).toNat)
    case atStart => exact ⟨0, Nat.zero_le _, rfl, rfl, fun k _ h => absurd h (Nat.not_lt_zero _)⟩
    case round =>
      obtain ⟨j, hj, rfl, rfl, hbef⟩ := hrel
      by_cases hlt : j < L.length
      · have q := (B1.cell (p := ⟨B, 0 + j, none⟩) hB).trans (HC.out j hlt)
        rw [Nat.zero_add] at q
        have z := HZ.out _ (List.getElem_mem hlt)
        by_cases hs : 65536 < L[j].size
        · have e4 : r = 4 := by
            rw [← HR.out, if_pos ⟨_, List.getElem_mem hlt, hs⟩]
          clear hbef
          generalize L[j] = y at q z hs
          subst e4
          gi_wp2
          go_ret
          exact ⟨rfl, B1⟩
        · have hb' : Hid (∀ k (h : k < L.length), k < j + 1 → L[k].size ≤ 65536) := Lib.hid fun k h hk => by
            rcases Nat.lt_or_ge k j with h2 | h2
            · exact hbef.out k h h2
            · obtain rfl : k = j := by omega
              omega
          clear hbef
          generalize L[j] = y at q z hs
          gi_wp2
          go_roundw
          case rel => exact ⟨j + 1, by omega, by go_num, (by first | trivial | rfl), hb'⟩
          case measure => simp [intOf]; omega
      · have e0 : r = 0 := by
          rw [← HR.out, if_neg]
          rintro ⟨s, hs, h⟩
          obtain ⟨k, hk, rfl⟩ := List.mem_iff_getElem.1 hs
          have := hbef.out k hk (by omega)
          omega
        subst e0
        clear hbef
        gi_wp2
        go_ret
        exact ⟨rfl, B1⟩
  · rw [if_pos h0] at hr
    subst hr
    have hne : (r0 != 0) = true := by simpa using h0
    gi_wp2
    refine ⟨trivial, (check_in (n - 1) a b c d r0 hr0 _).mono ?_⟩
    rintro e w1 ⟨rfl, hb1⟩
    gi_wp2
    all_goals first
      | (go_ret; exact ⟨rfl, hB0.trans (hb1.mono hB0.size)⟩)
      | (exfalso; contradiction)

end Go.Proofs.Ytcdnhnbigincpaa
