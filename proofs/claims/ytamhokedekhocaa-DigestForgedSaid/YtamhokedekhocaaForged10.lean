/- On the two ways from the same root to an element, two different strings with the same digest are hashed, at this translation. -/
import Derived.Test.YtamhokedekhocaaForged4
import Derived.Test.YtamhokedekhocaaForged5
import Derived.Test.YtamhokedekhocaaForged6
import Derived.Test.YtamhokedekhocaaForged7
import Derived.Test.YtamhokedekhocaaForged8
namespace Go.Proofs.Ytamhokedekhocaa
open Go.RowKit
attribute [local go_sem] eq_arr

theorem toList_ne {a b : ByteArray} (h : a ≠ b) : ¬ a.toList = b.toList := fun e => h (toList_eq e)
/-- The law's apart, of a proof that leads to the root. -/
theorem apart_any (d : Dig) (hd : Small d) : ∀ (rp : List Dig) (L : List Dig) (i : Nat) (x : Dig) (w : World) (v vl : Value), L.length ≤ 1099511627776 → (∀ y ∈ L, Small y) → (∀ y ∈ rp, Small y) → L[i]? = some x → d ≠ x →
    rootM L.length i d rp = (rootT (L.length + 1) L, true) → IsDigs w vl L → IsDigs w v rp.reverse →
    Calls Try.prog 29 #[vl, .int .i64 i, d.v, v] w fun e w' => e = .returned (.bool true) ∧ Below w.heap.size w w'
  | [], L, i, x, w, v, vl, hl, hS, hP, hx, hne, hroot, hL, hv => by
    have hi : i < L.length := (List.getElem?_eq_some_iff.1 hx).1
    by_cases hn : L.length = 1
    · obtain ⟨y, rfl⟩ := List.length_eq_one_iff.1 hn
      have e0 : i = 0 := by simp at hi; exact hi
      subst e0
      simp only [List.getElem?_cons_zero, Option.some.injEq] at hx
      subst hx
      have e1 : leafD d = leafD y := by
        have := congrArg Prod.fst hroot
        simpa [rootM, rootT] using this
      obtain ⟨b, off, cap, rfl, h1, h2, hb, -, -, hc⟩ := hL.parts (by simp)
      obtain ⟨a2, cap2, rfl, -⟩ := hv
      have hc0 := hc 0 y rfl
      simp only [Nat.zero_mul, Nat.add_zero] at hc0
      exact apart_one 0 b off cap cap2 a2 d.1 d.2 y.1 y.2 (leafS y) (leafS d) w hb hc0.1 hc0.2 (fun W => refLeaf_any _ _ W) (fun W => refLeaf_any _ _ W) (fun W => leaf_collide y d (hS y (by simp)) hd hne e1 W)
    · have := congrArg Prod.snd hroot
      simp [rootM, hn] at this
  | p :: rp, L, i, x, w, v, vl, hl, hS, hP, hx, hne, hroot, hL, hv => by
    have hi : i < L.length := (List.getElem?_eq_some_iff.1 hx).1
    rw [List.reverse_cons] at hv
    obtain ⟨b2, off2, cap2, rfl, hc1, hc2, hb2, e0, e1, hrest⟩ := hv.last
    by_cases hn : L.length = 1
    · have := congrArg Prod.snd hroot
      simp [rootM, hn] at this
    · obtain ⟨b, off, cap, rfl, h1, h2, hb, htake, hdrop, hc⟩ := hL.parts (by intro e; rw [e] at hi; simp at hi)
      obtain ⟨_, _, _, _, hk, _⟩ := leftN_spec L.length (by omega) (by omega)
      have hpos : 1 ≤ leftN L.length := Nat.pow_pos (by decide)
      obtain ⟨k, hkd⟩ : ∃ k, leftN L.length = k := ⟨_, rfl⟩
      rw [hkd] at hk hpos
      have lt : (L.take k).length = k := by rw [List.length_take]; omega
      have ld : (L.drop k).length = L.length - k := by rw [List.length_drop]
      have er : rootT (L.length + 1) L = pairD (rootT (k + 1) (L.take k)) (rootT (L.length - k + 1) (L.drop k)) := by
        rw [rootT, if_neg (by omega), if_neg hn, hkd, rootT_fuel L.length (k + 1) (L.take k) (by omega) (by omega) (by omega), rootT_fuel L.length (L.length - k + 1) (L.drop k) (by omega) (by omega) (by omega)]
      have sa := rootT_small (k + 1) (L.take k)
      have sb := rootT_small (L.length - k + 1) (L.drop k)
      have hp : Small p := hP p (by simp)
      have r1 : ∀ W, Below w.heap.size w W → Calls Try.prog 23 #[.slice (some ⟨b, off, none⟩) k cap] W fun e w' => e = .returned (rootT (k + 1) (L.take k)).v ∧ Below W.heap.size W w' := fun W hW => root_any (k + 1) (L.take k) W _ (by omega) (by omega) ((htake k (by omega)).below hW)
      have r2 : ∀ W, Below w.heap.size w W → Calls Try.prog 23 #[.slice (some ⟨b, off + k * 2, none⟩) (L.length - k) (cap - k)] W fun e w' => e = .returned (rootT (L.length - k + 1) (L.drop k)).v ∧ Below W.heap.size W w' := fun W hW => root_any (L.length - k + 1) (L.drop k) W _ (by omega) (by omega) ((hdrop k (by omega)).below hW)
      by_cases hik : i < k
      · have eM : rootM L.length i d (p :: rp) = (pairD (rootM k i d rp).1 p, (rootM k i d rp).2) := by rw [rootM, if_neg hn, hkd, if_pos hik]
        rw [eM, er] at hroot
        simp only [Prod.mk.injEq] at hroot
        obtain ⟨hq, hok⟩ := hroot
        have sx := rootM_small k i d rp hok
        have hmd : (rp.reverse.length + 1) ≤ cap2 := by simpa using hc1
        have r3 : ∀ W, Below w.heap.size w W → Calls Try.prog 51 #[.int .i64 k, .int .i64 i, d.v, .slice (some ⟨b2, off2, none⟩) rp.reverse.length cap2] W fun e w' => e = .returned (rootM k i d rp).1.v ∧ Below W.heap.size W w' := fun W hW => claimed_any d rp k i W _ hpos (by omega) hik (hrest.below hW) hok
        by_cases hs : nodeD (rootT (k + 1) (L.take k)) (rootT (L.length - k + 1) (L.drop k)) = nodeD (rootM k i d rp).1 p
        · obtain ⟨q1, q2⟩ := nodeD_inj _ _ _ _ hs
          have ex := byS_inj _ _ sa sx q1
          have hx' : (L.take k)[i]? = some x := by rw [List.getElem?_take, if_pos hik]; exact hx
          have hroot' : rootM (L.take k).length i d rp = (rootT ((L.take k).length + 1) (L.take k), true) := by
            rw [lt, ex]
            exact Prod.ext rfl hok
          exact apart_less_same L.length k i rp.reverse.length b off cap b2 off2 cap2 d.1 d.2 p.1 p.2 (rootT (k + 1) (L.take k)).1 (rootT (k + 1) (L.take k)).2 (rootT (L.length - k + 1) (L.drop k)).1 (rootT (L.length - k + 1) (L.drop k)).2 (rootM k i d rp).1.1 (rootM k i d rp).1.2 (nodeD (rootT (k + 1) (L.take k)) (rootT (L.length - k + 1) (L.drop k))) hkd hk (by omega) hl hik w h1 hmd hc2 hb2 e0 e1 r1 r2 r3
            (fun W => refNode_any _ _ _ _ W) (fun W => by rw [hs]; exact refNode_any _ _ _ _ W)
            (fun W hW => by
              have := apart_any d hd rp (L.take k) i x W _ (.slice (some ⟨b, off, none⟩) k cap) (by omega) (fun y hy => hS y (List.mem_of_mem_take hy)) (fun y hy => hP y (by simp [hy])) hx' hne hroot' ((htake k (by omega)).below hW) (hrest.below hW)
              exact this)
        · exact apart_less_other L.length k i rp.reverse.length b off cap b2 off2 cap2 d.1 d.2 p.1 p.2 (rootT (k + 1) (L.take k)).1 (rootT (k + 1) (L.take k)).2 (rootT (L.length - k + 1) (L.drop k)).1 (rootT (L.length - k + 1) (L.drop k)).2 (rootM k i d rp).1.1 (rootM k i d rp).1.2 (nodeD (rootT (k + 1) (L.take k)) (rootT (L.length - k + 1) (L.drop k))) (nodeD (rootM k i d rp).1 p) hkd hk (by omega) hl hik w h1 hmd hc2 hb2 e0 e1 r1 r2 r3
            (fun W => refNode_any _ _ _ _ W) (fun W => refNode_any _ _ _ _ W) (toList_ne hs) (fun W => node_collide _ _ _ _ hs hq.symm W)
      · have hik : k ≤ i := by omega
        have eM : rootM L.length i d (p :: rp) = (pairD p (rootM (L.length - k) (i - k) d rp).1, (rootM (L.length - k) (i - k) d rp).2) := by rw [rootM, if_neg hn, hkd, if_neg (by omega)]
        rw [eM, er] at hroot
        simp only [Prod.mk.injEq] at hroot
        obtain ⟨hq, hok⟩ := hroot
        have sx := rootM_small (L.length - k) (i - k) d rp hok
        have hmd : (rp.reverse.length + 1) ≤ cap2 := by simpa using hc1
        have r3 : ∀ W, Below w.heap.size w W → Calls Try.prog 51 #[.int .i64 ((L.length : Int) - (k : Int)), .int .i64 ((i : Int) - (k : Int)), d.v, .slice (some ⟨b2, off2, none⟩) rp.reverse.length cap2] W fun e w' => e = .returned (rootM (L.length - k) (i - k) d rp).1.v ∧ Below W.heap.size W w' := fun W hW => by
          have := claimed_any d rp (L.length - k) (i - k) W _ (by omega) (by omega) (by omega) (hrest.below hW) hok
          rw [Int.natCast_sub (by omega), Int.natCast_sub (by omega)] at this
          exact this
        by_cases hs : nodeD (rootT (k + 1) (L.take k)) (rootT (L.length - k + 1) (L.drop k)) = nodeD p (rootM (L.length - k) (i - k) d rp).1
        · obtain ⟨q1, q2⟩ := nodeD_inj _ _ _ _ hs
          have ex := byS_inj _ _ sb sx q2
          have hx' : (L.drop k)[i - k]? = some x := by rw [List.getElem?_drop, show k + (i - k) = i by omega]; exact hx
          have hroot' : rootM (L.drop k).length (i - k) d rp = (rootT ((L.drop k).length + 1) (L.drop k), true) := by
            rw [ld, ex]
            exact Prod.ext rfl hok
          exact apart_more_same L.length k i rp.reverse.length b off cap b2 off2 cap2 d.1 d.2 p.1 p.2 (rootT (k + 1) (L.take k)).1 (rootT (k + 1) (L.take k)).2 (rootT (L.length - k + 1) (L.drop k)).1 (rootT (L.length - k + 1) (L.drop k)).2 (rootM (L.length - k) (i - k) d rp).1.1 (rootM (L.length - k) (i - k) d rp).1.2 (nodeD (rootT (k + 1) (L.take k)) (rootT (L.length - k + 1) (L.drop k))) hkd hk (by omega) hl hik hi w h1 hmd hc2 hb2 e0 e1 r1 r2 r3
            (fun W => refNode_any _ _ _ _ W) (fun W => by rw [hs]; exact refNode_any _ _ _ _ W)
            (fun W hW => by
              have := apart_any d hd rp (L.drop k) (i - k) x W _ (.slice (some ⟨b, off + k * 2, none⟩) (L.length - k) (cap - k)) (by omega) (fun y hy => hS y (List.mem_of_mem_drop hy)) (fun y hy => hP y (by simp [hy])) hx' hne hroot' ((hdrop k (by omega)).below hW) (hrest.below hW)
              rw [Int.natCast_sub (by omega)] at this
              exact this)
        · exact apart_more_other L.length k i rp.reverse.length b off cap b2 off2 cap2 d.1 d.2 p.1 p.2 (rootT (k + 1) (L.take k)).1 (rootT (k + 1) (L.take k)).2 (rootT (L.length - k + 1) (L.drop k)).1 (rootT (L.length - k + 1) (L.drop k)).2 (rootM (L.length - k) (i - k) d rp).1.1 (rootM (L.length - k) (i - k) d rp).1.2 (nodeD (rootT (k + 1) (L.take k)) (rootT (L.length - k + 1) (L.drop k))) (nodeD p (rootM (L.length - k) (i - k) d rp).1) hkd hk (by omega) hl hik hi w h1 hmd hc2 hb2 e0 e1 r1 r2 r3
            (fun W => refNode_any _ _ _ _ W) (fun W => refNode_any _ _ _ _ W) (toList_ne hs) (fun W => node_collide _ _ _ _ hs hq.symm W)
end Go.Proofs.Ytamhokedekhocaa
