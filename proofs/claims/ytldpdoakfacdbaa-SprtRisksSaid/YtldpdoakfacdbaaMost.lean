/- The reference's comparison of long numbers, at this translation. -/
import Derived.Test.YtldpdoakfacdbaaRefTimes
import Derived.Test.YtldpdoakfacdbaaCompare
namespace Go.Proofs.Ytldpdoakfacdbaa
open Go.RowKit

theorem blN {B : Nat} {a b : World} (h : Below B a b) (n : Nat) : Below B a (b.drewN n) := ⟨h.os, h.tape, h.output, h.size, h.block⟩

set_option maxHeartbeats 2000000 in
theorem most_eq (b1 b2 len cap1 cap2 : Nat) (xs ys : Nat → Nat) (hl : len ≤ 1000) (r : Bool) (w : World) (hb1 : b1 < w.heap.size) (hb2 : b2 < w.heap.size)
    (hc1 : ∀ j, j < len → w.cell? ⟨b1, j, none⟩ = some (.int .i64 (xs j : Int))) (hc2 : ∀ j, j < len → w.cell? ⟨b2, j, none⟩ = some (.int .i64 (ys j : Int)))
    (hr0 : (∀ j, j < len → xs j = ys j) → r = true) (hr1 : ∀ k, k < len → (∀ j, k < j → j < len → xs j = ys j) → xs k < ys k → r = true) (hr2 : ∀ k, k < len → (∀ j, k < j → j < len → xs j = ys j) → ys k < xs k → r = false) :
    Calls Try.prog 33 #[.slice (some ⟨b1, 0, none⟩) len cap1, .slice (some ⟨b2, 0, none⟩) len cap2] w fun e w' => e = .returned (.bool r) ∧ Below w.heap.size w w' := by
  have C1 := Lib.hid hc1
  have C2 := Lib.hid hc2
  have R0 := Lib.hid hr0
  have R1 := Lib.hid hr1
  have R2 := Lib.hid hr2
  clear hc1 hc2 hr0 hr1 hr2
  go_enter Try.func33, Try.ntmps33
  go_wp2
  go_loopw [5] (fun i wr => ∃ (k : Nat) (z : Int), k ≤ len ∧ z = (k : Int) - 1 ∧ i = .int .i64 z ∧ Hid (∀ j, k ≤ j → j < len → xs j = ys j) ∧ Below w.heap.size w wr) (fun i _ => (intOf i + 1).toNat)
  case atStart => exact ⟨len, (len : Int) - 1, Nat.le_refl _, rfl, rfl, fun j h1 h2 => by omega, Below.refl _ _⟩
  case round =>
    obtain ⟨k, z, hk, hz, rfl, hE, hB⟩ := hrel
    by_cases hlt : 0 < k
    · obtain ⟨r', hr'⟩ : ∃ r' : Nat, z = r' := ⟨k - 1, by omega⟩
      subst hr'
      have HZ := Lib.hid (show r' + 1 = k by omega)
      have hrl : r' < len := by omega
      have hrl2 : (r' : Int) < len := by omega
      have hr0 : (0 : Int) ≤ r' := by omega
      have c1 := (hB.cell (p := ⟨b1, r', none⟩) hb1).trans (C1.out r' hrl)
      have c2 := (hB.cell (p := ⟨b2, r', none⟩) hb2).trans (C2.out r' hrl)
      clear hz
      by_cases hxy : xs r' = ys r'
      · have hq : ((xs r' : Int) == (ys r' : Int)) = true := by simp [hxy]
        have hq2 : ((xs r' : Int) != (ys r' : Int)) = false := by simp [hxy]
        have HX := Lib.hid hxy
        clear hxy
        go_wp2
        go_quiet (fail)
        go_wp2
        go_roundw
        case rel => exact ⟨r', (r' : Int) - 1, by omega, rfl, rfl, fun j h1 h2 => by
            rcases Nat.lt_or_ge r' j with h3 | h3
            · exact hE j (by have := HZ.out; omega) h2
            · obtain rfl : j = r' := by omega
              exact HX.out, blN hB _⟩
        case measure => simp [intOf]
      · have hq : ((xs r' : Int) == (ys r' : Int)) = false := by simp; omega
        have hq2 : ((xs r' : Int) != (ys r' : Int)) = true := by simp; omega
        have HX : ∀ j, r' < j → j < len → xs j = ys j := fun j h1 h2 => hE j (by have := HZ.out; omega) h2
        rcases Nat.lt_or_gt_of_ne hxy with h | h
        · obtain rfl : r = true := R1.out r' hrl HX h
          have h' : decide (xs r' < ys r') = true := by simp; omega
          clear hxy HX h
          go_wp2
          go_quiet (fail)
          go_wp2
          go_quiet (fail)
          go_wp2
          go_ret
          exact ⟨rfl, by first | exact blN (blN hB _) _ | exact blN hB _⟩
        · obtain rfl : r = false := R2.out r' hrl HX h
          have h' : decide (xs r' < ys r') = false := by simp; omega
          clear hxy HX h
          go_wp2
          go_quiet (fail)
          go_wp2
          go_quiet (fail)
          go_wp2
          go_ret
          exact ⟨rfl, by first | exact blN (blN hB _) _ | exact blN hB _⟩
    · obtain rfl : z = -1 := by omega
      have hr : r = true := R0.out fun j h => hE j (by omega) h
      subst hr
      clear hz
      go_wp2
      go_ret
      exact ⟨rfl, hB⟩

set_option maxHeartbeats 1000000 in
theorem most_ne (a1 a2 : Option Addr) (len1 len2 cap1 cap2 : Nat) (hne : len1 ≠ len2) (r : Bool) (hr : decide (len1 < len2) = r) (w : World) :
    Calls Try.prog 33 #[.slice a1 len1 cap1, .slice a2 len2 cap2] w fun e w' => e = .returned (.bool r) ∧ w = w' := by
  have hq : ((len1 : Int) == (len2 : Int)) = false := by simp; omega
  have hq2 : ((len1 : Int) != (len2 : Int)) = true := by simp; omega
  have hr2 : decide ((len1 : Int) < (len2 : Int)) = r := by rw [← hr]; simp
  clear hne hr
  go_enter Try.func33, Try.ntmps33
  go_wp2
  go_ret
  exact ⟨by simp only [← hr2]; simp, rfl⟩

/-- The reference's 'most' is the comparison of the numbers. -/
theorem most_any (a b : Nat) (v1 v2 : Value) (w : World) (hl : (digs B4 a).length ≤ 1000) (h1 : IsLong w v1 (digs B4 a)) (h2 : IsLong w v2 (digs B4 b)) (r : Bool) (hr : decide (a ≤ b) = r) :
    Calls Try.prog 33 #[v1, v2] w fun e w' => e = .returned (.bool r) ∧ Below w.heap.size w w' := by
  obtain ⟨b1, cap1, rfl, hb1, _, hc1⟩ := h1
  obtain ⟨b2, cap2, rfl, hb2, _, hc2⟩ := h2
  by_cases hne : (digs B4 a).length = (digs B4 b).length
  · have hx : ∀ j, j < (digs B4 a).length → w.cell? ⟨b1, j, none⟩ = some (.int .i64 (((digs B4 a)[j]?.getD 0 : Nat) : Int)) := fun j hj => by
      rw [hc1 j hj, List.getElem?_eq_getElem hj]; rfl
    have hy : ∀ j, j < (digs B4 a).length → w.cell? ⟨b2, j, none⟩ = some (.int .i64 (((digs B4 b)[j]?.getD 0 : Nat) : Int)) := fun j hj => by
      rw [hc2 j (hne ▸ hj), List.getElem?_eq_getElem (hne ▸ hj)]; rfl
    rw [← hne]
    have key : ∀ k, k < (digs B4 a).length → (∀ j, k < j → j < (digs B4 a).length → (digs B4 a)[j]?.getD 0 = (digs B4 b)[j]?.getD 0) → (digs B4 a)[k]?.getD 0 ≠ (digs B4 b)[k]?.getD 0 → cmpZ ((digs B4 a)[k]?.getD 0 : Nat) ((digs B4 b)[k]?.getD 0 : Nat) = cmpZ a b := by
      intro k hk hk3 hk2
      have hkb : k < (digs B4 b).length := hne ▸ hk
      have e1 : (digs B4 a)[k]?.getD 0 = (digs B4 a)[k] := by simp [hk]
      have e2 : (digs B4 b)[k]?.getD 0 = (digs B4 b)[k] := by simp [hkb]
      rw [e1, e2] at hk2
      rw [e1, e2, val_getElem_top B4 (by decide) a b k hk hne hk2 (fun j hj hkj => by
        have := hk3 j hkj hj
        simpa [hj, hne ▸ hj] using this)]
    have cz : ∀ x y : Nat, cmpZ x y = -1 ↔ x < y := fun x y => by unfold cmpZ; split <;> (try split) <;> omega
    refine most_eq b1 b2 _ cap1 cap2 (fun j => (digs B4 a)[j]?.getD 0) (fun j => (digs B4 b)[j]?.getD 0) hl r w hb1 hb2 hx hy ?_ ?_ ?_
    · intro hall
      have : digs B4 a = digs B4 b := List.ext_getElem hne fun j h1 h2 => by
        have := hall j h1
        simpa [h1, h2] using this
      have e : a = b := by rw [← val_digs B4 a (by decide), this, val_digs B4 b (by decide)]
      subst e
      rw [← hr]; simp
    · intro k hk h3 h4
      have h5 := key k hk h3 (by omega)
      have h6 := (cz a b).1 (h5 ▸ (cz _ _).2 h4)
      rw [← hr]; simp; omega
    · intro k hk h3 h4
      have h5 := key k hk h3 (by omega)
      have h6 : ¬ a ≤ b := by
        intro h7
        unfold cmpZ at h5
        rw [if_neg (by omega), if_neg (by omega)] at h5
        split at h5
        · omega
        · split at h5
          · omega
          · omega
      rw [← hr]; simp; omega
  · refine (most_ne _ _ _ _ cap1 cap2 hne r ?_ w).mono ?_
    · rw [← hr]
      rcases Nat.lt_or_gt_of_ne hne with h | h
      · have := lt_of_len B4 a b (by decide) h
        simp; omega
      · have := lt_of_len B4 b a (by decide) h
        have e1 : ¬ a ≤ b := by omega
        have e2 : ¬ (digs B4 a).length < (digs B4 b).length := by omega
        simp [e1, e2]
    · rintro e w' ⟨rfl, rfl⟩
      exact ⟨rfl, Below.refl _ _⟩
end Go.Proofs.Ytldpdoakfacdbaa
