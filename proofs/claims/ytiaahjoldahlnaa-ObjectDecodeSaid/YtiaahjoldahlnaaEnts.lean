/- object.checkEntries and slices.Contains at digests, at this translation. -/
import Derived.Test.YtiaahjoldahlnaaWords
import Derived.BigQuiet
import Derived.Deep.QuietTactic
import Derived.Laws.Cover1
import Derived.IntWalk
namespace Go.Proofs.Ytiaahjoldahlnaa
open Go.RowKit Go.Great
attribute [local go_sem] eq_arr

theorem below_drewN {B : Nat} {w W : World} (h : Below B w W) (n : Nat) : Below B w (W.drewN n) := ⟨h.os, h.tape, h.output, h.size, h.block⟩
/-- At most: as the walk writes it. -/
theorem leq_no {x y : BA} (h : bl y x = true) : Op.bytesLess x.toList y.toList = false ∧ (x.toList == y.toList) = false := by
  have h1 := (bl_lt y x).1 h
  have h3 : ¬ x.toList = y.toList := fun e => by rw [e] at h1; exact absurd h1 (List.lt_irrefl _)
  exact ⟨(bl_le y x).2 (List.le_of_lt h1), by simpa using h3⟩
theorem leq_yes {x y : BA} (h : bl y x = false) : x = y ∨ Op.bytesLess x.toList y.toList = true := by
  cases e : bl x y with
  | true => exact .inr e
  | false => exact .inl (toList_inj (List.le_antisymm ((bl_le x y).1 h) ((bl_le y x).1 e)))

/-- The name ahead of an entry. -/
def prv (L : List Ent) (j : Nat) : Option BA := if j = 0 then none else (L[j - 1]?).map Ent.name
theorem ents_zero {L : List Ent} (h : 0 < L.length) : entsFrom (prv L 0) (L.drop 0) = if isName L[0].name = false then 6 else if L[0].dig = (0, 0) then 1 else entsFrom (prv L 1) (L.drop 1) := by
  have e : prv L 1 = some L[0].name := by simp [prv, h]
  rw [e, List.drop_eq_getElem_cons h]
  simp [prv, entsFrom]
theorem ents_succ {L : List Ent} {j : Nat} (h : j + 1 < L.length) : entsFrom (prv L (j + 1)) (L.drop (j + 1)) = if isName L[j + 1].name = false then 6 else if bl L[j].name L[j + 1].name = false then 10 else if L[j + 1].dig = (0, 0) then 1 else entsFrom (prv L (j + 2)) (L.drop (j + 2)) := by
  have e : prv L (j + 2) = some L[j + 1].name := by simp [prv, h]
  have e0 : prv L (j + 1) = some L[j].name := by simp [prv, show j < L.length by omega]
  rw [e, e0, List.drop_eq_getElem_cons h]
  simp [entsFrom]
theorem ents_end {L : List Ent} {j : Nat} (h : L.length ≤ j) : entsFrom (prv L j) (L.drop j) = 0 := by
  rw [List.drop_eq_nil_of_le h]; cases hp : prv L j <;> rfl

theorem ent_fresh (w : World) (x : Ent) (t : TypeId) : EntAt (w.alloc (.cells #[.string x.name, .bool x.dir, .int .u64 x.dig.1, .int .u64 x.dig.2] t)) w.heap.size 0 x := by
  refine ⟨?_, ?_, ?_, ?_⟩ <;> simp [World.cell?_alloc_new]

set_option maxHeartbeats 4000000 in
theorem ents_any (L : List Ent) (v : Value) (w : World) (h : IsEnts w v L) (hf : ∀ x ∈ L, x.name.size ≤ maxLen) (r : Int) (hr : chkEnts L = r) :
    Calls Try.prog 42 #[v] w fun e w' => e = .returned (.int .i64 r) ∧ Below w.heap.size w w' := by
  obtain ⟨a, cap, rfl, hn, _, hc⟩ := h
  unfold maxLen at hn
  have HC := Lib.hid hc
  have HF := Lib.hid hf
  clear hc hf
  unfold chkEnts at hr
  by_cases hlen : 200 < L.length
  · rw [if_pos hlen] at hr
    subst hr
    go_enter Try.func42, Try.ntmps42
    go_wp2
    go_ret
    exact ⟨rfl, Below.refl _ _⟩
  rw [if_neg hlen] at hr
  have HR : Hid (entsFrom (prv L 0) (L.drop 0) = r) := Lib.hid hr
  clear hr
  go_enter Try.func42, Try.ntmps42
  go_wp2
  go_loopw [10] (fun s10 wr => ∃ j : Nat, j ≤ L.length ∧ s10 = .int .i64 j ∧ Hid (entsFrom (prv L j) (L.drop j) = r) ∧ Below w.heap.size w wr) (fun i _ => L.length - (intOf i).toNat)
  case atStart => exact ⟨0, Nat.zero_le _, rfl, HR, Below.refl _ _⟩
  case round =>
    obtain ⟨j, hj, rfl, HJ, hBr⟩ := hrel
    by_cases hlt : j < L.length
    · obtain ⟨b1, o1, rfl, hb1, hcell⟩ := HC.out.resolve_left (by intro e; rw [e] at hlt; simp at hlt)
      obtain ⟨p0, p1, p2, p3⟩ := (hcell j hlt).below hBr hb1
      have hx := HF.out _ (List.getElem_mem hlt)
      by_cases hj0 : j = 0
      · subst hj0
        rw [ents_zero (by omega)] at HJ
        obtain ⟨x, hx0⟩ : ∃ x, L[0] = x := ⟨_, rfl⟩
        rw [hx0] at p0 p1 p2 p3 hx HJ
        rw [Nat.zero_mul, Nat.add_zero] at p0 p1 p2 p3
        simp only [Int.natCast_zero]
        obtain ⟨nm, dir, d1, d2⟩ := x
        simp only at p0 p1 p2 p3 hx HJ
        have hBa := hBr.alloc hBr.size (.cells #[.string nm, .bool dir, .int .u64 d1, .int .u64 d2] 45)
        clear hx0 hcell
        cases hnm : isName nm with
        | false =>
          rw [hnm, if_pos rfl] at HJ
          obtain rfl := HJ.out
          have HN := Lib.hid hnm
          clear hnm HJ
          go_wp2_with fail
          ((with_reducible refine (name_any nm _ hx false HN.out).mono ?_); rintro e w1 ⟨rfl, rfl⟩)
          go_wp2
          go_ret
          exact ⟨rfl, hBa⟩
        | true =>
          rw [hnm, if_neg (by simp)] at HJ
          have HN := Lib.hid hnm
          clear hnm
          by_cases hz : d1 = 0 ∧ d2 = 0
          · obtain ⟨rfl, rfl⟩ := hz
            rw [if_pos rfl] at HJ
            obtain rfl := HJ.out
            clear HJ
            go_wp2_with fail
            ((with_reducible refine (name_any nm _ hx true HN.out).mono ?_); rintro e w1 ⟨rfl, rfl⟩)
            go_wp2_with fail
            go_quiet (fail)
            go_wp2
            go_ret
            exact ⟨rfl, below_drewN hBa nq⟩
          · rw [if_neg (by simpa using hz)] at HJ
            have ez : (((d1 : Nat) : Int) == 0 && ((d2 : Nat) : Int) == 0) = false := by simp; omega
            clear hz
            go_wp2_with fail
            ((with_reducible refine (name_any nm _ hx true HN.out).mono ?_); rintro e w1 ⟨rfl, rfl⟩)
            go_wp2_with fail
            go_quiet (fail)
            go_wp2
            go_roundw
            case rel => exact ⟨1, by omega, by go_num, HJ, below_drewN hBa nq⟩
            case measure => simp [intOf]; omega
      · obtain ⟨j, rfl⟩ : ∃ i, j = i + 1 := ⟨j - 1, by omega⟩
        clear hj0
        have hlt1 : (j : Int) + 1 < (L.length : Int) := by omega
        have hnn : ¬ (j : Int) + 1 < 0 := by omega
        have htn : ((j : Int) + 1).toNat = j + 1 := by omega
        have wj : IntKind.i64.wrap (j : Int) = j := IntWalk.i64_in _ (by omega)
        obtain ⟨q0, _, _, _⟩ := (hcell j (by omega)).below hBr hb1
        rw [ents_succ hlt] at HJ
        obtain ⟨x, hx0⟩ : ∃ x, L[j + 1] = x := ⟨_, rfl⟩
        obtain ⟨y, hy0⟩ : ∃ y, L[j].name = y := ⟨_, rfl⟩
        rw [hx0, hy0] at HJ
        rw [hx0] at p0 p1 p2 p3 hx
        rw [hy0] at q0
        obtain ⟨nm, dir, d1, d2⟩ := x
        simp only at p0 p1 p2 p3 hx HJ
        have hBa := hBr.alloc hBr.size (.cells #[.string nm, .bool dir, .int .u64 d1, .int .u64 d2] 45)
        clear hx0 hy0 hcell
        cases hnm : isName nm with
        | false =>
          rw [hnm, if_pos rfl] at HJ
          obtain rfl := HJ.out
          have HN := Lib.hid hnm
          clear hnm HJ
          go_wp2_with fail
          ((with_reducible refine (name_any nm _ hx false HN.out).mono ?_); rintro e w1 ⟨rfl, rfl⟩)
          go_wp2
          go_ret
          exact ⟨rfl, hBa⟩
        | true =>
          rw [hnm, if_neg (by simp)] at HJ
          have HN := Lib.hid hnm
          clear hnm
          have q0' := (show World.cell? ((wr.alloc (.cells #[.string nm, .bool dir, .int .u64 d1, .int .u64 d2] 45))) ⟨b1, o1 + j * 4, none⟩ = some (.string y) from (((Below.refl wr.heap.size wr).alloc (Nat.le_refl _) _).cell (p := ⟨b1, o1 + j * 4, none⟩) (Nat.lt_of_lt_of_le hb1 hBr.size)).trans q0)
          cases hl : bl y nm with
          | false =>
            rw [hl, if_pos rfl] at HJ
            obtain rfl := HJ.out
            clear HJ
            rcases leq_yes hl with rfl | f1
            · clear hl
              have f2 : (nm.toList == nm.toList) = true := beq_self_eq_true _
              go_wp2_with fail
              ((with_reducible refine (name_any nm _ hx true HN.out).mono ?_); rintro e w1 ⟨rfl, rfl⟩)
              go_wp2_with fail
              go_quiet (fail)
              go_wp2
              go_ret
              exact ⟨rfl, below_drewN hBa nq⟩
            · clear hl
              go_wp2_with fail
              ((with_reducible refine (name_any nm _ hx true HN.out).mono ?_); rintro e w1 ⟨rfl, rfl⟩)
              go_wp2_with fail
              go_quiet (fail)
              go_wp2
              go_ret
              exact ⟨rfl, below_drewN hBa nq⟩
          | true =>
            rw [hl, if_neg (by simp)] at HJ
            obtain ⟨f1, f2⟩ := leq_no hl
            clear hl
            by_cases hz : d1 = 0 ∧ d2 = 0
            · obtain ⟨rfl, rfl⟩ := hz
              simp only [Int.natCast_zero] at q0'
              rw [if_pos rfl] at HJ
              obtain rfl := HJ.out
              clear HJ
              go_wp2_with fail
              ((with_reducible refine (name_any nm _ hx true HN.out).mono ?_); rintro e w1 ⟨rfl, rfl⟩)
              go_wp2_with fail
              go_quiet (fail)
              go_wp2
              go_ret
              exact ⟨rfl, below_drewN hBa nq⟩
            · rw [if_neg (by simpa using hz)] at HJ
              have ez : (((d1 : Nat) : Int) == 0 && ((d2 : Nat) : Int) == 0) = false := by simp; omega
              clear hz
              go_wp2_with fail
              ((with_reducible refine (name_any nm _ hx true HN.out).mono ?_); rintro e w1 ⟨rfl, rfl⟩)
              go_wp2_with fail
              go_quiet (fail)
              go_wp2
              go_roundw
              case rel => exact ⟨j + 2, by omega, by go_num, HJ, below_drewN hBa nq⟩
              case measure => simp [intOf]; omega
    · have HJ := HJ.out
      rw [ents_end (by omega)] at HJ
      subst HJ
      go_wp2
      go_ret
      exact ⟨rfl, hBr⟩
end Go.Proofs.Ytiaahjoldahlnaa
