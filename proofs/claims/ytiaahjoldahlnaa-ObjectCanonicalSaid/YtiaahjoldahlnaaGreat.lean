/- The reference's Great, at this translation. -/
import Derived.Test.YtiaahjoldahlnaaFields
namespace Go.Proofs.Ytiaahjoldahlnaa
open Go.RowKit Go.Great
attribute [local go_sem] eq_arr

/-- Of the sizes that the statements are about. -/
def Ob.Small (o : Ob) : Prop := o.data.size ≤ 200 ∧ o.ents.length ≤ 12 ∧ o.pars.length ≤ 12 ∧ o.author.size ≤ 50 ∧ o.msg.size ≤ 250 ∧ ∀ x ∈ o.ents, x.name.size ≤ 50

set_option maxRecDepth 100000 in
set_option maxHeartbeats 4000000 in
theorem great_no (o : Ob) (v : Value) (w : World) (hv : IsOb w v o) (hs : o.Small) :
    Calls Try.prog 10 #[v] w fun e w' => e = .returned (.bool false) ∧ Below w.heap.size w w' := by
  obtain ⟨ve, vp, rfl, h1, h2⟩ := hv
  obtain ⟨a, c1, rfl, m1, _, hc⟩ := h1
  obtain ⟨b, c2, rfl, m2, _, _⟩ := h2
  obtain ⟨s1, s2, s3, s4, s5, s6⟩ := hs
  have HC := Lib.hid hc
  have HS := Lib.hid s6
  clear hc s6
  obtain ⟨k, d, L, ⟨t1, t2⟩, P, au, ti, ms⟩ := o
  simp only at *
  have n1 : ¬ 200 < d.size := by omega
  have n2 : ¬ 12 < L.length := by omega
  have n3 : ¬ 12 < P.length := by omega
  have n4 : ¬ 50 < au.size := by omega
  have n5 : ¬ 250 < ms.size := by omega
  have h0 := Bo.fresh w k d (.slice a L.length c1) t1 t2 (.slice b P.length c2) au ti ms
  have hb := h0.b
  have H0 := Lib.hid h0
  clear h0
  go_enter Try.func10, Try.ntmps10
  go_wp2
  go_loopw [3] (fun s3 wr => ∃ j : Nat, j ≤ L.length ∧ s3 = .int .i64 j ∧ wr = w.alloc (oc' k d (.slice a L.length c1) t1 t2 (.slice b P.length c2) au ti ms)) (fun i _ => L.length - (intOf i).toNat)
  case atStart => exact ⟨0, Nat.zero_le _, rfl, rfl⟩
  case round =>
    obtain ⟨j, hj, rfl, rfl⟩ := hrel
    by_cases hlt : j < L.length
    · obtain ⟨b1, o1, rfl, hb1, hcell⟩ := HC.out.resolve_left (by intro e; rw [e] at hlt; simp at hlt)
      obtain ⟨p0, -, -, -⟩ := (hcell j hlt).below hb hb1
      have hx := HS.out _ (List.getElem_mem hlt)
      generalize L[j].name = x at p0 hx
      have n6 : ¬ 50 < x.size := by omega
      have c2 := H0.out.c2
      clear hcell hx
      go_wp2
      go_roundw
      case rel => exact ⟨j + 1, by omega, by go_num, trivial⟩
      case measure => simp [intOf]; omega
    · have c2 := H0.out.c2
      go_wp2
      go_ret
      exact ⟨rfl, hb⟩

set_option maxRecDepth 100000 in
set_option maxHeartbeats 4000000 in
theorem great_yes (o : Ob) (v : Value) (w : World) (hv : IsOb w v o) (hf : o.Fit) (hs : ¬ o.Small) :
    Calls Try.prog 10 #[v] w fun e w' => e = .returned (.bool true) ∧ Below w.heap.size w w' := by
  obtain ⟨ve, vp, rfl, h1, h2⟩ := hv
  obtain ⟨a, c1, rfl, m1, _, hc⟩ := h1
  obtain ⟨b, c2, rfl, m2, _, _⟩ := h2
  obtain ⟨f1, f2, f3, f4⟩ := hf
  have HC := Lib.hid hc
  have HF := Lib.hid f4
  clear hc f4
  obtain ⟨k, d, L, ⟨t1, t2⟩, P, au, ti, ms⟩ := o
  unfold Ob.Small at hs
  simp only at *
  have h0 := Bo.fresh w k d (.slice a L.length c1) t1 t2 (.slice b P.length c2) au ti ms
  have hb := h0.b
  have H0 := Lib.hid h0
  have HS := Lib.hid hs
  clear h0 hs
  by_cases n1 : 200 < d.size
  · go_enter Try.func10, Try.ntmps10
    go_wp2
    go_ret
    exact ⟨rfl, hb⟩
  by_cases n2 : 12 < L.length
  · go_enter Try.func10, Try.ntmps10
    go_wp2
    go_ret
    exact ⟨rfl, hb⟩
  by_cases n3 : 12 < P.length
  · go_enter Try.func10, Try.ntmps10
    go_wp2
    go_ret
    exact ⟨rfl, hb⟩
  by_cases n4 : 50 < au.size
  · go_enter Try.func10, Try.ntmps10
    go_wp2
    go_ret
    exact ⟨rfl, hb⟩
  by_cases n5 : 250 < ms.size
  · go_enter Try.func10, Try.ntmps10
    go_wp2
    go_ret
    exact ⟨rfl, hb⟩
  have HN : Hid (¬ ∀ x ∈ L, x.name.size ≤ 50) := Lib.hid fun h => HS.out ⟨by omega, by omega, by omega, by omega, by omega, h⟩
  clear HS
  go_enter Try.func10, Try.ntmps10
  go_wp2
  go_loopw [3] (fun s3 wr => ∃ j : Nat, j ≤ L.length ∧ s3 = .int .i64 j ∧ Hid (∀ i (h : i < L.length), i < j → L[i].name.size ≤ 50) ∧ wr = w.alloc (oc' k d (.slice a L.length c1) t1 t2 (.slice b P.length c2) au ti ms)) (fun i _ => L.length - (intOf i).toNat)
  case atStart => exact ⟨0, Nat.zero_le _, rfl, Lib.hid (fun i _ h => absurd h (Nat.not_lt_zero _)), rfl⟩
  case round =>
    obtain ⟨j, hj, rfl, HJ, rfl⟩ := hrel
    by_cases hlt : j < L.length
    · obtain ⟨b1, o1, rfl, hb1, hcell⟩ := HC.out.resolve_left (by intro e; rw [e] at hlt; simp at hlt)
      obtain ⟨p0, -, -, -⟩ := (hcell j hlt).below hb hb1
      obtain ⟨x, hx⟩ : ∃ x, L[j].name = x := ⟨_, rfl⟩
      have hxf := HF.out _ (List.getElem_mem hlt)
      rw [hx] at p0 hxf
      have HX := Lib.hid hx
      have c2 := H0.out.c2
      clear hcell hx
      by_cases n6 : 50 < x.size
      · go_wp2
        go_ret
        exact ⟨rfl, hb⟩
      · go_wp2
        go_roundw
        case rel =>
          refine ⟨j + 1, by omega, by go_num, Lib.hid fun i hi hij => ?_, trivial⟩
          rcases Nat.lt_or_ge i j with h | h
          · exact HJ.out i hi h
          · obtain rfl : i = j := by omega
            rw [HX.out]; omega
        case measure => simp [intOf]; omega
    · exact absurd (fun x hx => by
        obtain ⟨i, hi, rfl⟩ := List.getElem_of_mem hx
        exact HJ.out i hi (by omega)) HN.out
end Go.Proofs.Ytiaahjoldahlnaa
