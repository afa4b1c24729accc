/- ledger.Check, at this translation. -/
import Derived.Test.YtfheflihofafdaaValid
namespace Go.Proofs.Ytfheflihofafdaa
open Go.RowKit Go.Great Pt Tr

/-- Why records are not valid, behind one with this time. -/
def chkFrom : Int → List Rec → Int
  | _, [] => 0
  | last, r :: t => if okR r = false then 1 else if r.time < last then 10 else chkFrom r.time t
def chkL (L : List Rec) : Int := if 10000 < L.length then 19 else chkFrom 0 L
theorem chk_step (L : List Rec) (j : Nat) (h : j < L.length) (last : Int) : chkFrom last (L.drop j) = if okR L[j] = false then 1 else if L[j].time < last then 10 else chkFrom L[j].time (L.drop (j + 1)) := by
  rw [List.drop_eq_getElem_cons h]; rfl
theorem chk_end (L : List Rec) (j : Nat) (h : L.length ≤ j) (last : Int) : chkFrom last (L.drop j) = 0 := by
  rw [List.drop_eq_nil_of_le h]; rfl
theorem box_on {w w' : World} (x : Rec) (hB : Below (w.alloc (rc x)).heap.size (w.alloc (rc x)) w') : RecAt w' w.heap.size 0 x := by
  have h : RecAt (w.alloc (rc x)) w.heap.size 0 x := by refine ⟨?_, ?_, ?_, ?_⟩ <;> simp [World.cell?_alloc_new]
  exact h.below hB (by simp)

set_option maxRecDepth 100000 in
set_option maxHeartbeats 4000000 in
theorem check_any (L : List Rec) (v : Value) (w : World) (h : IsRecs w v L) (hf : ∀ x ∈ L, x.Fit) (r : Int) (hr : chkL L = r) :
    Calls Try.prog 14 #[.agg #[v]] w fun e w' => e = .returned (.int .i64 r) ∧ Below w.heap.size w w' := by
  obtain ⟨a, cap, rfl, hn, _, hc⟩ := h
  unfold maxLen at hn
  have HC := Lib.hid hc
  have HF := Lib.hid hf
  clear hc hf
  unfold chkL at hr
  by_cases hlen : 10000 < L.length
  · rw [if_pos hlen] at hr
    subst hr
    go_enter Try.func14, Try.ntmps14
    go_wp2
    go_ret
    exact ⟨rfl, bla (Below.refl _ _) _⟩
  rw [if_neg hlen] at hr
  have HR : Hid (chkFrom 0 (L.drop 0) = r) := Lib.hid hr
  clear hr
  have hlen' : ¬ (10000 : Int) < L.length := by omega
  go_enter Try.func14, Try.ntmps14
  go_wp2
  go_loopw [3, 13] (fun s3 s13 wr => ∃ (j : Nat) (last : Int), j ≤ L.length ∧ s3 = .int .i64 last ∧ s13 = .int .i64 j ∧ Hid (chkFrom last (L.drop j) = r) ∧ Below w.heap.size w wr) (fun _ i _ => L.length - (intOf i).toNat)
  case atStart => exact ⟨0, 0, Nat.zero_le _, rfl, rfl, HR, bla (Below.refl _ _) _⟩
  case round =>
    obtain ⟨j, last, hj, rfl, rfl, HJ, hBr⟩ := hrel
    by_cases hlt : j < L.length
    · obtain ⟨b1, o1, rfl, hb1, hcell⟩ := HC.out.resolve_left (by intro e; rw [e] at hlt; simp at hlt)
      obtain ⟨p0, p1, p2, p3⟩ := (hcell j hlt).below hBr hb1
      have HX := Lib.hid (HF.out _ (List.getElem_mem hlt))
      have HS := Lib.hid (chk_step L j hlt last)
      obtain ⟨x, hx0⟩ : ∃ x, L[j] = x := ⟨_, rfl⟩
      rw [hx0] at p0 p1 p2 p3 HX HS
      have hBa := hBr.alloc hBr.size (rc x)
      obtain ⟨t, n1, n2, n3⟩ := x
      simp only at p0 p1 p2 p3
      clear hx0 hcell
      cases hv : okR ⟨t, n1, n2, n3⟩ with
      | false =>
        have e : r = 1 := by rw [← HJ.out, HS.out, hv]; simp
        subst e
        go_wp2_with fail
        ((with_reducible refine (valid_any ⟨t, n1, n2, n3⟩ _ HX.out false hv).mono ?_); rintro e w1 ⟨rfl, hb⟩)
        go_wp2
        go_ret
        exact ⟨rfl, hBa.trans (hb.mono hBa.size)⟩
      | true =>
        have HV := Lib.hid hv
        clear hv
        by_cases ht : t < last
        · have e : r = 10 := by rw [← HJ.out, HS.out, HV.out]; simp [ht]
          subst e
          go_wp2_with fail
          ((with_reducible refine (valid_any ⟨t, n1, n2, n3⟩ _ HX.out true HV.out).mono ?_); rintro e w1 ⟨rfl, hb⟩)
          obtain ⟨q0, _, _, _⟩ := box_on (w := wr) ⟨t, n1, n2, n3⟩ hb
          simp only at q0
          go_wp2
          go_ret
          exact ⟨rfl, hBa.trans (hb.mono hBa.size)⟩
        · go_wp2_with fail
          ((with_reducible refine (valid_any ⟨t, n1, n2, n3⟩ _ HX.out true HV.out).mono ?_); rintro e w1 ⟨rfl, hb⟩)
          obtain ⟨q0, _, _, _⟩ := box_on (w := wr) ⟨t, n1, n2, n3⟩ hb
          simp only at q0
          go_wp2
          go_roundw
          case rel => exact ⟨j + 1, t, hlt, rfl, by go_num, Lib.hid (by rw [← HJ.out, HS.out, HV.out, if_neg (by simp), if_neg (show ¬ t < last by omega)]), hBa.trans (hb.mono hBa.size)⟩
          case measure => simp [intOf]; omega
    · have e : r = 0 := by rw [← HJ.out, chk_end L j (by omega)]
      subst e
      go_wp2
      go_ret
      exact ⟨rfl, hBr⟩
end Go.Proofs.Ytfheflihofafdaa
