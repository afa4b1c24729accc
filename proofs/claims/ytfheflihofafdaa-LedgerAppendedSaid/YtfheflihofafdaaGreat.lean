/- Which ledgers are larger than the statements examine, at this translation. -/
import Derived.Test.YtfheflihofafdaaCheck
namespace Go.Proofs.Ytfheflihofafdaa
open Go.RowKit Go.Great Pt Tr

def bigR (r : Rec) : Bool := decide (100 < r.data.size) || decide (100 < r.who.size) || decide (100 < r.what.size)
def bigL (L : List Rec) : Bool := decide (20 < L.length) || L.any bigR
theorem big_step (L : List Rec) (j : Nat) (h : j < L.length) : (L.drop j).any bigR = (bigR L[j] || (L.drop (j + 1)).any bigR) := by
  rw [List.drop_eq_getElem_cons h]; rfl

set_option maxRecDepth 100000 in
set_option maxHeartbeats 4000000 in
theorem great_any (L : List Rec) (v : Value) (w : World) (h : IsRecs w v L) (hf : ∀ x ∈ L, x.Fit) (q : Bool) (hq : bigL L = q) :
    Calls Try.prog 10 #[.agg #[v]] w fun e w' => e = .returned (.bool q) ∧ Below w.heap.size w w' := by
  obtain ⟨a, cap, rfl, hn, _, hc⟩ := h
  have HC := Lib.hid hc
  have HF := Lib.hid hf
  clear hc hf
  unfold maxLen at hn
  by_cases hlen : 20 < L.length
  · obtain rfl : q = true := by rw [← hq]; simp [bigL, hlen]
    clear hq
    go_enter Try.func10, Try.ntmps10
    go_wp2
    go_ret
    exact ⟨rfl, bla (Below.refl _ _) _⟩
  have HR : Hid ((L.drop 0).any bigR = q) := Lib.hid (by rw [← hq]; simp [bigL, hlen])
  clear hq
  have hlen' : ¬ (20 : Int) < L.length := by omega
  have c0 : (w.alloc (.cells #[.slice a L.length cap] 24)).cell? ⟨w.heap.size, 0, none⟩ = some (.slice a L.length cap) := by simp [World.cell?_alloc_new]
  go_enter Try.func10, Try.ntmps10
  go_wp2
  go_loopw [3] (fun s3 wr => ∃ j : Nat, j ≤ L.length ∧ s3 = .int .i64 j ∧ Hid ((L.drop j).any bigR = q) ∧ wr = w.alloc (.cells #[.slice a L.length cap] 24)) (fun i _ => L.length - (intOf i).toNat)
  case atStart => exact ⟨0, Nat.zero_le _, rfl, HR, rfl⟩
  case round =>
    obtain ⟨j, hj, rfl, HJ, rfl⟩ := hrel
    by_cases hlt : j < L.length
    · obtain ⟨b1, o1, rfl, hb1, hcell⟩ := HC.out.resolve_left (by intro e; rw [e] at hlt; simp at hlt)
      obtain ⟨p0, p1, p2, p3⟩ := (hcell j hlt).below (bla (Below.refl _ _) (.cells #[.slice (some ⟨b1, o1, none⟩) L.length cap] 24)) hb1
      have HX := Lib.hid (HF.out _ (List.getElem_mem hlt))
      have HS := Lib.hid (big_step L j hlt)
      obtain ⟨x, hx0⟩ : ∃ x, L[j] = x := ⟨_, rfl⟩
      rw [hx0] at p0 p1 p2 p3 HX HS
      obtain ⟨t, n1, n2, n3⟩ := x
      obtain ⟨f1, f2, f3⟩ := HX.out
      simp only at p0 p1 p2 p3 f1 f2 f3
      unfold maxLen at f1 f2 f3
      clear hx0 hcell HX
      by_cases g3 : (100 : Int) < (n3.size : Int)
      · have e : q = true := by rw [← HJ.out, HS.out]; simp [bigR, show 100 < n3.size by omega]
        subst e
        go_wp2
        go_ret
        exact ⟨rfl, bla (Below.refl _ _) _⟩
      · by_cases g1 : (100 : Int) < (n1.size : Int)
        · have e : q = true := by rw [← HJ.out, HS.out]; simp [bigR, show 100 < n1.size by omega]
          subst e
          go_wp2
          go_ret
          exact ⟨rfl, bla (Below.refl _ _) _⟩
        · by_cases g2 : (100 : Int) < (n2.size : Int)
          · have e : q = true := by rw [← HJ.out, HS.out]; simp [bigR, show 100 < n2.size by omega]
            subst e
            go_wp2
            go_ret
            exact ⟨rfl, bla (Below.refl _ _) _⟩
          · have HN : Hid ((L.drop (j + 1)).any bigR = q) := Lib.hid (by
              rw [← HJ.out, HS.out, show bigR ⟨t, n1, n2, n3⟩ = false from by simp [bigR]; omega]; rfl)
            go_wp2
            go_roundw
            case rel => exact ⟨j + 1, hlt, by go_num, HN, trivial⟩
            case measure => simp [intOf]; omega
    · have e : q = false := by rw [← HJ.out, List.drop_eq_nil_of_le (by omega)]; rfl
      subst e
      go_wp2
      go_ret
      exact ⟨rfl, bla (Below.refl _ _) _⟩
end Go.Proofs.Ytfheflihofafdaa
