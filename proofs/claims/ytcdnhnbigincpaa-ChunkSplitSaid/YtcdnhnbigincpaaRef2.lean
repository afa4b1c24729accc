/- The reference's end and Split, at this translation. -/
import Derived.Test.YtcdnhnbigincpaaRef
namespace Go.Proofs.Ytcdnhnbigincpaa
open Go.RowKit

theorem hw_extract (s : ByteArray) (w n j : Nat) (hj : n - w = j) : hs (nats (s.extract j n)) = hw w (nats s) n := by
  rw [hw, win, nats_extract, hj]

set_option maxHeartbeats 8000000 in
theorem end_any (p : Pm) (hp : p.Ok) (s : ByteArray) (hs : s.size ≤ 65536) (f : Nat) (f0 : 0 < f) (f1 : f ≤ s.size) (f2 : stops tst p (nats s) 0 f) (f3 : ∀ e, 0 < e → e < f → ¬ stops tst p (nats s) 0 e) (w : World) :
    Calls Try.prog 26 #[.string s, pv p.least p.most p.window p.bits] w fun e w' => e = .returned (.int .i64 f) ∧ Below w.heap.size w w' := by
  have hB := (Below.refl w.heap.size w).alloc (Nat.le_refl _) (.cells #[.int .i64 p.least, .int .i64 p.most, .int .i64 p.window, .int .i64 p.bits] 23)
  have x0 := PBox.new w p.least p.most p.window p.bits
  have c0 := x0.c0
  have pw := hp.w1
  have pl := hp.lw
  have pm := hp.ml
  have pM := hp.m
  have pb := hp.b
  have hnl := nats_length s
  -- where the search ends
  have uniq : Hid (∀ n, p.least ≤ n → n ≤ p.most → (∀ e, p.least ≤ e → e < n → ¬ stops tst p (nats s) 0 e) → (s.size ≤ n ∨ p.most ≤ n ∨ tst p.bits (hw p.window (nats s) n) = true) → min n s.size = f) := Lib.hid (by
    intro n n1 n2 n3 n4
    refine first_unique (l := nats s) (tst := tst) (p := p) (by omega) ?_ ?_ f0 f2 f3
    · unfold stops
      rw [hnl]
      rcases Nat.lt_or_ge n s.size with h | h
      · rw [Nat.min_eq_left (by omega)]
        rcases n4 with h4 | h4 | h4
        · exact .inr (.inr h4)
        · exact .inr (.inl (by omega))
        · exact .inl ⟨by omega, h4⟩
      · rw [Nat.min_eq_right h]; exact .inr (.inr (Nat.le_refl _))
    · intro e e1 e2 h
      rcases Nat.lt_or_ge e p.least with h5 | h5
      · rcases h with ⟨h, _⟩ | h | h <;> omega
      · exact n3 e h5 (by omega) h)
  clear f0 f2 f3
  go_enter Try.func26, Try.ntmps26
  go_wp2
  clear c0
  go_loopw [5] (fun s5 wr => ∃ n : Nat, p.least ≤ n ∧ n ≤ p.most ∧ s5 = .int .i64 n ∧ Hid (∀ e, p.least ≤ e → e < n → ¬ stops tst p (nats s) 0 e) ∧ PBox wr w.heap.size p.least p.most p.window p.bits ∧ Below w.heap.size w wr) (fun i _ => p.most - (intOf i).toNat)
  case atStart => exact ⟨p.least, Nat.le_refl _, pm, rfl, Lib.hid fun e h1 h2 => by omega, x0, hB⟩
  case round =>
    obtain ⟨n, n1, n2, rfl, hbef, x1, hBr⟩ := hrel
    by_cases h1 : n < s.size
    · have d1 : decide ((n : Int) < (s.size : Int)) = true := decide_eq_true (by omega)
      by_cases h2 : n < p.most
      · have d2 : decide ((n : Int) < (p.most : Int)) = true := decide_eq_true (by omega)
        obtain ⟨j, hj⟩ : ∃ j, n - p.window = j := ⟨_, rfl⟩
        have hji : (n : Int) - (p.window : Int) = (j : Int) := by omega
        have hwr : IntKind.i64.wrap (j : Int) = (j : Int) := by rw [IntKind.wrap_i64]; omega
        have hjn : (j : Int) ≤ (n : Int) := by omega
        have hns : (n : Int) ≤ (s.size : Int) := by omega
        have hsl : ∀ W, (Instr.slice 9 (.string s) (some (.int .i64 (j : Int))) (some (.int .i64 (n : Int))) none).run Try.prog W = .ok (.string (s.extract j n)) W := fun W => by
          have := run_slice_string (P := Try.prog) W 9 s .i64 .i64 (j : Int) (n : Int) Try.underlying9 (by omega) (by omega) (by omega)
          simpa using this
        obtain ⟨h, hh⟩ : ∃ h, hw p.window (nats s) n = h := ⟨_, rfl⟩
        have hh0 := hw_lo p.window (nats s) n
        have hh1 := hw_hi p.window (nats s) n
        have hx := hw_extract s p.window n j hj
        rw [hh] at hh0 hh1 hx
        have HX := Lib.hid hx
        have HH := Lib.hid hh
        have hxs : (s.extract j n).size ≤ 100000 := by simp [ByteArray.size_extract]; omega
        clear hx hh hj
        go_wp2
        have sc : wr.drew.cell? ⟨w.heap.size, 0, none⟩ = some (.int .i64 p.least) ∧ wr.drew.cell? ⟨w.heap.size, 1, none⟩ = some (.int .i64 p.most) ∧ wr.drew.cell? ⟨w.heap.size, 2, none⟩ = some (.int .i64 p.window) ∧ wr.drew.cell? ⟨w.heap.size, 3, none⟩ = some (.int .i64 p.bits) := ⟨x1.c0, x1.c1, x1.c2, x1.c3⟩
        cases ht : tst p.bits h
        · have HT := Lib.hid ht
          clear ht
          go_region_held3 (fun V => V.cell? ⟨w.heap.size, 0, none⟩ = some (.int .i64 p.least) ∧ V.cell? ⟨w.heap.size, 1, none⟩ = some (.int .i64 p.most) ∧ V.cell? ⟨w.heap.size, 2, none⟩ = some (.int .i64 p.window) ∧ V.cell? ⟨w.heap.size, 3, none⟩ = some (.int .i64 p.bits)) (with_reducible exact sc)
            (first | (go_at_call 33; (with_reducible refine (refHash_any _ hxs h HX.out _).mono ?_); rintro e w5 ⟨rfl, rfl⟩) | (go_at_call 32; (with_reducible refine (divisible_tst h hh0 hh1 p.bits pb _).mono ?_); rintro e w6 ⟨rfl, rfl⟩; rw [HT.out]))
          have nb : Hid (∀ e, p.least ≤ e → e < n + 1 → ¬ stops tst p (nats s) 0 e) := Lib.hid fun e e1 e2 => by
            rcases Nat.lt_or_ge e n with h3 | h3
            · exact hbef.out e e1 h3
            · obtain rfl : e = n := by omega
              rintro (⟨_, h4⟩ | h4 | h4)
              · rw [HH.out, HT.out] at h4; cases h4
              · omega
              · omega
          clear hbef
          have xd : PBox wr.drew w.heap.size p.least p.most p.window p.bits := x1
          have Bd := hBr.drew
          go_wp2
          go_roundw
          case rel => exact ⟨n + 1, by omega, by omega, by go_num, nb, xd, Bd⟩
          case measure => simp [intOf]; omega
        · have HT := Lib.hid ht
          clear ht
          go_region_held3 (fun V => V.cell? ⟨w.heap.size, 0, none⟩ = some (.int .i64 p.least) ∧ V.cell? ⟨w.heap.size, 1, none⟩ = some (.int .i64 p.most) ∧ V.cell? ⟨w.heap.size, 2, none⟩ = some (.int .i64 p.window) ∧ V.cell? ⟨w.heap.size, 3, none⟩ = some (.int .i64 p.bits)) (with_reducible exact sc)
            (first | (go_at_call 33; (with_reducible refine (refHash_any _ hxs h HX.out _).mono ?_); rintro e w5 ⟨rfl, rfl⟩) | (go_at_call 32; (with_reducible refine (divisible_tst h hh0 hh1 p.bits pb _).mono ?_); rintro e w6 ⟨rfl, rfl⟩; rw [HT.out]))
          have hf := uniq.out n n1 n2 hbef.out (.inr (.inr (by rw [HH.out]; exact HT.out)))
          have hmin : min n s.size = n := Nat.min_eq_left (by omega)
          have Bd := hBr.drew
          rw [hmin] at hf
          subst hf
          clear hbef
          go_wp2
          all_goals first
            | (go_ret; exact ⟨rfl, Bd⟩)
            | (exfalso; omega)
      · have d2 : decide ((n : Int) < (p.most : Int)) = false := decide_eq_false (by omega)
        have hf := uniq.out n n1 n2 hbef.out (.inr (.inl (by omega)))
        have hmin : min n s.size = n := Nat.min_eq_left (by omega)
        rw [hmin] at hf
        subst hf
        have c1 := x1.c1
        clear hbef
        go_wp2
        go_quiet (fail)
        have Bd := below_drewN hBr nq
        go_wp2
        all_goals first
          | (go_ret; exact ⟨rfl, Bd⟩)
          | (exfalso; omega)
    · have d1 : decide ((n : Int) < (s.size : Int)) = false := decide_eq_false (by omega)
      have hf := uniq.out n n1 n2 hbef.out (.inl (by omega))
      have hmin : min n s.size = s.size := Nat.min_eq_right (by omega)
      rw [hmin] at hf
      subst hf
      clear hbef
      go_wp2
      go_quiet (fail)
      have Bd := below_drewN hBr nq
      go_wp2
      all_goals go_ret
      · exact ⟨rfl, Bd⟩
      · have e : (n : Int) = (s.size : Int) := by omega
        exact ⟨by show Ending.returned (Value.int .i64 (n : Int)) = _; rw [e], Bd⟩
end Go.Proofs.Ytcdnhnbigincpaa
