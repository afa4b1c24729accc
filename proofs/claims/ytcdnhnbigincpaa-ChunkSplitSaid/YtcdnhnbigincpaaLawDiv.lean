/- For every data and parameters ChunkDivides returns true and leaves its arguments as they were. No condition. -/
import Derived.Test.YtcdnhnbigincpaaOpen
import Derived.BigQuiet
namespace Go.Proofs.Ytcdnhnbigincpaa
open Go.ChangeShapes Go.WideShapes Go.ChangeAt Go.RowKit
open Go.ChangeMaps (open_string shut_string)

theorem check_any (a b c d : Int) (r : Int) (hr : chkP a b c d = r) (w : World) : Calls Try.prog 16 #[pv a b c d] w fun e w' => e = .returned (.int .i64 r) ∧ Below w.heap.size w w' :=
  (callsIn_wide (n := 1)).1 (check_in 1 a b c d r hr w)

set_option maxHeartbeats 2000000 in
theorem div_big (s : ByteArray) (hm : s.size ≤ maxLen) (h : 400 < s.size) (a b c d : Int) (w : World) :
    Calls Try.prog 5 #[.string s, pv a b c d] w fun e w' => e = .returned (.bool true) ∧ Below w.heap.size w w' := by
  unfold maxLen at hm
  have hB := (Below.refl w.heap.size w).alloc (Nat.le_refl _) (.cells #[.int .i64 a, .int .i64 b, .int .i64 c, .int .i64 d] 23)
  have hp : (400 : Int) < s.size := by omega
  go_enter Try.func5, Try.ntmps5
  go_wp2_with fail
  ((with_reducible refine (awake_any _).mono ?_); rintro e w2 ⟨rfl, hb2⟩)
  go_wp2
  go_ret
  exact ⟨rfl, hB.trans (hb2.mono hB.size)⟩

set_option maxHeartbeats 2000000 in
theorem div_err (s : ByteArray) (h : s.size ≤ 400) (a b c d : Int) (r : Int) (hr : chkP a b c d = r) (h0 : r ≠ 0) (w : World) :
    Calls Try.prog 5 #[.string s, pv a b c d] w fun e w' => e = .returned (.bool true) ∧ Below w.heap.size w w' := by
  have hB := (Below.refl w.heap.size w).alloc (Nat.le_refl _) (.cells #[.int .i64 a, .int .i64 b, .int .i64 c, .int .i64 d] 23)
  have x := PBox.new w a b c d
  have c0 := x.c0
  have c1 := x.c1
  have c2 := x.c2
  have c3 := x.c3
  have hp : ¬ (400 : Int) < s.size := by omega
  have hne : (r != 0) = true := by simpa using h0
  have HA := Lib.hid (show chkA a b c d [s] = r by rw [chkA_one _ _ _ _ _ (by omega), hr])
  have HR := Lib.hid hr
  clear hr
  go_enter Try.func5, Try.ntmps5
  go_wp2_with fail
  ((with_reducible refine (split_err a b c d s (by omega) _ r HA.out h0).mono ?_); rintro e w1 ⟨rfl, hb1⟩)
  have B1 := hB.trans (hb1.mono hB.size)
  have x1 : PBox w1 w.heap.size a b c d := (hb1.block _ x.lt).trans x
  clear c0 c1 c2 c3 hb1 hB x
  have c0 := x1.c0
  have c1 := x1.c1
  have c2 := x1.c2
  have c3 := x1.c3
  go_wp2_with fail
  ((with_reducible refine (check_any a b c d r HR.out _).mono ?_); rintro e w2 ⟨rfl, hb2⟩)
  have B2 := B1.trans (hb2.mono B1.size)
  clear c0 c1 c2 c3 hb2
  go_wp2_with fail
  ((with_reducible refine (awake_any _).mono ?_); rintro e w3 ⟨rfl, hb3⟩)
  go_wp2
  go_ret
  exact ⟨rfl, B2.trans (hb3.mono B2.size)⟩

set_option maxHeartbeats 4000000 in
theorem div_ok (s : ByteArray) (h : s.size ≤ 400) (p : Pm) (hp : p.Ok) (w : World) :
    Calls Try.prog 5 #[.string s, pv p.least p.most p.window p.bits] w fun e w' => e = .returned (.bool true) ∧ Below w.heap.size w w' := by
  have hB := (Below.refl w.heap.size w).alloc (Nat.le_refl _) (.cells #[.int .i64 p.least, .int .i64 p.most, .int .i64 p.window, .int .i64 p.bits] 23)
  have x := PBox.new w p.least p.most p.window p.bits
  have c0 := x.c0
  have c1 := x.c1
  have c2 := x.c2
  have c3 := x.c3
  have hs4 : ¬ (400 : Int) < s.size := by omega
  have g := ends_good (tst := tst) hp (nats s)
  have gl := ends_len hp (nats s)
  rw [nats_length] at g gl
  obtain ⟨E, hE⟩ : ∃ E, ends tst p (nats s) = E := ⟨_, rfl⟩
  rw [hE] at g gl
  have HE := Lib.hid hE
  have HG := Lib.hid g
  clear hE g
  have pM := hp.m
  go_enter Try.func5, Try.ntmps5
  go_wp2_with fail
  ((with_reducible refine (split_ok p hp s (by omega) _).mono ?_); rintro e w1 ⟨v1, rfl, d1, hb1⟩)
  rw [HE.out] at d1
  have B1 := hB.trans (hb1.mono hB.size)
  have x1 : PBox w1 w.heap.size p.least p.most p.window p.bits := (hb1.block _ x.lt).trans x
  obtain ⟨a, cap, rfl, _, _, hc⟩ := d1
  have HC := Lib.hid hc
  clear c0 c1 c2 c3 hb1 hB x hc
  rw [pieces_length]
  go_wp2
  go_loopw [7, 36] (fun s7 s36 wr => ∃ (j : Nat) (y : ByteArray), j ≤ E.length ∧ s36 = .int .i64 j ∧ s7 = .string y ∧ Hid (y = s.extract 0 (lst 0 (E.take j))) ∧ wr = w1) (fun _ i _ => E.length - (intOf i).toNat)
  case atStart => exact ⟨0, ⟨#[]⟩, Nat.zero_le _, rfl, rfl, Lib.hid (by rw [List.take_zero]; simp [lst]; rfl), rfl⟩
  case round =>
    obtain ⟨j, y, hj, rfl, rfl, hy, rfl⟩ := hrel
    by_cases hlt : j < E.length
    · obtain ⟨g1, g2, g3, g4, g5⟩ := good_mid E 0 HG.out j hlt
      have hpl : j < (pieces s 0 E).length := by rw [pieces_length]; exact hlt
      obtain ⟨b1, o1, rfl, hb1, hcell⟩ := HC.out.resolve_left (by intro e; rw [e] at hpl; simp at hpl)
      have q : wr.cell? ⟨b1, o1 + j, none⟩ = some (.string (s.extract (lst 0 (E.take j)) E[j])) := (hcell j hpl).trans (by rw [pieces_get])
      have hy2 : Hid (y ++ s.extract (lst 0 (E.take j)) E[j] = s.extract 0 (lst 0 (E.take (j + 1)))) := Lib.hid (by
        rw [hy.out, g5, ByteArray.extract_append_extract]
        congr 1 <;> omega)
      have hz : (s.extract (lst 0 (E.take j)) E[j]).size = E[j] - lst 0 (E.take j) := by simp [ByteArray.size_extract]; omega
      generalize s.extract (lst 0 (E.take j)) E[j] = x at q hy2 hz
      rw [← hz] at g3 g4
      have f0 : 0 < x.size := by omega
      have hyx : ¬ 9223372036854775807 < y.size + x.size := by
        have e := congrArg ByteArray.size hy2.out
        simp [ByteArray.size_append, ByteArray.size_extract] at e
        omega
      clear hcell hy g1 g2 g5 hz
      have c0 := x1.c0
      have c1 := x1.c1
      have t1 : ¬ x = ByteArray.empty := by rintro rfl; simp at f0
      have t2 : ¬ (p.most : Int) < x.size := by omega
      by_cases hl : j + 1 = E.length
      · have t3 : ((j : Int) != (E.length : Int) - 1) = false := by simp; omega
        go_wp2
        all_goals go_roundw
        all_goals first
          | exact ⟨j + 1, _, by omega, by go_num, rfl, hy2, (by first | trivial | rfl)⟩
          | (simp [intOf]; omega)
      · have t3 : ¬ (x.size : Int) < p.least := by have := g4 hl; omega
        go_wp2
        all_goals go_roundw
        all_goals first
          | exact ⟨j + 1, _, by omega, by go_num, rfl, hy2, (by first | trivial | rfl)⟩
          | (simp [intOf]; omega)
    · obtain rfl : j = E.length := by omega
      have hy2 := hy.out
      rw [List.take_length, good_end E 0 HG.out] at hy2
      have : y = s := by rw [hy2]; simp
      subst this
      clear hy hy2
      go_wp2_with fail
      ((with_reducible refine (awake_any _).mono ?_); rintro e w3 ⟨rfl, hb3⟩)
      go_wp2
      go_ret
      exact ⟨rfl, B1.trans (hb3.mono B1.size)⟩

theorem div_any (s : ByteArray) (hm : s.size ≤ maxLen) (a b c d : Int) (w : World) :
    Calls Try.prog 5 #[.string s, pv a b c d] w fun e w' => e = .returned (.bool true) ∧ Below w.heap.size w w' := by
  by_cases h : 400 < s.size
  · exact div_big s hm h a b c d w
  by_cases h0 : chkP a b c d = 0
  · obtain ⟨p, hp, rfl, rfl, rfl, rfl⟩ := chkP_zero h0
    exact div_ok s (by omega) p hp w
  · exact div_err s (by omega) a b c d _ rfl h0 w

set_option maxRecDepth 100000 in
theorem div_lifted (os : Os) (started : os.Started) (H : Type) (enc : TypeId × Value → H) :
    ReturnsInHanded {} Try.checked os 5 .any (Rows.chunkDividesSpec.pre6 enc Try.prog Try.f5 Rows.chunkDividesRow.domain false) (Rows.chunkDividesSpec.post enc Try.prog Try.f5 false true false false) := by
  refine returnsInHanded_of_change (C := Try.checked) ownK started (by kernel_rfl) Try.func5
    (ChangeSpec.witness6 (enc := enc) (C := Try.checked) false ⟨#[], #[.string ⟨#[]⟩, pv 0 0 0 0], []⟩ 8 (by kernel_rfl) (by kernel_rfl) (by kernel_rfl) (by kernel_rfl)) ?_
  intro W base args ds gs before hval0 hW hcnd _
  have hval : ∀ (j : Nat) t v, Try.f5.params[j]? = some t → args[j]? = some v → Value.okWide Try.prog W .any base t v := hval0
  have hW' := hW
  obtain ⟨p, q, hA0, hV, rfl, hfz, hnd⟩ := hW
  have hA : DataW.TrodAll enc Try.prog W 0 (fun _ => true) true Try.f5.params.toList args.toList ds p := hA0
  rw [Try.params5] at hA hval
  obtain ⟨v0, v1, d0, d1, p0, p1, rfl, rfl, rfl, h0, h1⟩ := trodAll_two hA
  obtain ⟨rfl, rfl⟩ := trodVars_none hV
  have k1 := h1
  have lt1 : ∀ x ∈ p1, x.block < W.heap.size := by obtain ⟨m, hm⟩ := k1; exact DataW.trod_lt m _ _ _ hm
  obtain ⟨s, rfl, rfl, rfl, w0⟩ := open_string Try.underlying9 (hval 0 9 v0 rfl rfl) h0
  obtain ⟨a, b, c, d, rfl⟩ := open_chunking (hval 1 23 v1 rfl rfl) h1
  clear hA0 hval0
  refine (div_any s w0 a b c d W).mono fun e W' ⟨he, bel⟩ => ?_
  subst he
  exact ⟨_, rfl, _, _, _, [], _, [], hW', trodAll_mk1 (shut_bool Try.underlying4 _), (trodAll_cons_mk (shut_string Try.underlying9 w0) (trodAll_cons_mk (Below.trod laidOut (by kernel_rfl) (of_decide_eq_true (by kernel_rfl)) k1 bel lt1) trodAll_mk0)), rfl, bel.frame _, fun h => by cases h⟩

theorem div_holds : Rows.ChunkDividesSaid :=
  OpenClaim.holds_of_wide 5 Try.f5 rfl rfl rfl rfl rfl rfl rfl ⟨rfl, rfl, rfl, rfl, rfl⟩ rfl rfl rfl rfl rfl (by kernel_rfl) Try.func5 (by kernel_rfl)
    (of_decide_eq_true (by kernel_rfl)) (by unfold Func.isWrapper; rw [if_neg (of_decide_eq_false (by kernel_rfl))]; exact ⟨rfl, rfl⟩)
    (fun os started H enc _ => div_lifted os started H enc)
#print axioms div_holds
end Go.Proofs.Ytcdnhnbigincpaa
