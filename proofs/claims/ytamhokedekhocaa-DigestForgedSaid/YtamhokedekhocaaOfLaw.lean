/- For every string and every two digests, DigestOf returns true and leaves its arguments as they were: Of, Compare and Pair return what the reference returns. -/
import Derived.Test.YtamhokedekhocaaText
import Derived.Test.YtamhokedekhocaaPair
namespace Go.Proofs.Ytamhokedekhocaa
open Go.ChangeShapes Go.WideShapes Go.ChangeAt Go.RowKit
open Go.ChangeMaps (open_string shut_string)
attribute [local go_sem] eq_arr

set_option maxHeartbeats 400000 in
theorem ofLaw_long (s : ByteArray) (hs : s.size ≤ maxLen) (h : 300 < s.size) (a0 a1 b0 b1 : Nat) (w : World) :
    Calls Try.prog 3 #[.string s, .agg #[.int .u64 a0, .int .u64 a1], .agg #[.int .u64 b0, .int .u64 b1]] w fun e w' => e = .returned (.bool true) ∧ Below w.heap.size w w' := by
  unfold maxLen at hs
  have hp : (300 : Int) < (s.size : Int) := by omega
  go_enter Try.func3, Try.ntmps3
  go_wp2_with fail
  refine (awake_any _).mono ?_
  rintro e w1 ⟨rfl, h1⟩
  go_wp2
  go_ret
  exact ⟨rfl, bl (bla (bla (Below.refl _ _) _) _) h1⟩

/-- Function f, called with these arguments, makes memory alone and returns the value v. -/
def Gives (f : Nat) (args : Array Value) (v : Value) : Prop := ∀ w : World, Calls Try.prog f args w fun e w' => e = .returned v ∧ Below w.heap.size w w'

set_option maxHeartbeats 4000000 in
theorem ofLaw_way (s : ByteArray) (h : s.size ≤ 300) (a0 a1 b0 b1 x y p q c : Int)
    (h11 : Gives 11 #[.string s] (.agg #[.int .u64 x, .int .u64 y])) (h12 : Gives 12 #[.string s] (.agg #[.int .u64 x, .int .u64 y]))
    (h13 : Gives 13 #[.agg #[.int .u64 a0, .int .u64 a1], .agg #[.int .u64 b0, .int .u64 b1]] (.int .i64 c)) (h14 : Gives 14 #[.agg #[.int .u64 a0, .int .u64 a1], .agg #[.int .u64 b0, .int .u64 b1]] (.int .i64 c))
    (h15 : Gives 15 #[.agg #[.int .u64 a0, .int .u64 a1], .agg #[.int .u64 b0, .int .u64 b1]] (.agg #[.int .u64 p, .int .u64 q])) (h16 : Gives 16 #[.agg #[.int .u64 a0, .int .u64 a1], .agg #[.int .u64 b0, .int .u64 b1]] (.agg #[.int .u64 p, .int .u64 q])) (h10 : Gives 10 #[] (.bool true)) (w : World) :
    Calls Try.prog 3 #[.string s, .agg #[.int .u64 a0, .int .u64 a1], .agg #[.int .u64 b0, .int .u64 b1]] w fun e w' => e = .returned (.bool true) ∧ Below w.heap.size w w' := by
  have hp : ¬ (300 : Int) < (s.size : Int) := by omega
  go_enter Try.func3, Try.ntmps3
  go_wp2
  have start : Held w a0 a1 b0 b1 ((w.alloc (.cells #[.int .u64 a0, .int .u64 a1] 24)).alloc (.cells #[.int .u64 b0, .int .u64 b1] 24)).drew := by
    refine ⟨?_, by simp, (bla (bla (Below.refl _ _) _) _).drew⟩
    go_simp
  go_region_held3 (fun w' => (w'.cell? ⟨w.heap.size, 0, none⟩ = some (.int .u64 a0) ∧ w'.cell? ⟨w.heap.size, 1, none⟩ = some (.int .u64 a1) ∧ w'.cell? ⟨w.heap.size + 1, 0, none⟩ = some (.int .u64 b0) ∧ w'.cell? ⟨w.heap.size + 1, 1, none⟩ = some (.int .u64 b1)) ∧
    w.heap.size + 2 ≤ w'.heap.size ∧ Below w.heap.size w w') (first | exact hh | exact start)
    (first | (go_at_call 11; refine (h11 _).mono ?_; rintro e w' ⟨rfl, hb⟩; have hh := Held.on (by first | exact hh | exact start) hb; clear hb) | (go_at_call 12; refine (h12 _).mono ?_; rintro e w' ⟨rfl, hb⟩; have hh := Held.on (by first | exact hh | exact start) hb; clear hb) | (go_at_call 13; refine (h13 _).mono ?_; rintro e w' ⟨rfl, hb⟩; have hh := Held.on (by first | exact hh | exact start) hb; clear hb) | (go_at_call 14; refine (h14 _).mono ?_; rintro e w' ⟨rfl, hb⟩; have hh := Held.on (by first | exact hh | exact start) hb; clear hb) | (go_at_call 15; refine (h15 _).mono ?_; rintro e w' ⟨rfl, hb⟩; have hh := Held.on (by first | exact hh | exact start) hb; clear hb) | (go_at_call 16; refine (h16 _).mono ?_; rintro e w' ⟨rfl, hb⟩; have hh := Held.on (by first | exact hh | exact start) hb; clear hb) | (go_at_call 10; refine (h10 _).mono ?_; rintro e w' ⟨rfl, hb⟩; have hh := Held.on (by first | exact hh | exact start) hb; clear hb))
  go_wp2
  go_ret
  exact ⟨rfl, hh.2.2⟩

theorem ofLaw_short (s : ByteArray) (h : s.size ≤ 300) (a0 a1 b0 b1 : Nat) (w : World) :
    Calls Try.prog 3 #[.string s, .agg #[.int .u64 a0, .int .u64 a1], .agg #[.int .u64 b0, .int .u64 b1]] w fun e w' => e = .returned (.bool true) ∧ Below w.heap.size w w' :=
  have hm : s.size ≤ maxLen := Nat.le_trans h (by decide)
  ofLaw_way s h a0 a1 b0 b1 _ _ _ _ _ (fun w => of_any s w hm) (fun w => refOf_any s w hm) (fun w => compare_any a0 a1 b0 b1 w) (fun w => refCompare_any a0 a1 b0 b1 w) (fun w => pair_any a0 a1 b0 b1 w) (fun w => refPair_any a0 a1 b0 b1 w) awake_any w

theorem ofLaw_any (s : ByteArray) (hs : s.size ≤ maxLen) (a0 a1 b0 b1 : Nat) (w : World) :
    Calls Try.prog 3 #[.string s, .agg #[.int .u64 a0, .int .u64 a1], .agg #[.int .u64 b0, .int .u64 b1]] w fun e w' => e = .returned (.bool true) ∧ Below w.heap.size w w' := by
  rcases Nat.lt_or_ge 300 s.size with h | h
  · exact ofLaw_long s hs h a0 a1 b0 b1 w
  · exact ofLaw_short s h a0 a1 b0 b1 w

set_option maxRecDepth 100000 in
theorem of_lifted (os : Os) (started : os.Started) (H : Type) (enc : TypeId × Value → H) :
    ReturnsInHanded {} Try.checked os 3 .any (Rows.digestOfSpec.pre6 enc Try.prog Try.f3 Rows.digestOfRow.domain false) (Rows.digestOfSpec.post enc Try.prog Try.f3 false true false false) := by
  refine returnsInHanded_of_change (C := Try.checked) ownK started (by kernel_rfl) Try.func3
    (ChangeSpec.witness6 (enc := enc) (C := Try.checked) false ⟨#[], #[.string ⟨#[]⟩, .agg #[.int .u64 0, .int .u64 0], .agg #[.int .u64 0, .int .u64 0]], []⟩ 8 (by kernel_rfl) (by kernel_rfl) (by kernel_rfl) (by kernel_rfl)) ?_
  intro W base args ds gs before hval0 hW hcnd _
  have hval : ∀ (j : Nat) t v, Try.f3.params[j]? = some t → args[j]? = some v → Value.okWide Try.prog W .any base t v := hval0
  have hW' := hW
  obtain ⟨p, q, hA0, hV, rfl, hfz, hnd⟩ := hW
  have hA : DataW.TrodAll enc Try.prog W 0 (fun _ => true) true Try.f3.params.toList args.toList ds p := hA0
  rw [Try.params3] at hA hval
  obtain ⟨v0, v1, v2, d0, d1, d2, p0, p1, p2, rfl, rfl, rfl, h0, h1, h2⟩ := trodAll_three hA
  obtain ⟨rfl, rfl⟩ := trodVars_none hV
  obtain ⟨s, rfl, rfl, rfl, hs⟩ := open_string Try.underlying9 (hval 0 9 v0 rfl rfl) h0
  obtain ⟨n0, n1, b0, b1, rfl, rfl, back1⟩ := open_digest (hval 1 24 v1 rfl rfl) h1
  obtain ⟨m0, m1, c0, c1, rfl, rfl, back2⟩ := open_digest (hval 2 24 v2 rfl rfl) h2
  clear hA0 hval0
  refine (ofLaw_any s hs n0 n1 m0 m1 W).mono fun e W' ⟨he, bel⟩ => ?_
  subst he
  exact ⟨_, rfl, _, _, _, [], _, [], hW', trodAll_mk1 (shut_bool Try.underlying4 _), (trodAll_cons_mk (shut_string Try.underlying9 hs) (trodAll_cons_mk (back1 _ _ _ _) (trodAll_cons_mk (back2 _ _ _ _) trodAll_mk0))), rfl, bel.frame _, fun h => by cases h⟩

theorem of_holds : Rows.DigestOfSaid :=
  OpenClaim.holds_of_wide 3 Try.f3 rfl rfl rfl rfl rfl rfl rfl ⟨rfl, rfl, rfl, rfl, rfl⟩ rfl rfl rfl rfl rfl (by kernel_rfl) Try.func3 (by kernel_rfl)
    (of_decide_eq_true (by kernel_rfl)) (by unfold Func.isWrapper; rw [if_neg (of_decide_eq_false (by kernel_rfl))]; exact ⟨rfl, rfl⟩)
    (fun os started H enc _ => of_lifted os started H enc)
#print axioms of_holds
end Go.Proofs.Ytamhokedekhocaa
