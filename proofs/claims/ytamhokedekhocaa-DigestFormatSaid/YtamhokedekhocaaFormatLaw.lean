/- For every digest and every string, DigestFormat returns true and leaves its arguments as they were: Format and Parse return what the reference returns. -/
import Derived.Test.YtamhokedekhocaaOfLaw
import Derived.Test.YtamhokedekhocaaRefFormat
namespace Go.Proofs.Ytamhokedekhocaa
open Go.ChangeShapes Go.WideShapes Go.ChangeAt Go.RowKit
open Go.ChangeMaps (open_string shut_string)
attribute [local go_sem] eq_arr

set_option maxHeartbeats 400000 in
theorem formatLaw_long (n0 n1 : Int) (s : ByteArray) (hs : s.size ≤ maxLen) (h : 100 < s.size) (w : World) :
    Calls Try.prog 4 #[.agg #[.int .u64 n0, .int .u64 n1], .string s] w fun e w' => e = .returned (.bool true) ∧ Below w.heap.size w w' := by
  unfold maxLen at hs
  have hp : (100 : Int) < (s.size : Int) := by omega
  go_enter Try.func4, Try.ntmps4
  go_wp2_with fail
  refine (awake_any _).mono ?_
  rintro e w1 ⟨rfl, h1⟩
  go_wp2
  go_ret
  exact ⟨rfl, bl (bla (Below.refl _ _) _) h1⟩

/-- The boxes of DigestFormat: the digest, and the two digests that were parsed. -/
structure Box3 (w : World) (b c : Nat) (n0 n1 x y : Int) (w' : World) : Prop where
  d : Two w' w.heap.size n0 n1
  p : Two w' b x y
  q : Two w' c x y
  zd : w.heap.size < w'.heap.size
  zb : b < w'.heap.size
  zc : c < w'.heap.size
  below : Below w.heap.size w w'
theorem Box3.on {w W W' : World} {b c : Nat} {n0 n1 x y : Int} (h : Box3 w b c n0 n1 x y W) (hB : Below W.heap.size W W') : Box3 w b c n0 n1 x y W' :=
  ⟨h.d.below hB h.zd, h.p.below hB h.zb, h.q.below hB h.zc, Nat.lt_of_lt_of_le h.zd hB.size, Nat.lt_of_lt_of_le h.zb hB.size, Nat.lt_of_lt_of_le h.zc hB.size, bl h.below hB⟩
theorem Box3.cells {w W : World} {b c : Nat} {n0 n1 x y : Int} (h : Box3 w b c n0 n1 x y W) :
    W.cell? ⟨w.heap.size, 0, none⟩ = some (.int .u64 n0) ∧ W.cell? ⟨w.heap.size, 1, none⟩ = some (.int .u64 n1) ∧ W.cell? ⟨b, 0, none⟩ = some (.int .u64 x) ∧ W.cell? ⟨b, 1, none⟩ = some (.int .u64 y) ∧ W.cell? ⟨c, 0, none⟩ = some (.int .u64 x) ∧ W.cell? ⟨c, 1, none⟩ = some (.int .u64 y) :=
  ⟨h.d.1, h.d.2.1, h.p.1, h.p.2.1, h.q.1, h.q.2.1⟩

set_option maxHeartbeats 2000000 in
theorem formatLaw_way (n0 n1 x y e1 : Int) (s f : ByteArray) (h : s.size ≤ 100)
    (h17 : Gives 17 #[.string s] (.tuple #[.agg #[.int .u64 x, .int .u64 y], .int .i64 e1])) (h18 : Gives 18 #[.string s] (.tuple #[.agg #[.int .u64 x, .int .u64 y], .int .i64 e1]))
    (h19 : Gives 19 #[.agg #[.int .u64 n0, .int .u64 n1]] (.string f)) (h20 : Gives 20 #[.agg #[.int .u64 n0, .int .u64 n1]] (.string f)) (h10 : Gives 10 #[] (.bool true)) (w : World) :
    Calls Try.prog 4 #[.agg #[.int .u64 n0, .int .u64 n1], .string s] w fun e w' => e = .returned (.bool true) ∧ Below w.heap.size w w' := by
  have hp : ¬ (100 : Int) < (s.size : Int) := by omega
  go_enter Try.func4, Try.ntmps4
  go_wp2_with fail
  refine (h17 _).mono ?_
  rintro e w1 ⟨rfl, hb1⟩
  go_wp2_with fail
  refine (h18 _).mono ?_
  rintro e w2 ⟨rfl, hb2⟩
  go_wp2_with fail
  have start : Box3 w w1.heap.size w2.heap.size n0 n1 x y (w2.alloc (.cells #[.int .u64 x, .int .u64 y] 24)).drew := by
    have s1 := hb1.size
    have s2 := hb2.size
    rw [World.size_alloc] at s1 s2
    have t0 := ((Two.fresh w n0 n1 24).below hb1 (by simp)).alloc (by omega) (.cells #[.int .u64 x, .int .u64 y] 24)
    have t1 := (t0.below hb2 (by simp; omega)).alloc (by omega) (.cells #[.int .u64 x, .int .u64 y] 24)
    have p1 := ((Two.fresh w1 x y 24).below hb2 (by simp)).alloc (by omega) (.cells #[.int .u64 x, .int .u64 y] 24)
    exact ⟨t1, p1, Two.fresh w2 x y 24, by simp; omega, by simp; omega, by simp, (bla (bl (bla (bl (bla (Below.refl _ _) _) hb1) _) hb2) _).drew⟩
  clear hb1 hb2
  go_region_held3 (fun w' => w'.cell? ⟨w.heap.size, 0, none⟩ = some (.int .u64 n0) ∧ w'.cell? ⟨w.heap.size, 1, none⟩ = some (.int .u64 n1) ∧ w'.cell? ⟨w1.heap.size, 0, none⟩ = some (.int .u64 x) ∧ w'.cell? ⟨w1.heap.size, 1, none⟩ = some (.int .u64 y) ∧ w'.cell? ⟨w2.heap.size, 0, none⟩ = some (.int .u64 x) ∧ w'.cell? ⟨w2.heap.size, 1, none⟩ = some (.int .u64 y)) (first | exact hh.cells | exact start.cells)
    (first | (go_at_call 19; refine (h19 _).mono ?_; rintro e w' ⟨rfl, hb⟩; have hh := Box3.on (by first | exact hh | exact start) hb; clear hb) | (go_at_call 20; refine (h20 _).mono ?_; rintro e w' ⟨rfl, hb⟩; have hh := Box3.on (by first | exact hh | exact start) hb; clear hb) | (go_at_call 10; refine (h10 _).mono ?_; rintro e w' ⟨rfl, hb⟩; have hh := Box3.on (by first | exact hh | exact start) hb; clear hb))
  go_wp2
  go_ret
  exact ⟨rfl, hh.below⟩

theorem formatLaw_any (n0 n1 : Nat) (h0 : n0 < 2 ^ 64) (h1 : n1 < 2 ^ 64) (s : ByteArray) (hs : s.size ≤ maxLen) (w : World) :
    Calls Try.prog 4 #[.agg #[.int .u64 n0, .int .u64 n1], .string s] w fun e w' => e = .returned (.bool true) ∧ Below w.heap.size w w' := by
  rcases Nat.lt_or_ge 100 s.size with h | h
  · exact formatLaw_long n0 n1 s hs h w
  · by_cases hn : s.size = 32
    · by_cases hh : ∀ c ∈ s.data.toList, 0 ≤ dg c
      · exact formatLaw_way n0 n1 _ _ _ s _ h (fun w => parse_ok s w hn hh) (fun w => refParse_ok s w hn hh) (fun w => format_s n0 n1 h0 h1 w) (fun w => refFormat_any n0 n1 w) awake_any w
      · exact formatLaw_way n0 n1 _ _ _ s _ h (fun w => parse_no s w hn hh) (fun w => refParse_no s w hn hh) (fun w => format_s n0 n1 h0 h1 w) (fun w => refFormat_any n0 n1 w) awake_any w
    · exact formatLaw_way n0 n1 _ _ _ s _ h (fun w => parse_short s w hn) (fun w => refParse_short s w hn) (fun w => format_s n0 n1 h0 h1 w) (fun w => refFormat_any n0 n1 w) awake_any w

set_option maxRecDepth 100000 in
theorem formatLaw_lifted (os : Os) (started : os.Started) (H : Type) (enc : TypeId × Value → H) :
    ReturnsInHanded {} Try.checked os 4 .any (Rows.digestFormatSpec.pre6 enc Try.prog Try.f4 Rows.digestFormatRow.domain false) (Rows.digestFormatSpec.post enc Try.prog Try.f4 false true false false) := by
  refine returnsInHanded_of_change (C := Try.checked) ownK started (by kernel_rfl) Try.func4
    (ChangeSpec.witness6 (enc := enc) (C := Try.checked) false ⟨#[], #[.agg #[.int .u64 0, .int .u64 0], .string ⟨#[]⟩], []⟩ 8 (by kernel_rfl) (by kernel_rfl) (by kernel_rfl) (by kernel_rfl)) ?_
  intro W base args ds gs before hval0 hW hcnd _
  have hval : ∀ (j : Nat) t v, Try.f4.params[j]? = some t → args[j]? = some v → Value.okWide Try.prog W .any base t v := hval0
  have hW' := hW
  obtain ⟨p, q, hA0, hV, rfl, hfz, hnd⟩ := hW
  have hA : DataW.TrodAll enc Try.prog W 0 (fun _ => true) true Try.f4.params.toList args.toList ds p := hA0
  rw [Try.params4] at hA hval
  obtain ⟨v0, v1, d0, d1, p0, p1, rfl, rfl, rfl, h0, h1⟩ := trodAll_two hA
  obtain ⟨rfl, rfl⟩ := trodVars_none hV
  obtain ⟨n0, n1, b0, b1, rfl, rfl, back⟩ := open_digest (hval 0 24 v0 rfl rfl) h0
  obtain ⟨s, rfl, rfl, rfl, hs⟩ := open_string Try.underlying9 (hval 1 9 v1 rfl rfl) h1
  clear hA0 hval0
  refine (formatLaw_any n0 n1 b0 b1 s hs W).mono fun e W' ⟨he, bel⟩ => ?_
  subst he
  exact ⟨_, rfl, _, _, _, [], _, [], hW', trodAll_mk1 (shut_bool Try.underlying4 _), (trodAll_cons_mk (back _ _ _ _) (trodAll_cons_mk (shut_string Try.underlying9 hs) trodAll_mk0)), rfl, bel.frame _, fun h => by cases h⟩

theorem formatLaw_holds : Rows.DigestFormatSaid :=
  OpenClaim.holds_of_wide 4 Try.f4 rfl rfl rfl rfl rfl rfl rfl ⟨rfl, rfl, rfl, rfl, rfl⟩ rfl rfl rfl rfl rfl (by kernel_rfl) Try.func4 (by kernel_rfl)
    (of_decide_eq_true (by kernel_rfl)) (by unfold Func.isWrapper; rw [if_neg (of_decide_eq_false (by kernel_rfl))]; exact ⟨rfl, rfl⟩)
    (fun os started H enc _ => formatLaw_lifted os started H enc)
#print axioms formatLaw_holds
end Go.Proofs.Ytamhokedekhocaa
