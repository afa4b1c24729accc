/- For every list and claim, DigestForged returns true and leaves its arguments as they were: if a proof verifies another digest than the one that has the place, two different strings with the same digest are hashed on the way to the root. No condition. -/
import Derived.Test.YtamhokedekhocaaForged10
import Derived.Test.YtamhokedekhocaaForged9
namespace Go.Proofs.Ytamhokedekhocaa
open Go.ChangeShapes Go.WideShapes Go.ChangeAt Go.RowKit

theorem forged_any (x0 x1 n i : Int) (d : Dig) (L M : List Dig) (va vp : Value) (w : World) (hL : IsDigs w va L) (hM : IsDigs w vp M) (sd : Small d) (sL : ∀ y ∈ L, Small y) (sM : ∀ y ∈ M, Small y) :
    Calls Try.prog 9 #[va, .agg #[.int .u64 x0, .int .u64 x1, .int .i64 n, .int .i64 i, .int .u64 d.1, .int .u64 d.2, vp]] w fun e w' => e = .returned (.bool true) ∧ Below w.heap.size w w' := by
  have hL' := hL
  have hM' := hM
  obtain ⟨a, cap, rfl, h1, h2, _⟩ := hL'
  obtain ⟨a2, cap2, rfl, g1, g2, _⟩ := hM'
  have hl : L.length ≤ maxLen := Nat.le_trans h1 h2
  have hm : M.length ≤ maxLen := Nat.le_trans g1 g2
  by_cases c1 : 20 < L.length
  · exact forged_long x0 x1 n i d.1 d.2 a a2 _ cap _ cap2 hl hm c1 w
  by_cases c2 : 50 < M.length
  · exact forged_proof x0 x1 n i d.1 d.2 a a2 _ cap _ cap2 hl hm (by omega) c2 w
  by_cases c3 : i < 0
  · exact forged_neg x0 x1 n i d.1 d.2 a a2 _ cap _ cap2 hl hm (by omega) (by omega) c3 w
  by_cases c4 : (L.length : Int) ≤ i
  · exact forged_past x0 x1 n i d.1 d.2 a a2 _ cap _ cap2 hl hm (by omega) (by omega) (by omega) c4 w
  obtain ⟨j, rfl⟩ := Int.eq_ofNat_of_zero_le (show 0 ≤ i by omega)
  have hj : j < L.length := by omega
  obtain ⟨b, off, cap', e, q1, q2, hb, htake, hdrop, hc⟩ := hL.parts (by intro e; rw [e] at hj; simp at hj)
  simp only [Value.slice.injEq] at e
  obtain ⟨rfl, -, rfl⟩ := e
  obtain ⟨x, hx⟩ : ∃ x, L[j]? = some x := ⟨_, List.getElem?_eq_getElem hj⟩
  have hcx := hc j x hx
  by_cases c5 : d = x
  · subst c5
    exact forged_same x0 x1 n d.1 d.2 d.1 d.2 a2 b off j _ cap _ cap2 hl hm (by omega) (by omega) hj w hb hcx.1 hcx.2 rfl rfl
  have hne : (((d.1 : Nat) : Int) == ((x.1 : Nat) : Int) && ((d.2 : Nat) : Int) == ((x.2 : Nat) : Int)) = false := by
    rw [Bool.and_eq_false_iff]
    by_cases e1 : d.1 = x.1
    · right
      have : ¬ d.2 = x.2 := fun e2 => c5 (Prod.ext e1 e2)
      simpa using (by omega : ¬ ((d.2 : Nat) : Int) = ((x.2 : Nat) : Int))
    · left
      simpa using (by omega : ¬ ((d.1 : Nat) : Int) = ((x.1 : Nat) : Int))
  have r23 : ∀ W, Below w.heap.size w W → Calls Try.prog 23 #[.slice (some ⟨b, off, none⟩) L.length cap] W fun e w' => e = .returned (rootT (L.length + 1) L).v ∧ Below W.heap.size W w' := fun W hW => root_any (L.length + 1) L W _ (by omega) (by omega) (hL.below hW)
  have r26 : ∀ W, Below w.heap.size w W → Calls Try.prog 26 #[.agg #[.int .u64 ((rootT (L.length + 1) L).1 : Int), .int .u64 ((rootT (L.length + 1) L).2 : Int)], .int .i64 L.length, .int .i64 j, d.v, .slice a2 M.length cap2] W fun e w' => e = .returned (.bool (verM ((rootT (L.length + 1) L).1 : Int) ((rootT (L.length + 1) L).2 : Int) L.length j d M)) ∧ Below W.heap.size W w' := fun W hW => verify_any _ _ _ _ d M _ W (hM.below hW)
  cases hV : verM ((rootT (L.length + 1) L).1 : Int) ((rootT (L.length + 1) L).2 : Int) L.length j d M with
  | false =>
    rw [hV] at r26
    exact forged_bad x0 x1 n d.1 d.2 x.1 x.2 a2 b off j _ cap _ cap2 hl hm (by omega) (by omega) hj w hb hcx.1 hcx.2 hne _ _ r23 r26
  | true =>
    rw [hV] at r26
    have hroot : rootM L.length j d M.reverse = (rootT (L.length + 1) L, true) := by
      unfold verM at hV
      rw [if_neg (by omega)] at hV
      simp only [Int.toNat_natCast, Bool.and_eq_true, beq_iff_eq] at hV
      obtain ⟨v1, v2, v3⟩ := hV
      have e1 : (rootM L.length j d M.reverse).1 = rootT (L.length + 1) L := Prod.ext (Int.ofNat_inj.1 v2) (Int.ofNat_inj.1 v3)
      exact Prod.ext e1 v1
    exact forged_good x0 x1 n d.1 d.2 x.1 x.2 a2 b off j _ cap _ cap2 hl hm (by omega) (by omega) hj w hb hcx.1 hcx.2 hne _ _ r23 r26
      (fun W hW => apart_any d sd M.reverse L j x W _ _ (by omega) sL (fun y hy => sM y (by simpa using hy)) hx c5 hroot (hL.below hW) (by rw [List.reverse_reverse]; exact hM.below hW))

/-- One digest's reading: two numbers below 2^64. -/
theorem digest_cellsS {H : Type} {enc : TypeId × Value → H} {W : World} {b0 : Nat} {spare : Nat → Bool} {held : Bool} {fuel : Nat} {cs : List Value} {x : DataW H × List MemPlace}
    (hf : DataW.trod enc Try.prog W b0 spare held fuel 24 cs = some x) : ∃ d : Dig, cs = [.int .u64 d.1, .int .u64 d.2] ∧ Small d := by
  obtain ⟨xs, m, _, _, hl0, hl, hi⟩ := DataW.trod_array Try.underlying24 hf
  rw [cells24] at hl0
  obtain ⟨c0, c1, rfl⟩ : ∃ c0 c1, cs = [c0, c1] := by
    match cs, hl0 with
    | [a, b], _ => exact ⟨a, b, rfl⟩
  obtain ⟨y0, y1, rfl⟩ : ∃ y0 y1, xs = [y0, y1] := by
    match xs, hl with
    | [a, b], _ => exact ⟨a, b, rfl⟩
  have h0 := hi 0 (by omega)
  have h1 := hi 1 (by omega)
  simp [cells22] at h0 h1
  obtain ⟨x0, e0, rfl, w0⟩ := DataW.trod_int Try.underlying22 h0
  obtain ⟨x1, e1, rfl, w1⟩ := DataW.trod_int Try.underlying22 h1
  simp at e0 e1
  subst e0 e1
  have u0 := bounds_u64 w0
  have u1 := bounds_u64 w1
  obtain ⟨n0, rfl⟩ := Int.eq_ofNat_of_zero_le u0.1
  obtain ⟨n1, rfl⟩ := Int.eq_ofNat_of_zero_le u1.1
  exact ⟨(n0, n1), rfl, by show n0 < 2 ^ 64; omega, by show n1 < 2 ^ 64; omega⟩
/-- A slice of digests that came in. -/
theorem open_digsS {H : Type} {enc : TypeId × Value → H} {W : World} {b0 : Nat} {spare : Nat → Bool} {held : Bool} {fuel : Nat} {cs : List Value} {x : DataW H × List MemPlace}
    (hf : DataW.trod enc Try.prog W b0 spare held fuel 35 cs = some x) : ∃ v L, cs = [v] ∧ IsDigs W v L ∧ ∀ y ∈ L, Small y := by
  rcases DataW.trod_slice Try.underlying35 hf with ⟨rfl, _⟩ | ⟨a, len, cap, elems, rest, m, _, rfl, _, hb0, hl, hm, hlen, hel, _, _⟩
  · exact ⟨_, [], rfl, ⟨none, 0, rfl, by simp, Nat.zero_le _, .inl rfl⟩, by simp⟩
  · have each : ∀ i, i < len → ∃ d : Dig, W.cells? b0 (a.add (i * 2)) 2 = some [.int .u64 d.1, .int .u64 d.2] ∧ Small d := by
      intro i hi
      have h := hel i hi
      rw [cells24, List.getElem?_eq_getElem (by omega)] at h
      obtain ⟨cs2, h1, h2⟩ := Option.bind_eq_some_iff.1 h
      obtain ⟨d, rfl, hs⟩ := digest_cellsS h2
      exact ⟨d, h1, hs⟩
    obtain ⟨f, hfn⟩ := Go.Deep.choose_lt each
    refine ⟨_, (List.range len).map f, rfl, ⟨some a, cap, by simp, by simpa using hl, hm, ?_⟩, fun y hy => ?_⟩
    · by_cases h0 : len = 0
      · left; simp [h0]
      · right
        have hat : ∀ i, i < len → W.cell? (a.add (i * 2)) = some (.int .u64 (f i).1) ∧ W.cell? (a.add (i * 2 + 1)) = some (.int .u64 (f i).2) := by
          intro i hi
          have h1 := (World.cells?_some (hfn i hi).1).2.2
          have c0 := h1 0 (by omega)
          have c1 := h1 1 (by omega)
          rw [Go.Deep.add_add] at c0 c1
          exact ⟨by simpa using c0, by simpa using c1⟩
        have hblk := World.cells?_block (hfn 0 (by omega)).1 (by omega)
        obtain ⟨b, off, spot⟩ := a
        have hs := World.cell?_spot (hat 0 (by omega)).1
        simp [Addr.add] at hs
        subst hs
        refine ⟨b, off, rfl, by simpa [Addr.add] using hblk, fun j d hj => ?_⟩
        have hj2 : j < len := by
          have := (List.getElem?_eq_some_iff.1 hj).1
          simpa using this
        rw [List.getElem?_map, List.getElem?_range hj2] at hj
        simp at hj
        subst hj
        have := hat j hj2
        rcases Nat.eq_zero_or_pos j with rfl | hp
        · simpa [Addr.add] using this
        · have hne : ¬ j * 2 = 0 := by omega
          simpa [Addr.add, Nat.add_assoc, hne] using this
    · obtain ⟨k, hk, rfl⟩ := List.mem_map.1 hy
      exact (hfn k (List.mem_range.1 hk)).2
/-- A claim that came in. -/
theorem open_claimS {H : Type} {enc : TypeId × Value → H} {W : World} {b0 : Nat} {spare : Nat → Bool} {held : Bool} {fuel : Nat} {cs : List Value} {x : DataW H × List MemPlace}
    (hf : DataW.trod enc Try.prog W b0 spare held fuel 42 cs = some x) : ∃ (x0 x1 n i : Int) (d : Dig) (v : Value) (L : List Dig), cs = [.int .u64 x0, .int .u64 x1, .int .i64 n, .int .i64 i, .int .u64 d.1, .int .u64 d.2, v] ∧ IsDigs W v L ∧ Small d ∧ ∀ y ∈ L, Small y := by
  cases fuel with
  | zero => simp [DataW.trod] at hf
  | succ m =>
    unfold DataW.trod at hf
    rw [Try.underlying42] at hf
    simp only [cells42] at hf
    split at hf
    · rename_i hl
      obtain ⟨c0, c1, c2, c3, c4, c5, c6, rfl⟩ := list7 cs hl
      simp [cells24, cells35, cells3, Option.bind_eq_some_iff] at hf
      obtain ⟨_, _, h0, _, ⟨_, _, h2, _, ⟨_, _, h3, _, ⟨_, _, h4, _, ⟨_, _, h6, _⟩, _⟩, _⟩, _⟩, _⟩ := hf
      obtain ⟨d0, e0, _⟩ := digest_cellsS h0
      obtain ⟨d1, e1, s1⟩ := digest_cellsS h4
      obtain ⟨n, e2, _, _⟩ := DataW.trod_int Try.underlying3 h2
      obtain ⟨i, e3, _, _⟩ := DataW.trod_int Try.underlying3 h3
      obtain ⟨v, L, e6, hv, sL⟩ := open_digsS h6
      simp only [List.cons.injEq, and_true] at e0 e1 e2 e3 e6
      obtain ⟨rfl, rfl⟩ := e0
      obtain ⟨rfl, rfl⟩ := e1
      subst e2 e3 e6
      exact ⟨_, _, n, i, d1, _, L, rfl, hv, s1, sL⟩
    · cases hf

set_option maxRecDepth 100000 in
theorem forged_lifted (os : Os) (started : os.Started) (H : Type) (enc : TypeId × Value → H) :
    ReturnsInHanded {} Try.checked os 9 .any (Rows.digestForgedSpec.pre6 enc Try.prog Try.f9 Rows.digestForgedRow.domain false) (Rows.digestForgedSpec.post enc Try.prog Try.f9 false true false false) := by
  refine returnsInHanded_of_change (C := Try.checked) ownK started (by kernel_rfl) Try.func9
    (ChangeSpec.witness6 (enc := enc) (C := Try.checked) false ⟨#[], #[.slice none 0 0, .agg #[.int .u64 0, .int .u64 0, .int .i64 0, .int .i64 0, .int .u64 0, .int .u64 0, .slice none 0 0]], []⟩ 8 (by kernel_rfl) (by kernel_rfl) (by kernel_rfl) (by kernel_rfl)) ?_
  intro W base args ds gs before hval0 hW hcnd _
  have hval : ∀ (j : Nat) t v, Try.f9.params[j]? = some t → args[j]? = some v → Value.okWide Try.prog W .any base t v := hval0
  have hW' := hW
  obtain ⟨p, q, hA0, hV, rfl, hfz, hnd⟩ := hW
  have hA : DataW.TrodAll enc Try.prog W 0 (fun _ => true) true Try.f9.params.toList args.toList ds p := hA0
  rw [Try.params9] at hA hval
  obtain ⟨v0, v1, d0, d1, p0, p1, rfl, rfl, rfl, h0, h1⟩ := trodAll_two hA
  obtain ⟨rfl, rfl⟩ := trodVars_none hV
  have k0 := h0
  have lt0 : ∀ x ∈ p0, x.block < W.heap.size := by obtain ⟨m, hm⟩ := k0; exact DataW.trod_lt m _ _ _ hm
  have k1 := h1
  have lt1 : ∀ x ∈ p1, x.block < W.heap.size := by obtain ⟨m, hm⟩ := k1; exact DataW.trod_lt m _ _ _ hm
  obtain ⟨a0, len0, cap0, rfl⟩ := okWide_slice Try.underlying35 (hval 0 35 v0 rfl rfl)
  obtain ⟨L, hdigs, sL⟩ : ∃ L, IsDigs W (.slice a0 len0 cap0) L ∧ ∀ y ∈ L, Small y := by
    obtain ⟨fuel, hf⟩ := h0
    obtain ⟨v, L, e, h, hs⟩ := open_digsS hf
    simp [Value.cells] at e
    rw [e]
    exact ⟨L, h, hs⟩
  obtain ⟨cs, rfl, hsz, _⟩ : ∃ cs, v1 = .agg cs ∧ cs.size = Try.prog.cellsOf 42 ∧ Row.okWide Try.prog W .any base 42 cs := by
    have := hval 1 42 v1 rfl rfl
    simpa [Value.okWide, Try.underlying42] using this
  obtain ⟨x0, x1, n, i, d, v, M, hcs, hM, sd, sM⟩ : ∃ (x0 x1 n i : Int) (d : Dig) (v : Value) (L : List Dig), cs.toList = [.int .u64 x0, .int .u64 x1, .int .i64 n, .int .i64 i, .int .u64 d.1, .int .u64 d.2, v] ∧ IsDigs W v L ∧ Small d ∧ ∀ y ∈ L, Small y := by
    obtain ⟨fuel, hf⟩ := h1
    exact open_claimS hf
  obtain rfl : cs = #[.int .u64 x0, .int .u64 x1, .int .i64 n, .int .i64 i, .int .u64 d.1, .int .u64 d.2, v] := by
    cases cs; simp at hcs; rw [hcs]
  clear hA0 hval0
  refine (forged_any x0 x1 n i d L M _ v W hdigs hM sd sL sM).mono fun e W' ⟨he, bel⟩ => ?_
  subst he
  exact ⟨_, rfl, _, _, _, [], _, [], hW', trodAll_mk1 (shut_bool Try.underlying4 _), (trodAll_cons_mk (Below.trod laidOut (by kernel_rfl) (of_decide_eq_true (by kernel_rfl)) k0 bel lt0) (trodAll_cons_mk (Below.trod laidOut (by kernel_rfl) (of_decide_eq_true (by kernel_rfl)) k1 bel lt1) trodAll_mk0)), rfl, bel.frame _, fun h => by cases h⟩

theorem forged_holds : Rows.DigestForgedSaid :=
  OpenClaim.holds_of_wide 9 Try.f9 rfl rfl rfl rfl rfl rfl rfl ⟨rfl, rfl, rfl, rfl, rfl⟩ rfl rfl rfl rfl rfl (by kernel_rfl) Try.func9 (by kernel_rfl)
    (of_decide_eq_true (by kernel_rfl)) (by unfold Func.isWrapper; rw [if_neg (of_decide_eq_false (by kernel_rfl))]; exact ⟨rfl, rfl⟩)
    (fun os started H enc _ => forged_lifted os started H enc)
#print axioms forged_holds
end Go.Proofs.Ytamhokedekhocaa
