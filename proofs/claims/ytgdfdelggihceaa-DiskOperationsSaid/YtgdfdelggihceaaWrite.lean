/- disk.Write, at this translation. -/
import Derived.Test.YtgdfdelggihceaaSmall
import Derived.Test.YtgdfdelggihceaaKeep
import Derived.Deep.RegionHeld3
import Derived.RangeFuncBox
import Derived.Deep.RegionLawGrows
import Derived.Deep.DeepCutAuto
namespace Go.Proofs.Ytgdfdelggihceaa
open Go.RowKit

theorem under24 : Try.prog.underlying 24 = some (.slice 44) := by kernel_rfl
/-- The cells of writes. -/
def wCells (L : List (Int × ByteArray)) : List Value := L.flatMap fun e => [.int .i64 e.1, .string e.2]
theorem wCells_append (L R : List (Int × ByteArray)) : wCells (L ++ R) = wCells L ++ wCells R := by simp [wCells]
theorem wCells_length (L : List (Int × ByteArray)) : (wCells L).length = L.length * 2 := by
  induction L with
  | nil => rfl
  | cons e L ih => simp only [wCells, List.flatMap_cons, List.length_append, List.length_cons, List.length_nil] at ih ⊢; omega
theorem wCells_at (L : List (Int × ByteArray)) (j : Nat) (h : j < L.length) : (wCells L)[j * 2]? = some (.int .i64 L[j].1) ∧ (wCells L)[j * 2 + 1]? = some (.string L[j].2) := by
  induction L generalizing j with
  | nil => simp at h
  | cons e L ih =>
    cases j with
    | zero => simp [wCells]
    | succ j =>
      have i := ih j (by simpa using h)
      have e4 : ∀ o, (wCells (e :: L))[(j + 1) * 2 + o]? = (wCells L)[j * 2 + o]? := fun o => by
        show ([_, _] ++ wCells L)[_]? = _
        rw [List.getElem?_append_right (by simp; omega)]
        congr 1; simp; omega
      exact ⟨(e4 0).trans i.1, (e4 1).trans i.2⟩
theorem wCells_in (L : List (Int × ByteArray)) (j : Nat) (u : Value) (h : (wCells L)[j]? = some u) : ∃ k o, ∃ hk : k < L.length, j = k * 2 + o ∧ o < 2 ∧ (o = 0 → u = .int .i64 L[k].1) ∧ (o = 1 → u = .string L[k].2) := by
  have hj : j < (wCells L).length := (List.getElem?_eq_some_iff.1 h).1
  rw [wCells_length] at hj
  have hk : j / 2 < L.length := by omega
  obtain ⟨a, b⟩ := wCells_at L (j / 2) hk
  refine ⟨j / 2, j % 2, hk, by omega, by omega, fun e => ?_, fun e => ?_⟩
  · rw [show j = j / 2 * 2 by omega, a] at h; exact (Option.some.inj h).symm
  · rw [show j = j / 2 * 2 + 1 by omega, b] at h; exact (Option.some.inj h).symm
theorem ws_own {W : World} {B : Nat} {v : Value} {L : List (Int × ByteArray)} (h : W.ownsRow B 44 2 v L.length (wCells L)) (hL : L.length ≤ maxLen) : IsWs W v L := by
  rcases h.2 with ⟨rfl, h0⟩ | ⟨g, cap, cur, rfl, hg, hh, h3, h4, _⟩
  · have : L = [] := List.eq_nil_of_length_eq_zero h0
    subst this
    exact isWs_nil W
  · refine ⟨_, cap, rfl, hL, h3, .inr ⟨g, 0, rfl, (h.lt g rfl).2, fun j hj => ?_⟩⟩
    obtain ⟨a, b⟩ := wCells_at L j hj
    have key : ∀ o, (⟨g, 0, none⟩ : Addr).add o = ⟨g, 0 + o, none⟩ := fun o => by
      rcases Nat.eq_zero_or_pos o with rfl | h0
      · simp [Addr.add]
      · simp [Addr.add, show o ≠ 0 by omega]
    have f := fun o u hu => (congrArg W.cell? (key o)).symm.trans (h.cells (g := g) rfl o u hu)
    exact ⟨f _ _ a, f _ _ b⟩
theorem ws_own' {W : World} {B : Nat} {v : Value} {L : List (Int × ByteArray)} {n : Nat} (hn : n = L.length) (h : W.ownsRow B 44 2 v n (wCells L)) (hL : L.length ≤ maxLen) : IsWs W v L := by
  subst hn
  exact ws_own h hL
theorem own_firm {W : World} {B : Nat} {v : Value} {n : Nat} {xs : List Value} (h : W.ownsRow B 44 2 v n xs) (W' : World) (_h1 : W.heap.size ≤ W'.heap.size) (h2 : ∀ k, B ≤ k → k < W.heap.size → W'.heap[k]? = W.heap[k]?) : W'.ownsRow B 44 2 v n xs := by
  refine ⟨h.1, h.2.imp id ?_⟩
  rintro ⟨g, cap, cur, e, hg, hh, h3⟩
  exact ⟨g, cap, cur, e, hg, (h2 g hg (Array.getElem?_eq_some_iff.1 hh).1).trans hh, h3⟩
theorem ws_lies {W : World} {ao : Option Addr} {cap : Nat} {L : List (Int × ByteArray)} (h : IsWs W (.slice ao L.length cap) L) : ∀ b, ao = some b → ∀ j u, (wCells L)[j]? = some u → W.cell? (b.add j) = some u := by
  intro b hb j u hu
  obtain ⟨k, o, hk, rfl, ho, h0, h1⟩ := wCells_in L j u hu
  obtain ⟨_, _, e, _, _, hc⟩ := h
  cases e
  obtain ⟨b1, off, e, _, hc⟩ := hc.resolve_left (by intro e; rw [e] at hk; simp at hk)
  rw [hb] at e
  cases e
  rw [Addr.add_lit]
  obtain ⟨c0, c1⟩ := hc k hk
  match o, ho with
  | 0, _ => rw [h0 rfl]; exact c0
  | 1, _ => rw [h1 rfl]; exact c1
theorem ws_none {W : World} {ao : Option Addr} {cap : Nat} {L : List (Int × ByteArray)} (h : IsWs W (.slice ao L.length cap) L) : ao = none → L.length = 0 ∧ L.length = 0 := by
  intro e
  obtain ⟨_, _, e2, _, _, hc⟩ := h
  cases e2
  rcases hc with rfl | ⟨b, off, e3, _⟩
  · exact ⟨rfl, rfl⟩
  · rw [e] at e3; cases e3

theorem step_clip {ops : Array Oper} {o : Oper} {a : Act} {w : World} {K : Act → World → Prop} {Q : Exit → Act → World → Prop} {E : Prop}
    (hg : o.guard = none) (s : Nat) (hop : o.op = Op.call { callee := Callee.value (Operand.func 35), args := #[.tmp s], argTypes := #[24] })
    (ao : Option Addr) (n cap : Nat) (hs : a.eval (.tmp s) = .slice ao n cap) (hn : n ≤ cap) (hm : n ≤ maxLen) (hK : K (a.put o.dst (.slice ao n n)) w) :
    if Region.wanted o (yielded ops a.tmps) = true then Oper.wp Try.prog o a w K Q else E := by
  have hw : Region.wanted o (yielded ops a.tmps) = true := by simp [Region.wanted, hg]
  rw [if_pos hw]
  have hs' : a.tmps[s]?.getD undef = .slice ao n cap := by simpa [Act.eval] using hs
  unfold Oper.wp
  simp [execOp, hop, go_sem]
  rw [hs']
  refine (clip_any ao n cap hn hm _).mono ?_
  rintro e w' ⟨rfl, rfl⟩
  simpa [Act.put] using hK
theorem Bx.setP {N : Nat} {sz : Int} {vs vp : Value} {lf : Int} {W : World} (h : Bx N sz vs vp lf W) (vp' : Value) : Bx N sz vs vp' lf (W.setCell ⟨N, 2, none⟩ vp') := by
  obtain ⟨z0, z1, z2, z3, g0, g1, g2, g3, lt⟩ := h
  refine ⟨?_, ?_, ?_, ?_, ?_, ?_, ?_, ?_, by simpa [World.setCell] using lt⟩ <;>
    simp [World.cell?_setCell_other, World.cell?_setCell_same', World.frozen?_setCell, z0, z1, z2, z3, g0, g1, g2, g3]
theorem Bx.other {N : Nat} {sz : Int} {vs vp : Value} {lf : Int} {W : World} (h : Bx N sz vs vp lf W) {M : Nat} (hne : N ≠ M) (o : Nat) (u : Value) : Bx N sz vs vp lf (W.setCell ⟨M, o, none⟩ u) := by
  have hM := Below.heap_setCell W ⟨M, o, none⟩ u N hne
  have c := fun k => World.cell?_of_block (a := ⟨N, k, none⟩) hM
  have c' := fun k => World.frozen?_of_block (a := ⟨N, k, none⟩) hM
  exact ⟨(c 0).trans h.c0, (c 1).trans h.c1, (c 2).trans h.c2, (c 3).trans h.c3, (c' 0).trans h.f0, (c' 1).trans h.f1, (c' 2).trans h.f2, (c' 3).trans h.f3, by simpa [World.setCell] using h.lt⟩
theorem own_set {W : World} {B : Nat} {v : Value} {n : Nat} {xs : List Value} (h : W.ownsRow B 44 2 v n xs) {N : Nat} (hN : N < B) (o : Nat) (u : Value) : (W.setCell ⟨N, o, none⟩ u).ownsRow B 44 2 v n xs := by
  refine ⟨h.1, h.2.imp id ?_⟩
  rintro ⟨g, cap, cur, e, hg, hh, h3⟩
  exact ⟨g, cap, cur, e, hg, (Below.heap_setCell W ⟨N, o, none⟩ u g (by show g ≠ N; omega)).trans hh, h3⟩
theorem own_set4 {W : World} {B : Nat} {v : Value} {n : Nat} {xs : List Value} (h : W.ownsRow B 44 2 v n xs) {N : Nat} (hN : N < B) (x0 x1 x2 x3 : Value) : (set4 W N x0 x1 x2 x3).ownsRow B 44 2 v n xs :=
  own_set (own_set (own_set (own_set h hN 0 x0) hN 1 x1) hN 2 x2) hN 3 x3
theorem cell_two_new (W : World) (a b : Value) (t : TypeId) : ∀ j u, [a, b][j]? = some u → (W.alloc (.cells #[a, b] t)).cell? ((⟨W.heap.size, 0, none⟩ : Addr).add j) = some u := by
  intro j u h
  match j, h with
  | 0, h => simpa [Addr.add, World.cell?_alloc_new] using h
  | 1, h => simpa [Addr.add, World.cell?_alloc_new] using h
  | j + 2, h => simp at h
theorem two_one (s : Int) (x : ByteArray) : ∀ u ∈ [Value.int .i64 s, .string x], u.oneCell' = true := by
  intro u hu
  simp at hu
  rcases hu with rfl | rfl <;> rfl

set_option maxHeartbeats 1000000 in
theorem write_bad (D : Dk) (hf : D.Fit) (c : Int) (hc : chk D = c) (h0 : c ≠ 0) (v : Value) (w : World) (hv : IsDisk w v D) (s : Int) (x : ByteArray) :
    Calls Try.prog 18 #[v, .int .i64 s, .string x] w fun e w' => ∃ v', e = .returned (.tuple #[v', .int .i64 1]) ∧ IsDisk w' v' Dk.zero ∧ Keeps w v D w' v' Dk.zero ∧ Below w.heap.size w w' := by
  have hv0 := Lib.hid hv
  obtain ⟨_, _, rfl, ⟨a, cap, rfl, hln, hcap, _⟩, ⟨b, cap2, rfl, hm, hcap2, _⟩⟩ := hv
  have hB := ((Below.refl w.heap.size w).alloc (Nat.le_refl _) (.cells #[.int .i64 D.size, .slice a D.secs.length cap, .slice b D.pend.length cap2, .int .i64 D.left] 26)).alloc (by simp) (.cells #[.int .i64 0, .slice none 0 0, .slice none 0 0, .int .i64 0] 26)
  have x1 := Bx.fresh 0 (.slice none 0 0) (.slice none 0 0) 0 (w.alloc (.cells #[.int .i64 D.size, .slice a D.secs.length cap, .slice b D.pend.length cap2, .int .i64 D.left] 26))
  rw [World.size_alloc] at x1
  have hne : (c != 0) = true := by simpa using h0
  have HC := Lib.hid hc
  clear hc h0
  go_enter Try.func18, Try.ntmps18
  go_wp2_with fail
  ((with_reducible refine (check_any D hf _ _ (hv0.out.below hB (Nat.le_refl _)) c HC.out).mono ?_); rintro e w1 ⟨rfl, hb1⟩)
  have B1 := hB.trans (hb1.mono hB.size)
  obtain ⟨q0, q1, q2, q3, g0, g1, g2, g3, qlt⟩ := x1.below hb1 x1.lt
  go_wp2
  exact bodyPost_ret (v := .tuple #[dv 0 (.slice none 0 0) (.slice none 0 0) 0, .int .i64 1]) (by simp [results, Try.results18, go_sem, q0, q1, q2, q3, World.cell?_setCell_other, World.cell?_setCell_same']) rfl ⟨_, rfl, isDisk_zero _, keeps_zero _ _ _ _, below_set4 B1 (by simp) _ _ _ _⟩

set_option maxHeartbeats 2000000 in
theorem write_cw (D : Dk) (hf : D.Fit) (hok : D.Ok) (v : Value) (w : World) (hv : IsDisk w v D) (s : Int) (x : ByteArray) (hx : x.size ≤ maxLen) (c : Int) (hc : cw D s x = c) (h0 : c ≠ 0) :
    Calls Try.prog 18 #[v, .int .i64 s, .string x] w fun e w' => ∃ v', e = .returned (.tuple #[v', .int .i64 c]) ∧ IsDisk w' v' Dk.zero ∧ Keeps w v D w' v' Dk.zero ∧ Below w.heap.size w w' := by
  have hv0 := Lib.hid hv
  obtain ⟨_, _, rfl, ⟨a, cap, rfl, hln, hcap, _⟩, ⟨b, cap2, rfl, hm, hcap2, _⟩⟩ := hv
  have hB := ((Below.refl w.heap.size w).alloc (Nat.le_refl _) (.cells #[.int .i64 D.size, .slice a D.secs.length cap, .slice b D.pend.length cap2, .int .i64 D.left] 26)).alloc (by simp) (.cells #[.int .i64 0, .slice none 0 0, .slice none 0 0, .int .i64 0] 26)
  have x0 := (Bx.fresh D.size (.slice a D.secs.length cap) (.slice b D.pend.length cap2) D.left w).alloc (.cells #[.int .i64 0, .slice none 0 0, .slice none 0 0, .int .i64 0] 26)
  have x1 := Bx.fresh 0 (.slice none 0 0) (.slice none 0 0) 0 (w.alloc (.cells #[.int .i64 D.size, .slice a D.secs.length cap, .slice b D.pend.length cap2, .int .i64 D.left] 26))
  rw [World.size_alloc] at x1
  have hne : (c != 0) = true := by simpa using h0
  have HC := Lib.hid hc
  clear hc h0
  go_enter Try.func18, Try.ntmps18
  go_wp2_with fail
  ((with_reducible refine (check_any D hf _ _ (hv0.out.below hB (Nat.le_refl _)) 0 ((chk_zero D).2 hok)).mono ?_); rintro e w1 ⟨rfl, hb1⟩)
  have B1 := hB.trans (hb1.mono hB.size)
  have y0 := Lib.hid (x0.below hb1 x0.lt)
  have y1 := Lib.hid (x1.below hb1 x1.lt)
  clear x0 x1 hb1 hB
  obtain ⟨q0, q1, q2, q3, g0, g1, g2, g3, qlt⟩ := y0.out
  have Ba := B1.alloc B1.size (.cells #[.int .i64 s, .string x] 44)
  go_wp2_with fail
  ((with_reducible refine (cw_any D _ _ _ _ s x hx hln c HC.out _).mono ?_); rintro e w2 ⟨rfl, hb2⟩)
  have B2 := Ba.trans (hb2.mono Ba.size)
  have z1 := (y1.out.alloc (.cells #[.int .i64 s, .string x] 44)).below hb2 (by simp; have := y1.out.lt; omega)
  clear q0 q1 q2 q3 g0 g1 g2 g3 qlt
  obtain ⟨q0, q1, q2, q3, g0, g1, g2, g3, qlt⟩ := z1
  go_wp2
  exact bodyPost_ret (v := .tuple #[dv 0 (.slice none 0 0) (.slice none 0 0) 0, .int .i64 c]) (by simp [results, Try.results18, go_sem, q0, q1, q2, q3, World.cell?_setCell_other, World.cell?_setCell_same']) rfl ⟨_, rfl, isDisk_zero _, keeps_zero _ _ _ _, below_set4 B2 (by simp) _ _ _ _⟩

set_option maxHeartbeats 2000000 in
theorem write_lost (D : Dk) (hf : D.Fit) (hok : D.Ok) (v : Value) (w : World) (hv : IsDisk w v D) (s : Int) (x : ByteArray) (hx : x.size ≤ maxLen) (hc : cw D s x = 0) (h0 : D.left = 0) :
    Calls Try.prog 18 #[v, .int .i64 s, .string x] w fun e w' => ∃ v', e = .returned (.tuple #[v', .int .i64 20]) ∧ IsDisk w' v' D ∧ Keeps w v D w' v' D ∧ Below w.heap.size w w' := by
  have hv0 := Lib.hid hv
  obtain ⟨_, _, rfl, ⟨a, cap, rfl, hln, hcap, _⟩, ⟨b, cap2, rfl, hm, hcap2, _⟩⟩ := hv
  have hB := ((Below.refl w.heap.size w).alloc (Nat.le_refl _) (.cells #[.int .i64 D.size, .slice a D.secs.length cap, .slice b D.pend.length cap2, .int .i64 D.left] 26)).alloc (by simp) (.cells #[.int .i64 0, .slice none 0 0, .slice none 0 0, .int .i64 0] 26)
  have x0 := (Bx.fresh D.size (.slice a D.secs.length cap) (.slice b D.pend.length cap2) D.left w).alloc (.cells #[.int .i64 0, .slice none 0 0, .slice none 0 0, .int .i64 0] 26)
  have x1 := Bx.fresh 0 (.slice none 0 0) (.slice none 0 0) 0 (w.alloc (.cells #[.int .i64 D.size, .slice a D.secs.length cap, .slice b D.pend.length cap2, .int .i64 D.left] 26))
  rw [World.size_alloc] at x1
  have HC := Lib.hid hc
  have H0 := Lib.hid h0
  clear hc h0
  go_enter Try.func18, Try.ntmps18
  go_wp2_with fail
  ((with_reducible refine (check_any D hf _ _ (hv0.out.below hB (Nat.le_refl _)) 0 ((chk_zero D).2 hok)).mono ?_); rintro e w1 ⟨rfl, hb1⟩)
  have B1 := hB.trans (hb1.mono hB.size)
  have y0 := Lib.hid (x0.below hb1 x0.lt)
  have y1 := Lib.hid (x1.below hb1 x1.lt)
  clear x0 x1 hb1 hB
  obtain ⟨q0, q1, q2, q3, g0, g1, g2, g3, qlt⟩ := y0.out
  have Ba := B1.alloc B1.size (.cells #[.int .i64 s, .string x] 44)
  go_wp2_with fail
  ((with_reducible refine (cw_any D _ _ _ _ s x hx hln 0 HC.out _).mono ?_); rintro e w2 ⟨rfl, hb2⟩)
  have B2 := Ba.trans (hb2.mono Ba.size)
  have z0 := Lib.hid ((y0.out.alloc (.cells #[.int .i64 s, .string x] 44)).below hb2 (by simp; have := y0.out.lt; omega))
  have z1 := Lib.hid ((y1.out.alloc (.cells #[.int .i64 s, .string x] 44)).below hb2 (by simp; have := y1.out.lt; omega))
  clear q0 q1 q2 q3 g0 g1 g2 g3 qlt y0 y1
  obtain ⟨q0, q1, q2, q3, g0, g1, g2, g3, qlt⟩ := z0.out
  rw [H0.out] at q3
  go_wp2_with fail
  ((with_reducible refine (power_zero D.size a b _ cap _ cap2 _).mono ?_); rintro e w3 ⟨rfl, hb3⟩)
  have B3 := B2.trans (hb3.mono B2.size)
  have u0 := z0.out.below hb3 z0.out.lt
  have u1 := z1.out.below hb3 z1.out.lt
  rw [H0.out] at u0
  clear q0 q1 q2 q3 g0 g1 g2 g3 qlt z0 z1
  obtain ⟨q0, q1, q2, q3, g0, g1, g2, g3, qlt⟩ := u0
  obtain ⟨r0, r1, r2, r3, k0, k1, k2, k3, rlt⟩ := u1
  have SB := below_set4 (below_set4 B3 (g := w.heap.size) (Nat.le_refl _) (.int .i64 D.size) (.slice a D.secs.length cap) (.slice b D.pend.length cap2) (.int .i64 0)) (g := w.heap.size + 1) (by simp) (.int .i64 D.size) (.slice a D.secs.length cap) (.slice b D.pend.length cap2) (.int .i64 0)
  go_wp2
  exact bodyPost_ret (v := .tuple #[dv D.size (.slice a D.secs.length cap) (.slice b D.pend.length cap2) 0, .int .i64 20]) (by simp [results, Try.results18, go_sem, r0, r1, r2, r3, World.cell?_setCell_other, World.cell?_setCell_same']) rfl ⟨_, rfl, by
    have := hv0.out.below SB (Nat.le_refl _)
    rw [H0.out] at this
    exact this, by
    intro lo hi hh h
    have t := h.below SB (Nat.le_refl _)
    rw [H0.out] at t
    exact t, SB⟩

set_option maxHeartbeats 4000000 in
theorem write_ok (D : Dk) (hf : D.Fit) (hok : D.Ok) (v : Value) (w : World) (hv : IsDisk w v D) (s : Int) (x : ByteArray) (hx : x.size ≤ maxLen) (hc : cw D s x = 0) (h0 : D.left ≠ 0) (hhi : D.left ≤ 9223372036854775807) (hp : D.pend.length ≤ 100000) (lf : Int) (hlf : lessI D.left = lf) :
    Calls Try.prog 18 #[v, .int .i64 s, .string x] w fun e w' => ∃ v', e = .returned (.tuple #[v', .int .i64 0]) ∧ IsDisk w' v' ⟨D.size, D.secs, D.pend ++ [(s, x)], lf⟩ ∧ Keeps w v D w' v' ⟨D.size, D.secs, D.pend ++ [(s, x)], lf⟩ ∧ Below w.heap.size w w' := by
  have hv0 := Lib.hid hv
  obtain ⟨_, _, rfl, ⟨a, cap, rfl, hln, hcap, hcs⟩, ⟨b, cap2, rfl, hm, hcap2, hcp⟩⟩ := hv
  have W2 : Hid (IsWs w (.slice b D.pend.length cap2) D.pend) := Lib.hid ⟨b, cap2, rfl, hm, hcap2, hcp⟩
  have S2 : Hid (IsStrs w (.slice a D.secs.length cap) D.secs) := Lib.hid ⟨a, cap, rfl, hln, hcap, hcs⟩
  clear hcs hcp
  have hB := ((Below.refl w.heap.size w).alloc (Nat.le_refl _) (.cells #[.int .i64 D.size, .slice a D.secs.length cap, .slice b D.pend.length cap2, .int .i64 D.left] 26)).alloc (by simp) (.cells #[.int .i64 0, .slice none 0 0, .slice none 0 0, .int .i64 0] 26)
  have x0 := (Bx.fresh D.size (.slice a D.secs.length cap) (.slice b D.pend.length cap2) D.left w).alloc (.cells #[.int .i64 0, .slice none 0 0, .slice none 0 0, .int .i64 0] 26)
  have x1 := Bx.fresh 0 (.slice none 0 0) (.slice none 0 0) 0 (w.alloc (.cells #[.int .i64 D.size, .slice a D.secs.length cap, .slice b D.pend.length cap2, .int .i64 D.left] 26))
  rw [World.size_alloc] at x1
  have HC := Lib.hid hc
  have H0 := Lib.hid h0
  have HLF := Lib.hid hlf
  clear hc h0 hlf
  go_enter Try.func18, Try.ntmps18
  go_wp2_with fail
  ((with_reducible refine (check_any D hf _ _ (hv0.out.below hB (Nat.le_refl _)) 0 ((chk_zero D).2 hok)).mono ?_); rintro e w1 ⟨rfl, hb1⟩)
  have B1 := hB.trans (hb1.mono hB.size)
  have y0 := Lib.hid (x0.below hb1 x0.lt)
  have y1 := Lib.hid (x1.below hb1 x1.lt)
  clear x0 x1 hb1 hB
  obtain ⟨q0, q1, q2, q3, g0, g1, g2, g3, qlt⟩ := y0.out
  have Ba := B1.alloc B1.size (.cells #[.int .i64 s, .string x] 44)
  have m0 : (w1.alloc (.cells #[.int .i64 s, .string x] 44)).cell? ⟨w1.heap.size, 0, none⟩ = some (.int .i64 s) := by simp [World.cell?_alloc_new]
  have m1 : (w1.alloc (.cells #[.int .i64 s, .string x] 44)).cell? ⟨w1.heap.size, 1, none⟩ = some (.string x) := by simp [World.cell?_alloc_new]
  go_wp2_with fail
  ((with_reducible refine (cw_any D _ _ _ _ s x hx hln 0 HC.out _).mono ?_); rintro e w2 ⟨rfl, hb2⟩)
  have B2 := Ba.trans (hb2.mono Ba.size)
  have ltM : w1.heap.size < (w1.alloc (.cells #[.int .i64 s, .string x] 44)).heap.size := by simp
  have m0' := (hb2.cell (p := ⟨w1.heap.size, 0, none⟩) ltM).trans m0
  have m1' := (hb2.cell (p := ⟨w1.heap.size, 1, none⟩) ltM).trans m1
  have ltM2 : w1.heap.size < w2.heap.size := Nat.lt_of_lt_of_le ltM hb2.size
  have z0 := Lib.hid ((y0.out.alloc (.cells #[.int .i64 s, .string x] 44)).below hb2 (by simp; have := y0.out.lt; omega))
  have z1 := Lib.hid ((y1.out.alloc (.cells #[.int .i64 s, .string x] 44)).below hb2 (by simp; have := y1.out.lt; omega))
  have gM : w.heap.size + 1 < w1.heap.size := y1.out.lt
  have M0 := Lib.hid m0'
  have M1 := Lib.hid m1'
  clear q0 q1 q2 q3 g0 g1 g2 g3 qlt y0 y1 m0 m1 m0' m1' hb2 ltM
  obtain ⟨q0, q1, q2, q3, g0, g1, g2, g3, qlt⟩ := z0.out
  go_wp2_with fail
  ((with_reducible refine (power_some D.size a b _ cap _ cap2 D.left lf H0.out hok.left hhi HLF.out _).mono ?_); rintro e w3 ⟨rfl, hb3⟩)
  have B3 := B2.trans (hb3.mono B2.size)
  have u0 := z0.out.below hb3 z0.out.lt
  have u1 := z1.out.below hb3 z1.out.lt
  have M0' := Lib.hid ((hb3.cell (p := ⟨w1.heap.size, 0, none⟩) ltM2).trans M0.out)
  have M1' := Lib.hid ((hb3.cell (p := ⟨w1.heap.size, 1, none⟩) ltM2).trans M1.out)
  have ltM3 : w1.heap.size < w3.heap.size := Nat.lt_of_lt_of_le ltM2 hb3.size
  clear q0 q1 q2 q3 g0 g1 g2 g3 qlt z0 z1 M0 M1 hb3 ltM2
  have U0 := Lib.hid u0
  have U1 := Lib.hid u1
  obtain ⟨q0, q1, q2, q3, g0, g1, g2, g3, qlt⟩ := u0
  go_upto_region 9 with fail
  have hne : w1.heap.size ≠ w.heap.size := by omega
  have V0 := U0.out.set4 D.size (.slice a D.secs.length cap) (.slice b D.pend.length cap2) lf
  have B4 := below_set4 B3 (g := w.heap.size) (Nat.le_refl _) (.int .i64 D.size) (.slice a D.secs.length cap) (.slice b D.pend.length cap2) (.int .i64 lf)
  have hM := heap_set4 w3 w.heap.size (.int .i64 D.size) (.slice a D.secs.length cap) (.slice b D.pend.length cap2) (.int .i64 lf) w1.heap.size hne
  have hM1 := heap_set4 w3 w.heap.size (.int .i64 D.size) (.slice a D.secs.length cap) (.slice b D.pend.length cap2) (.int .i64 lf) (w.heap.size + 1) (by omega)
  have hsz := size_set4 w3 w.heap.size (.int .i64 D.size) (.slice a D.secs.length cap) (.slice b D.pend.length cap2) (.int .i64 lf)
  clear q0 q1 q2 q3 g0 g1 g2 g3 qlt
  simp only [set4] at V0 B4 hM hM1 hsz
  generalize (((w3.setCell ⟨w.heap.size, 0, none⟩ (.int .i64 D.size)).setCell ⟨w.heap.size, 1, none⟩ (.slice a D.secs.length cap)).setCell ⟨w.heap.size, 2, none⟩ (.slice b D.pend.length cap2)).setCell ⟨w.heap.size, 3, none⟩ (.int .i64 lf) = w4 at V0 B4 hM hM1 hsz ⊢
  have n0 : w4.cell? ⟨w1.heap.size, 0, none⟩ = some (.int .i64 s) := (World.cell?_of_block (a := ⟨w1.heap.size, 0, none⟩) hM).trans M0'.out
  have n1 : w4.cell? ⟨w1.heap.size, 1, none⟩ = some (.string x) := (World.cell?_of_block (a := ⟨w1.heap.size, 1, none⟩) hM).trans M1'.out
  have U1' : Bx (w.heap.size + 1) 0 (.slice none 0 0) (.slice none 0 0) 0 w4 := by
    have c := fun o => World.cell?_of_block (a := ⟨w.heap.size + 1, o, none⟩) hM1
    have c' := fun o => World.frozen?_of_block (a := ⟨w.heap.size + 1, o, none⟩) hM1
    exact ⟨(c 0).trans U1.out.c0, (c 1).trans U1.out.c1, (c 2).trans U1.out.c2, (c 3).trans U1.out.c3, (c' 0).trans U1.out.f0, (c' 1).trans U1.out.f1, (c' 2).trans U1.out.f2, (c' 3).trans U1.out.f3, by rw [hsz]; exact U1.out.lt⟩
  have W4 := W2.out.below B4 (Nat.le_refl _)
  have start : w4.drew.cell? ⟨w.heap.size, 2, none⟩ = some (.slice b D.pend.length cap2) ∧ w4.drew.cell? ⟨w1.heap.size, 0, none⟩ = some (.int .i64 s) ∧ w4.drew.cell? ⟨w1.heap.size, 1, none⟩ = some (.string x) := ⟨V0.c2, n0, n1⟩
  have lt1 : w1.heap.size < w4.heap.size := by rw [hsz]; exact ltM3
  have lt0 : w.heap.size < w4.heap.size := V0.lt
  have ka := fun (p : Addr) (h : p.block < w4.heap.size) => ((Below.refl _ w4).alloc (Nat.le_refl _) (.cells #[.int .i64 s, .string x] 44)).cell (p := p) h
  have startA : (w4.alloc (.cells #[.int .i64 s, .string x] 44)).drew.cell? ⟨w.heap.size, 2, none⟩ = some (.slice b D.pend.length cap2) ∧ (w4.alloc (.cells #[.int .i64 s, .string x] 44)).drew.cell? ⟨w1.heap.size, 0, none⟩ = some (.int .i64 s) ∧ (w4.alloc (.cells #[.int .i64 s, .string x] 44)).drew.cell? ⟨w1.heap.size, 1, none⟩ = some (.string x) :=
    ⟨(ka _ lt0).trans V0.c2, (ka _ lt1).trans n0, (ka _ lt1).trans n1⟩
  have WA : IsWs (w4.alloc (.cells #[.int .i64 s, .string x] 44)).drew (.slice b D.pend.length cap2) D.pend := (W4.below ((Below.refl _ w4).alloc (Nat.le_refl _) (.cells #[.int .i64 s, .string x] 44)) (Nat.le_refl _)).below (Below.refl _ _).drew (Nat.le_refl _)
  have VA := (V0.alloc (.cells #[.int .i64 s, .string x] 44)).drew
  have UA := (U1'.alloc (.cells #[.int .i64 s, .string x] 44)).drew
  have BA := (B4.alloc B4.size (.cells #[.int .i64 s, .string x] 44)).drew
  have SV0 := Lib.hid V0
  have SVA := Lib.hid VA
  have SUA := Lib.hid UA
  have SWA := Lib.hid WA
  clear V0 VA UA WA U0 U1 M0' M1' hM hM1 hsz W4 n0 n1 ka U1' B1 Ba B2 B3
  obtain ⟨i0, hi, hz0, hz1, hz2⟩ := info_parts info44
  go_cut [37] (fun s37 W => ∃ vp, Bx w.heap.size D.size (.slice a D.secs.length cap) vp lf W ∧ Bx (w.heap.size + 1) 0 (.slice none 0 0) (.slice none 0 0) 0 W ∧ (∃ G, w.heap.size + 1 < G ∧ W.ownsRow G 44 2 vp (D.pend.length + 1) (wCells D.pend ++ [.int .i64 s, .string x])) ∧ Below w.heap.size w W)
  case first =>
    obtain ⟨s0, s1, s2⟩ := start
    obtain ⟨t0, t1, t2⟩ := startA
    go_region_law (first | (refine step_clip (by rfl) 33 (by rfl) b D.pend.length cap2 (by rfl) hcap2 hm ?_) | (refine step_append_grows (by rfl) (.tmp 34) (.tmp 36) 24 (by rfl) 44 i0 (.agg #[.int .i64 0, .string ⟨#[]⟩]) 2 24 under24 hi hz0 hz1 hz2 (by rfl) (by decide) b D.pend.length D.pend.length (wCells D.pend) (by rfl) (ws_none SWA.out) (wCells_length _) (ws_lies SWA.out) ⟨w4.heap.size, 0, none⟩ 1 1 [.int .i64 s, .string x] (by rfl) rfl (cell_two_new w4 _ _ _) (two_one s x) (Nat.lt_succ_self _) (by unfold maxLen; omega) (by omega) ?_; intro v' w5 hown hgrow; obtain ⟨g', cap', rfl⟩ := ownsRow_succ hown; have BG := (Below.refl _ (w4.alloc (.cells #[.int .i64 s, .string x] 44)).drew).grown hgrow (Nat.le_refl _) (fun k e => by cases e); have V5 := SVA.out.below BG SVA.out.lt; have U5 := Lib.hid ((SUA.out.below BG SUA.out.lt).other (M := w.heap.size) (by omega) 2 (.slice (some ⟨g', 0, none⟩) (D.pend.length + 1) cap')); have P5 := Lib.hid (V5.setP (.slice (some ⟨g', 0, none⟩) (D.pend.length + 1) cap')); have N5 := Lib.hid (own_set hown (N := w.heap.size) (by simp; omega) 2 (.slice (some ⟨g', 0, none⟩) (D.pend.length + 1) cap')); have B5 := (BA.trans (BG.mono BA.size)).setCell (p := ⟨w.heap.size, 2, none⟩) (Nat.le_refl _) (.slice (some ⟨g', 0, none⟩) (D.pend.length + 1) cap'); have V5f := V5.f2; have V5c := V5.c2))
    all_goals (go_wp2; go_meet)
    all_goals exact ⟨_, P5.out, U5.out, ⟨_, by simp; omega, N5.out⟩, B5⟩
  case rest =>
    obtain ⟨vp, p0, p1, ⟨G, hG, hown⟩, hb⟩ := hcut
    have N9 := Lib.hid hown
    obtain ⟨g', capn, rfl⟩ := ownsRow_succ hown
    obtain ⟨q0, q1, q2, q3, g0, g1, g2, g3, qlt⟩ := p0
    obtain ⟨r0, r1, r2, r3, k0, k1, k2, k3, rlt⟩ := p1
    have Sn := below_set4 hb (g := w.heap.size + 1) (by simp) (.int .i64 D.size) (.slice a D.secs.length cap) (.slice (some ⟨g', 0, none⟩) (D.pend.length + 1) capn) (.int .i64 lf)
    have N10 := Lib.hid (own_set4 N9.out hG (.int .i64 D.size) (.slice a D.secs.length cap) (.slice (some ⟨g', 0, none⟩) (D.pend.length + 1) capn) (.int .i64 lf))
    clear hown N9
    go_wp2
    have key : ∀ lo hi, hi ≤ w.heap.size → FreeD lo hi w (dv D.size (.slice a D.secs.length cap) (.slice b D.pend.length cap2) D.left) D → FreeD lo hi (set4 wc (w.heap.size + 1) (.int .i64 D.size) (.slice a D.secs.length cap) (.slice (some ⟨g', 0, none⟩) (D.pend.length + 1) capn) (.int .i64 lf)) (dv D.size (.slice a D.secs.length cap) (.slice (some ⟨g', 0, none⟩) (D.pend.length + 1) capn) lf) ⟨D.size, D.secs, D.pend ++ [(s, x)], lf⟩ := by
      intro lo hi hh hf2 W' s1 s2
      obtain ⟨vs, vp, e, f1, _⟩ := (hf2.below Sn (Nat.le_refl _)) W' s1 s2
      cases e
      refine ⟨_, _, rfl, f1, ?_⟩
      have := own_firm N10.out W' s1 (fun k hk hk2 => s2 k hk2 (.inr (by omega)))
      exact ws_own' (n := D.pend.length + 1) (L := D.pend ++ [(s, x)]) (by simp) (by rw [wCells_append]; exact this) (by rw [List.length_append]; unfold maxLen; simp; omega)
    exact bodyPost_ret (v := .tuple #[dv D.size (.slice a D.secs.length cap) (.slice (some ⟨g', 0, none⟩) (D.pend.length + 1) capn) lf, .int .i64 0]) (by simp [results, Try.results18, go_sem, r0, r1, r2, r3, World.cell?_setCell_other, World.cell?_setCell_same']) rfl ⟨_, rfl, (key 0 0 (Nat.zero_le _) (fun W' h1 h2 => (free_old hv0.out 0) W' h1 fun k hk _ => h2 k hk (.inr (Nat.zero_le _)))).disk, key, Sn⟩
end Go.Proofs.Ytgdfdelggihceaa
