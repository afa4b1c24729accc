/- chunk.chunks and its iterator, at this translation. -/
import Derived.Test.YtcdnhnbigincpaaBounds
import Derived.Test.YtcdnhnbigincpaaRange2
namespace Go.Proofs.Ytcdnhnbigincpaa
open Go.RowKit Go.Shelf
attribute [local go_sem] Oper.semAt_some

/-- The pieces between ends. -/
def pieces (s : ByteArray) : Nat → List Nat → List ByteArray
  | _, [] => []
  | b, e :: E => s.extract b e :: pieces s e E
def lst (b : Nat) : List Nat → Nat
  | [] => b
  | e :: E => lst e E
theorem pieces_snoc (s : ByteArray) (b : Nat) (E : List Nat) (e : Nat) : pieces s b (E ++ [e]) = pieces s b E ++ [s.extract (lst b E) e] := by
  induction E generalizing b with
  | nil => rfl
  | cons x E ih => simp [pieces, lst, ih]
theorem pieces_append (s : ByteArray) (b : Nat) (E R : List Nat) : pieces s b (E ++ R) = pieces s b E ++ pieces s (lst b E) R := by
  induction E generalizing b with
  | nil => rfl
  | cons x E ih => simp [pieces, lst, ih]
theorem lst_snoc (b : Nat) (E : List Nat) (e : Nat) : lst b (E ++ [e]) = e := by
  induction E generalizing b with
  | nil => rfl
  | cons x E ih => exact ih x
theorem good_at {p : Pm} {len : Nat} (pre : List Nat) (e : Nat) (suf : List Nat) (b : Nat) (h : Good p len b (pre ++ e :: suf)) : lst b pre < e ∧ e ≤ len := by
  induction pre generalizing b with
  | nil => exact ⟨h.1, h.2.1⟩
  | cons x pre ih => exact ih x h.2.2.2.2

set_option maxHeartbeats 1000000 in
theorem chunks_in (n : Nat) (s : ByteArray) (a b c d : Int) (w : World) :
    CallsIn Fence.wide n Try.prog 25 #[.string s, pv a b c d] w fun e w' =>
      e = .returned (.func (.func 31) #[] #[.pointer (some ⟨w.heap.size, 0, none⟩), .pointer (some ⟨w.heap.size + 1, 0, none⟩)]) ∧ w' = (w.alloc (.cells #[.string s] 9)).alloc (.cells #[.int .i64 a, .int .i64 b, .int .i64 c, .int .i64 d] 23) := by
  refine callsIn_of_wp Try.func25 rfl trivial ?_ rfl
  simp only [Try.ntmps25, List.size_toArray, List.length_cons, List.length_nil, Nat.reduceAdd, Nat.reduceSub, Array.replicate_succ, Array.replicate_zero, List.push_toArray, List.append_toArray, List.nil_append, List.cons_append]
  gi_wp2
  go_ret
  exact ⟨rfl, rfl⟩

/-- What a round is handed: a piece. -/
abbrev encS : ByteArray → Array Value := fun x => #[Value.string x]

theorem boxed_other {W : World} {B : Nat} {t : TypeId} {v : Value} (h : Boxed W B t v) {b : Nat} (hne : B ≠ b) (u : Value) : Boxed (W.setCell ⟨b, 0, none⟩ u) B t v :=
  (Below.heap_setCell W ⟨b, 0, none⟩ u B hne).trans h
theorem RelK.boxed {N K B : Nat} {t : TypeId} {v : Value} {A A' : World} (hr : RelK N K A A') (h : Boxed A B t v) (hB : B < N ∨ N + K ≤ B) : Boxed A' B t v := (hr.2 B h.lt (by omega)).trans h

/-- At the wide fence a round's word holds in another round, and at any depth. -/
theorem round_any {m m' l' l : Nat} {P : Program} {f : FuncId} {tmps : Array Value} {assign body : Code} {w : World} {R : Ending → World → Prop}
    (h : RoundIn Fence.wide m P l f tmps assign body w R) : RoundIn (Fence.wide.inRound l') m' P l f tmps assign body w R :=
  ⟨h.1, fun c cs _ => h.2 c cs (fun d h => by cases h)⟩

set_option maxRecDepth 100000 in
set_option maxHeartbeats 4000000 in
theorem chunks1_in (n : Nat) (hn : 3 ≤ n) (bs bp : Nat) (s : ByteArray) (p : Pm) (hp : p.Ok) (hs : s.size ≤ 100000) (w : World)
    (h1 : Boxed w bs 9 (.string s)) (h2 : PBox w bp p.least p.most p.window p.bits) :
    SeqX Fence.wide n Try.prog 31 #[.pointer (some ⟨bs, 0, none⟩), .pointer (some ⟨bp, 0, none⟩)] encS (fun k => k = bs ∨ k = bp) 7 (pieces s 0 (ends tst p (nats s))) w := by
  intro l J Jx W hW hJ hJx hY h0
  have k1 : Boxed W bs 9 (.string s) := (hW.block bs h1.lt).trans h1
  have k2 : PBox W bp p.least p.most p.window p.bits := (hW.block bp h2.lt).trans h2
  have HY := Lib.hid hY
  have HJ := Lib.hid hJ
  have HJX := Lib.hid hJx
  clear h1 h2 hW hY hJ hJx
  have hmix : Try.prog.follows .mixedOrders = true := by kernel_rfl
  have hlt1 := k1.lt
  have hlt2 := k2.lt
  have B0 := (((Below.refl W.heap.size W).alloc (Nat.le_refl _) (.cells #[.func (.yield l) #[] #[]] 61)).alloc (by simp) (.cells #[.int .i64 0] 3))
  have x0 := (Boxed.new W 61 (.func (.yield l) #[] #[])).alloc (.cells #[.int .i64 0] 3)
  have x1 := Boxed.new (W.alloc (.cells #[.func (.yield l) #[] #[]] 61)) 3 (.int .i64 0)
  rw [World.size_alloc] at x1
  have y1 : Boxed ((W.alloc (.cells #[.func (.yield l) #[] #[]] 61)).alloc (.cells #[.int .i64 0] 3)) bs 9 (.string s) := (B0.block bs hlt1).trans k1
  have y2 : PBox ((W.alloc (.cells #[.func (.yield l) #[] #[]] 61)).alloc (.cells #[.int .i64 0] 3)) bp p.least p.most p.window p.bits := (B0.block bp hlt2).trans k2
  have sz0 : ((W.alloc (.cells #[.func (.yield l) #[] #[]] 61)).alloc (.cells #[.int .i64 0] 3)).heap.size = W.heap.size + 2 := by simp
  have hJ0 : J [] ((W.alloc (.cells #[.func (.yield l) #[] #[]] 61)).alloc (.cells #[.int .i64 0] 3)) := HJ.out _ _ _ (HJ.out _ _ _ h0 (RelK.alloc _ _ _ _)) (RelK.alloc _ _ _ _)
  refine callsIn_of_wp_marks Try.func31 rfl trivial ?_ rfl
  simp only [Try.ntmps31, List.size_toArray, List.length_cons, List.length_nil, Nat.reduceAdd, Nat.reduceSub, Array.replicate_succ, Array.replicate_zero, List.push_toArray, List.append_toArray, List.nil_append, List.cons_append]
  have c1 := y1.cell
  have p0 := y2.c0
  have p1 := y2.c1
  have p2 := y2.c2
  have p3 := y2.c3
  gi_wp2
  refine ⟨trivial, fun _ => by omega, (ends_in (n - 1) s p hp _).mono ?_⟩
  rintro e w' ⟨rfl, e0, e1, e2, eB, ez⟩
  clear c1 p0 p1 p2 p3
  simp only [World.size_alloc] at e0 e1 e2 eB ez
  have z0 : Boxed w' W.heap.size 61 (.func (.yield l) #[] #[]) := (eB.block _ (by omega)).trans x0
  have z1 : Boxed w' (W.heap.size + 1) 3 (.int .i64 0) := (eB.block _ (by omega)).trans x1
  have z2 : Boxed w' bs 9 (.string s) := (eB.block _ (by omega)).trans y1
  have hJw : J [] w' := HJ.out _ _ _ hJ0 ⟨eB.mono (Nat.zero_le _), fun k hk _ => eB.block k (by rw [sz0] at hk; omega)⟩
  have good := Lib.hid (ends_good (tst := tst) hp (nats s))
  have hnl := nats_length s
  clear x0 x1 y1 y2 B0 hJ0 h0
  gi_wp2
  refine rangeFunc_Y rfl (by omega) (gf := 34) (lb := #[.pointer (some ⟨W.heap.size + 1 + 1, 0, none⟩), .pointer (some ⟨W.heap.size + 1 + 1 + 1, 0, none⟩), .pointer (some ⟨W.heap.size + 1 + 1 + 2, 0, none⟩)]) rfl trivial (enters_of Try.func34 (by kernel_rfl) rfl)
    (ends1_in (n - 1) (by omega) (W.heap.size + 1 + 1) (W.heap.size + 1 + 1 + 1) (W.heap.size + 1 + 1 + 2) s p hp hs _ rfl w' e0 e1 e2) (fun k h => by rcases h with rfl | rfl | rfl <;> omega) (Below.refl _ _) (fun _ => rfl)
    (fun pre W' => J (pieces s 0 pre) W' ∧ Boxed W' W.heap.size 61 (.func (.yield l) #[] #[]) ∧ Boxed W' (W.heap.size + 1) 3 (.int .i64 (lst 0 pre)) ∧ Boxed W' bs 9 (.string s))
    (fun c _ W' => c = .ret ∧ ∃ q, Jx q W')
    (fun pre A B h hr => ⟨HJ.out _ _ _ h.1 (hr.mono (by omega) (by omega)), hr.boxed h.2.1 (by omega), hr.boxed h.2.2.1 (by omega), hr.boxed h.2.2.2 (by omega)⟩)
    (fun c pre A B h hr => ⟨h.1, h.2.imp fun q hq => HJX.out _ _ _ hq (hr.mono (by omega) (by omega))⟩)
    ⟨hJw, z0, z1, z2⟩
    (fun e => { tmps := #[Value.func (Fn.yield l) #[] #[], .pointer (some ⟨bs, 0, none⟩), .pointer (some ⟨bp, 0, none⟩), .pointer (some ⟨W.heap.size, 0, none⟩), .pointer (some ⟨W.heap.size + 1, 0, none⟩), .int .i64 (e : Int), .string s, pv p.least p.most p.window p.bits,
        .func (.func 34) #[] #[.pointer (some ⟨W.heap.size + 1 + 1, 0, none⟩), .pointer (some ⟨W.heap.size + 1 + 1 + 1, 0, none⟩), .pointer (some ⟨W.heap.size + 1 + 1 + 2, 0, none⟩)], .int .i64 (e : Int), undef, undef, undef, undef, undef, undef, undef, undef], defers := [] }) ?assign ?body ?done ?stop
  case assign =>
    intro l x W K hK
    gi_wp2
    exact hK
  case body =>
    rintro l' pre e suf W1 hfull ⟨hJ1, b0, b1, b2⟩ hz1
    have g := good.out
    rw [hfull] at g
    obtain ⟨g1, g2⟩ := good_at pre e suf 0 g
    rw [hnl] at g2
    have hp2 : pieces s 0 (ends tst p (nats s)) = pieces s 0 pre ++ s.extract (lst 0 pre) e :: pieces s e suf := by
      rw [hfull, pieces_append]; rfl
    obtain ⟨fn, tmps, assign, body, hy, hR⟩ := HY.out (pieces s 0 pre) (s.extract (lst 0 pre) e) _ W1.drew hp2 (HJ.out _ _ _ hJ1 (RelK.drew _ _ _)) (by show W.heap.size + 7 ≤ W1.heap.size; omega)
    simp only [encS] at hy
    have hR' : RoundIn (Fence.wide.inRound l') (n - 1 - 1 - 1) Try.prog l fn tmps assign body W1.drew fun e' W' => ∃ b3 : Bool, e' = .returned (.bool b3) ∧ ((b3 = true ∧ J (pieces s 0 pre ++ [s.extract (lst 0 pre) e]) W' ∧ KpX (fun k => k = bs ∨ k = bp) W.heap.size 7 W1.drew W') ∨ (b3 = false ∧ Jx (pieces s 0 pre ++ [s.extract (lst 0 pre) e]) W' ∧ KpX (fun k => k = bs ∨ k = bp) W.heap.size 7 W1.drew W')) := by
      refine (round_any (m' := n - 1 - 1 - 1) (l' := l') hR).mono ?_
      rintro e' W' (⟨rfl, h1, h2⟩ | ⟨rfl, h1, h2⟩)
      · exact ⟨true, rfl, .inl ⟨rfl, h1, h2⟩⟩
      · exact ⟨false, rfl, .inr ⟨rfl, h1, h2⟩⟩
    clear hR
    have HSN := Lib.hid (pieces_snoc s 0 pre e)
    have HLS := Lib.hid (lst_snoc 0 pre e)
    have c0 := b0.cell
    have c1 := b1.cell
    have c2 := b2.cell
    generalize lst 0 pre = b at *
    clear g hp2
    have hsl : (Instr.slice 9 (.string s) (some (.int .i64 (b : Int))) (some (.int .i64 (e : Int))) none).run Try.prog W1.drew = .ok (.string (s.extract b e)) W1.drew := by
      have := run_slice_string (P := Try.prog) W1.drew 9 s .i64 .i64 (b : Int) (e : Int) Try.underlying9 (by omega) (by omega) (by omega)
      simpa using this
    gi_wp2
    gi_region_with_o (refine ⟨fun _ => by omega, ?_⟩; with_reducible refine hR'.mono ?_; rintro e' W3 ⟨b3, rfl, h3⟩)
    all_goals
      rcases h3 with ⟨rfl, hJ3, hk3⟩ | ⟨rfl, hJx3, hk3⟩
      · have d1 : Boxed W3 (W.heap.size + 1) 3 (.int .i64 b) := (hk3.2 _ (.inr ⟨by omega, by omega⟩)).trans b1
        have c3 := d1.cell
        have f3 := d1.frozen
        gi_wp2
        refine ⟨⟨Nat.le_trans hk3.1 (by simp [World.setCell]), fun k hk => ?_⟩, ?_, ?_, ?_, ?_⟩
        · exact (Below.heap_setCell W3 _ _ k (by show k ≠ W.heap.size + 1; omega)).trans (hk3.2 k (by omega))
        · rw [HSN.out]
          exact HJ.out _ _ _ hJ3 ⟨(Below.refl 0 W3).setCell (p := ⟨W.heap.size + 1, 0, none⟩) (Nat.zero_le _) _, fun k _ hn => Below.heap_setCell W3 _ _ k (by show k ≠ W.heap.size + 1; omega)⟩
        · exact boxed_other ((hk3.2 _ (.inr ⟨by omega, by omega⟩)).trans b0) (by omega) _
        · rw [HLS.out]; exact d1.set _
        · exact boxed_other ((hk3.2 _ (.inl (.inl rfl))).trans b2) (by omega) _
      · gi_wp2
        exact ⟨⟨hk3.1, fun k hk => hk3.2 k (by omega)⟩, rfl, _, hJx3⟩
  case done =>
    rintro D W1 rfl ⟨hJ1, b0, b1, b2⟩ hK
    gi_wp2
    refine ⟨by simp, .inl ⟨_, _, rfl, run_takeDeferred hK, ?_⟩⟩
    exact ⟨_, results_none rfl _ _ _, ⟨_, rfl⟩, .inl (HJ.out _ _ _ hJ1 (RelK.putObj _ _ _ _ _ _ hK rfl rfl (by omega) (by omega)))⟩
  case stop =>
    rintro D c pre W1 rfl ⟨rfl, q, hq⟩ hK
    gi_wp2
    refine ⟨by simp, .inl ⟨_, _, rfl, run_takeDeferred hK, ?_⟩⟩
    exact ⟨_, results_none rfl _ _ _, ⟨_, rfl⟩, .inr ⟨_, HJX.out _ _ _ hq (RelK.putObj _ _ _ _ _ _ hK rfl rfl (by omega) (by omega))⟩⟩
end Go.Proofs.Ytcdnhnbigincpaa
