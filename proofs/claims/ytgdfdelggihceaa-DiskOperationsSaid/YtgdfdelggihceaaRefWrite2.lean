/- The reference's Write: power lost, and a write that is made. -/
import Derived.Test.YtgdfdelggihceaaRefWrite
namespace Go
theorem run_append_own_bare {P : Program} {w : World} (base : Nat) (t ty e : TypeId) (i : TypeInfo) (size : Nat) (ht : P.underlying t = some (.slice e)) (hi : P.info? e = some i)
    (v : Value) (n : Nat) (xs : List Value) (hown : w.ownsRow base e size v n xs) (c : Nat) :
    (Builtin.append_ #[t, t] ty #[v, .slice none 0 c]).run P w = .ok v w := by
  rcases hown.2 with ⟨rfl, rfl⟩ | ⟨g, cap, cur, rfl, _, _, hnc, _⟩
  · simp [Builtin.append_, run_underlying ht, sizeOf, typeInfo, hi, Builtin.lenOf, Builtin.firstCells]
  · simp [Builtin.append_, run_underlying ht, sizeOf, typeInfo, hi, Builtin.lenOf, Builtin.firstCells, hnc, storeCells]

/-- append to a slice of one's own from a slice that came in, whose address may be none when it is empty. -/
theorem wpList_append_src {P : Program} {w : World} {ops : Array Oper} {rest : List Oper} {o : Oper} {a : Act} {Q : Exit → Act → World → Prop} (hgd : o.guard = none) (s x : Operand) (t : TypeId)
    (ho : o.op = .call { callee := .builtin .append, args := #[s, x], argTypes := #[t, t] })
    (base : Nat) (e : TypeId) (i : TypeInfo) (z : Value) (size bytes : Nat) (ht : P.underlying t = some (.slice e)) (hi : P.info? e = some i) (hz : i.zero = some z)
    (hsize : i.size = size) (hby : i.bytes = bytes) (hzs : z.cells.size = size) (hsz : 0 < size)
    (v : Value) (n : Nat) (xs : List Value) (hs : a.eval s = v) (hown : w.ownsRow base e size v n xs)
    (b : Option Addr) (m c : Nat) (news : List Value) (hx : a.eval x = .slice b m c) (hl : news.length = m * size) (hb : b = none → m = 0) (hnews : ∀ ad, b = some ad → ∀ j u, news[j]? = some u → w.cell? (ad.add j) = some u) (h1 : ∀ u ∈ news, u.oneCell' = true)
    (h63 : n + m ≤ maxLen) (hbytes : (n + m) * bytes ≤ 140737488355328) (hbase : base ≤ w.heap.size)
    (h : ∀ v' w', w'.ownsRow base e size v' (n + m) (xs ++ news) → w.grownBy w' v.ownBlock → wpList P ops Q rest (a.put o.dst v') w') : wpList P ops Q (o :: rest) a w := by
  cases b with
  | some ad => exact wpList_append_own w hgd s x t ho base e i z size bytes ht hi hz hsize hby hzs hsz v n xs hs hown ad m c news hx hl (hnews ad rfl) h1 h63 hbytes hbase fun v' w' h2 h3 _ => h v' w' h2 h3
  | none =>
    obtain rfl := hb rfl
    obtain rfl : news = [] := List.eq_nil_of_length_eq_zero (by omega)
    refine wpList_plain hgd fun K hK => ?_
    have hrun := run_append_own_bare (P := P) (w := w) base t o.type e i size ht hi v n xs hown c
    unfold Oper.wp
    simp [execOp, ho, resolve, invoke, builtin, hs, hx, hrun, Result.andThen]
    exact hK _ _ (h _ _ (by simpa using hown) (World.grownBy.refl _ _))
end Go
namespace Go.Proofs.Ytgdfdelggihceaa
open Go.RowKit

theorem wCells_one (L : List (Int × ByteArray)) : ∀ u ∈ wCells L, u.oneCell' = true := by
  intro u hu
  simp only [wCells, List.mem_flatMap] at hu
  obtain ⟨p, _, hu⟩ := hu
  simp at hu
  rcases hu with rfl | rfl <;> rfl

/-- What the sector and the data say when they are right. -/
theorem cw_facts {D : Dk} {s : Int} {x : ByteArray} (h : cw D s x = 0) : ¬ s < 0 ∧ ¬ (D.secs.length : Int) ≤ s ∧ (x.size : Int) = D.size := by
  unfold cw at h
  split at h
  · cases h
  · split at h
    · exact ⟨by omega, by omega, by assumption⟩
    · cases h

set_option maxHeartbeats 2000000 in
theorem refWrite_lost (D : Dk) (hf : D.Fit) (hok : D.Ok) (v : Value) (w : World) (hv : IsDisk w v D) (h0 : D.left = 0) (s : Int) (x : ByteArray) (_hx : x.size ≤ maxLen) (hc : cw D s x = 0) :
    Calls Try.prog 19 #[v, .int .i64 s, .string x] w fun e w' => ∃ v', e = .returned (.tuple #[v', .int .i64 20]) ∧ IsDisk w' v' D ∧ Below w.heap.size w w' := by
  have hv0 := Lib.hid hv
  obtain ⟨_, _, rfl, ⟨a, cap, rfl, hln, hcap, _⟩, ⟨b, cap2, rfl, hm, hcap2, _⟩⟩ := hv
  unfold maxLen at _hx hln
  have hB := ((Below.refl w.heap.size w).alloc (Nat.le_refl _) (.cells #[.int .i64 D.size, .slice a D.secs.length cap, .slice b D.pend.length cap2, .int .i64 D.left] 26)).alloc (by simp) (.cells #[.int .i64 0, .slice none 0 0, .slice none 0 0, .int .i64 0] 26)
  have x0 := (Bx.fresh D.size (.slice a D.secs.length cap) (.slice b D.pend.length cap2) D.left w).alloc (.cells #[.int .i64 0, .slice none 0 0, .slice none 0 0, .int .i64 0] 26)
  have x1 := Bx.fresh 0 (.slice none 0 0) (.slice none 0 0) 0 (w.alloc (.cells #[.int .i64 D.size, .slice a D.secs.length cap, .slice b D.pend.length cap2, .int .i64 D.left] 26))
  rw [World.size_alloc] at x1
  obtain ⟨u, u2, h4⟩ := cw_facts hc
  have t3 : (((x.size : Nat) : Int) != D.size) = false := by simp [h4]
  have H0 := Lib.hid h0
  clear h0 hc h4
  go_enter Try.func19, Try.ntmps19
  go_wp2_with fail
  ((with_reducible refine (refCheck_any D hf _ _ (hv0.out.below hB (Nat.le_refl _)) 0 ((chk_zero D).2 hok)).mono ?_); rintro e w1 ⟨rfl, hb1⟩)
  have B1 := hB.trans (hb1.mono hB.size)
  have y0 := x0.below hb1 x0.lt
  have y1 := x1.below hb1 x1.lt
  rw [H0.out] at y0
  clear x0 x1 hb1 hB
  obtain ⟨q0, q1, q2, q3, g0, g1, g2, g3, qlt⟩ := y0
  obtain ⟨r0, r1, r2, r3, k0, k1, k2, k3, rlt⟩ := y1
  have SB := below_set4 B1 (g := w.heap.size + 1) (by simp) (.int .i64 D.size) (.slice a D.secs.length cap) (.slice b D.pend.length cap2) (.int .i64 0)
  go_wp2
  exact bodyPost_ret (v := .tuple #[dv D.size (.slice a D.secs.length cap) (.slice b D.pend.length cap2) 0, .int .i64 20]) (by simp [results, Try.results19, go_sem, r0, r1, r2, r3, World.cell?_setCell_other, World.cell?_setCell_same']) rfl ⟨_, rfl, by
    have := hv0.out.below SB (Nat.le_refl _)
    rw [H0.out] at this
    exact this, SB⟩

set_option maxHeartbeats 4000000 in
theorem refWrite_ok (D : Dk) (hf : D.Fit) (hok : D.Ok) (v : Value) (w : World) (hv : IsDisk w v D) (s : Int) (x : ByteArray) (_hx : x.size ≤ maxLen) (hc : cw D s x = 0) (h0 : D.left ≠ 0) (hhi : D.left ≤ 9223372036854775807) (hp : D.pend.length ≤ 100000) (lf : Int) (hlf : lessI D.left = lf) :
    Calls Try.prog 19 #[v, .int .i64 s, .string x] w fun e w' => ∃ v', e = .returned (.tuple #[v', .int .i64 0]) ∧ IsDisk w' v' ⟨D.size, D.secs, D.pend ++ [(s, x)], lf⟩ ∧ Below w.heap.size w w' := by
  have hv0 := Lib.hid hv
  obtain ⟨_, _, rfl, ⟨a, cap, rfl, hln, hcap, hcs⟩, ⟨b, cap2, rfl, hm, hcap2, hcp⟩⟩ := hv
  have W2 : Hid (IsWs w (.slice b D.pend.length cap2) D.pend) := Lib.hid ⟨b, cap2, rfl, hm, hcap2, hcp⟩
  have S2 : Hid (IsStrs w (.slice a D.secs.length cap) D.secs) := Lib.hid ⟨a, cap, rfl, hln, hcap, hcs⟩
  clear hcs hcp
  unfold maxLen at _hx hln
  have hB := ((Below.refl w.heap.size w).alloc (Nat.le_refl _) (.cells #[.int .i64 D.size, .slice a D.secs.length cap, .slice b D.pend.length cap2, .int .i64 D.left] 26)).alloc (by simp) (.cells #[.int .i64 0, .slice none 0 0, .slice none 0 0, .int .i64 0] 26)
  have x0 := (Bx.fresh D.size (.slice a D.secs.length cap) (.slice b D.pend.length cap2) D.left w).alloc (.cells #[.int .i64 0, .slice none 0 0, .slice none 0 0, .int .i64 0] 26)
  have x1 := Bx.fresh 0 (.slice none 0 0) (.slice none 0 0) 0 (w.alloc (.cells #[.int .i64 D.size, .slice a D.secs.length cap, .slice b D.pend.length cap2, .int .i64 D.left] 26))
  rw [World.size_alloc] at x1
  obtain ⟨u, u2, h4⟩ := cw_facts hc
  have t3 : (((x.size : Nat) : Int) != D.size) = false := by simp [h4]
  have hl0 : (D.left == 0) = false := by simpa using h0
  have hlo : -1 ≤ D.left := hok.left
  have HLF := Lib.hid hlf
  clear h0 hc h4 hlf
  obtain ⟨i0, hi, hz0, hz1, hz2⟩ := info_parts info44
  go_enter Try.func19, Try.ntmps19
  go_wp2_with fail
  ((with_reducible refine (refCheck_any D hf _ _ (hv0.out.below hB (Nat.le_refl _)) 0 ((chk_zero D).2 hok)).mono ?_); rintro e w1 ⟨rfl, hb1⟩)
  have B1 := hB.trans (hb1.mono hB.size)
  have Y0 := Lib.hid (x0.below hb1 x0.lt)
  have Y1 := Lib.hid (x1.below hb1 x1.lt)
  clear x0 x1 hb1 hB
  obtain ⟨q0, q1, q2, q3, g0, g1, g2, g3, qlt⟩ := Y0.out
  go_upto_region 9 with fail
  clear q0 q1 q2 q3 g0 g1 g2 g3 qlt
  have lt1 : w.heap.size + 1 < w1.heap.size := Y1.out.lt
  have BA := B1.alloc B1.size (.cells #[] 44)
  have W3 := W2.out.below BA (Nat.le_refl _)
  have Y0a := Lib.hid (Y0.out.alloc (.cells #[] 44))
  have Y1a := Lib.hid (Y1.out.alloc (.cells #[] 44))
  obtain ⟨q0, q1, q2, q3, g0, g1, g2, g3, qlt⟩ := Y0a.out
  go_wp2_with (at_builtin; refine wpList_append_src rfl _ _ 24 rfl w1.heap.size 44 i0 (.agg #[.int .i64 0, .string ⟨#[]⟩]) 2 24 under24 hi hz0 hz1 hz2 rfl (by decide) _ 0 _ rfl (World.ownsRow_lit w1 #[] 0 (Nat.le_refl _) (Nat.zero_le _) rfl) b D.pend.length cap2 (wCells D.pend) rfl (wCells_length _) (fun e => (ws_none W3 e).1) (ws_lies W3) (wCells_one _) (by unfold maxLen; omega) (by omega) (by simp) ?_)
  intro v3 w3 hown hgrow
  have hown' : w3.ownsRow w1.heap.size 44 2 v3 D.pend.length (wCells D.pend) := by simpa using hown
  have BG := (Below.refl w1.heap.size (w1.alloc (.cells #[] 44))).grown hgrow (by simp) (fun k hk => by simp [Value.ownBlock] at hk; omega)
  have B3 := BA.trans (BG.mono (by omega))
  have Z0 := Lib.hid (Y0.out.below ((Below.refl w1.heap.size w1).alloc (Nat.le_refl _) (.cells #[] 44) |>.trans BG) Y0.out.lt)
  have Z1 := Lib.hid (Y1.out.below ((Below.refl w1.heap.size w1).alloc (Nat.le_refl _) (.cells #[] 44) |>.trans BG) Y1.out.lt)
  have sz3 : w1.heap.size ≤ w3.heap.size := by have := BG.size; simp at this; omega
  have OW3 := Lib.hid hown'
  have gB3 : ∀ k, v3.ownBlock = some k → w1.heap.size ≤ k := fun k hk => (hown'.lt k hk).1
  clear hown hgrow BG Y0a Y1a W3 BA q0 q1 q2 q3 g0 g1 g2 g3 qlt hown'
  have Z0a := Lib.hid (Z0.out.alloc (.cells #[.int .i64 s, .string x] 44))
  have Z1a := Lib.hid (Z1.out.alloc (.cells #[.int .i64 s, .string x] 44))
  obtain ⟨q0, q1, q2, q3, g0, g1, g2, g3, qlt⟩ := Z0a.out
  go_wp2_with (at_builtin; refine wpList_append_own _ rfl _ _ 24 rfl w1.heap.size 44 i0 (.agg #[.int .i64 0, .string ⟨#[]⟩]) 2 24 under24 hi hz0 hz1 hz2 rfl (by decide) v3 D.pend.length (wCells D.pend) rfl (OW3.out.alloc _) ⟨w3.heap.size, 0, none⟩ 1 1 [.int .i64 s, .string x] rfl rfl (cell_two_new w3 _ _ _) (two_one s x) (by unfold maxLen; omega) (by omega) (by simp; omega) ?_)
  intro v4 w4 hown4 hgrow4 _
  have BG4 := (Below.refl w1.heap.size (w3.alloc (.cells #[.int .i64 s, .string x] 44))).grown hgrow4 (by simp; omega) gB3
  have B4 := (B3.alloc B3.size (.cells #[.int .i64 s, .string x] 44)).trans (BG4.mono (by omega))
  obtain ⟨g, capg, rfl⟩ := ownsRow_succ hown4
  have OW4 := Lib.hid hown4
  have K0 := Lib.hid (Z0a.out.below BG4 (by omega))
  have K1 := Lib.hid (Z1a.out.below BG4 lt1)
  clear hown4 hgrow4 gB3 BG4 OW3 Z0 Z1 Z0a Z1a q0 q1 q2 q3 g0 g1 g2 g3 qlt Y0 Y1 B3
  obtain ⟨q0, q1, q2, q3, g0, g1, g2, g3, qlt⟩ := K0.out
  obtain ⟨r0, r1, r2, r3, k0, k1, k2, k3, rlt⟩ := K1.out
  go_wp2_with fail
  ((with_reducible refine (refLess_any D.left (by omega) hhi lf HLF.out _).mono ?_); rintro e w8 ⟨rfl, rfl⟩)
  have SB := below_set4 ((B4.setCell (p := ⟨w.heap.size, 2, none⟩) (Nat.le_refl _) (.slice (some ⟨g, 0, none⟩) (D.pend.length + 1) capg)).setCell (p := ⟨w.heap.size, 3, none⟩) (Nat.le_refl _) (.int .i64 lf)) (g := w.heap.size + 1) (by omega) (.int .i64 D.size) (.slice a D.secs.length cap) (.slice (some ⟨g, 0, none⟩) (D.pend.length + 1) capg) (.int .i64 lf)
  have NB := Lib.hid (own_set4 (own_set (own_set OW4.out (N := w.heap.size) (by omega) 2 (.slice (some ⟨g, 0, none⟩) (D.pend.length + 1) capg)) (N := w.heap.size) (by omega) 3 (.int .i64 lf)) (N := w.heap.size + 1) lt1 (.int .i64 D.size) (.slice a D.secs.length cap) (.slice (some ⟨g, 0, none⟩) (D.pend.length + 1) capg) (.int .i64 lf))
  have SS := Lib.hid (S2.out.below SB (Nat.le_refl _))
  go_wp2
  exact bodyPost_ret (v := .tuple #[dv D.size (.slice a D.secs.length cap) (.slice (some ⟨g, 0, none⟩) (D.pend.length + 1) capg) lf, .int .i64 0]) (by simp [results, Try.results19, go_sem, r0, r1, r2, r3, World.cell?_setCell_other, World.cell?_setCell_same']) rfl ⟨_, rfl, ⟨_, _, rfl, SS.out, ws_own' (n := D.pend.length + 1) (L := D.pend ++ [(s, x)]) (by simp) (by rw [wCells_append]; exact NB.out) (by rw [List.length_append]; unfold maxLen; simp; omega)⟩, SB⟩
end Go.Proofs.Ytgdfdelggihceaa
