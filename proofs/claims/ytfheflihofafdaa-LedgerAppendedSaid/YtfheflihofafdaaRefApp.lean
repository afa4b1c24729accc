/- The reference's Append, at this translation. -/
import Derived.Test.YtfheflihofafdaaApp
import Derived.Deep.AppendLies
import Derived.Deep.AppendSrc
namespace Go
open Go.RowKit
theorem run_append_own_bare {P : Program} {w : World} (base : Nat) (t ty e : TypeId) (i : TypeInfo) (size : Nat) (ht : P.underlying t = some (.slice e)) (hi : P.info? e = some i)
    (v : Value) (n : Nat) (xs : List Value) (hown : w.ownsRow base e size v n xs) (c : Nat) :
    (Builtin.append_ #[t, t] ty #[v, .slice none 0 c]).run P w = .ok v w := by
  rcases hown.2 with ⟨rfl, rfl⟩ | ⟨g, cap, cur, rfl, hbg, hg, hnc, hcm, hcs, htake⟩
  · simp [Builtin.append_, run_underlying ht, sizeOf, typeInfo, hi, Builtin.lenOf, Builtin.firstCells]
  · simp [Builtin.append_, run_underlying ht, sizeOf, typeInfo, hi, Builtin.lenOf, Builtin.firstCells, hnc, storeCells]
/-- append to a slice of one's own from one that came in, at a step of a region that draws. -/
theorem step_append_src {P : Program} {w : World} {ops : Array Oper} {o : Oper} {a : Act} {K : Act → World → Prop} {Q : Exit → Act → World → Prop} {E : Prop} (hgd : o.guard = none) (s x : Operand) (t : TypeId)
    (ho : o.op = .call { callee := .builtin .append, args := #[s, x], argTypes := #[t, t] })
    (base : Nat) (e : TypeId) (i : TypeInfo) (z : Value) (size bytes : Nat) (ht : P.underlying t = some (.slice e)) (hi : P.info? e = some i) (hz : i.zero = some z)
    (hsize : i.size = size) (hby : i.bytes = bytes) (hzs : z.cells.size = size) (hsz : 0 < size)
    (v : Value) (n : Nat) (xs : List Value) (hs : a.eval s = v) (hown : w.ownsRow base e size v n xs)
    (b : Option Addr) (m c : Nat) (news : List Value) (hx : a.eval x = .slice b m c) (hl : news.length = m * size) (hb : b = none → m = 0) (hnews : ∀ ad, b = some ad → ∀ j u, news[j]? = some u → w.cell? (ad.add j) = some u) (h1 : ∀ u ∈ news, u.oneCell' = true)
    (h63 : n + m ≤ maxLen) (hbytes : (n + m) * bytes ≤ 140737488355328) (hbase : base ≤ w.heap.size)
    (h : ∀ v' w', w'.ownsRow base e size v' (n + m) (xs ++ news) → w.grownBy w' v.ownBlock → K (a.put o.dst v') w') :
    if Region.wanted o (yielded ops a.tmps) = true then Oper.wp P o a w K Q else E := by
  have hw : Region.wanted o (yielded ops a.tmps) = true := by simp [Region.wanted, hgd]
  rw [if_pos hw]
  cases b with
  | some ad =>
    obtain ⟨v', w', hr, h2, h3, _⟩ := run_append_own (P := P) w base t o.type e i z size bytes ht hi hz hsize hby hzs hsz v n xs hown ad m c news hl (hnews ad rfl) h1 h63 hbytes hbase
    unfold Oper.wp
    simp [execOp, ho, resolve, invoke, builtin, hs, hx, hr, Result.andThen]
    exact h v' w' h2 h3
  | none =>
    obtain rfl := hb rfl
    obtain rfl : news = [] := List.eq_nil_of_length_eq_zero (by omega)
    have hrun := run_append_own_bare (P := P) (w := w) base t o.type e i size ht hi v n xs hown c
    unfold Oper.wp
    simp [execOp, ho, resolve, invoke, builtin, hs, hx, hrun, Result.andThen]
    exact h _ _ (by simpa using hown) (World.grownBy.refl _ _)
end Go
namespace Go.Proofs.Ytfheflihofafdaa
open Go.RowKit Go.Great Pt Tr

set_option maxRecDepth 100000 in
set_option maxHeartbeats 4000000 in
theorem refApp_chk (a : Option Addr) (n c : Nat) (t e0 : Int) (n1 n2 n3 : BA) (w : World) (h0 : e0 ≠ 0)
    (KC : ∀ W, Below w.heap.size w W → Calls Try.prog 15 #[.agg #[.slice a n c]] W fun e w' => e = .returned (.int .i64 e0) ∧ Below W.heap.size W w') :
    Calls Try.prog 13 #[.agg #[.slice a n c], rv ⟨t, n1, n2, n3⟩] w fun e w' => e = .returned (.tuple #[.agg #[.slice none 0 0], .int .i64 e0]) ∧ Below w.heap.size w w' := by
  have HC := Lib.hid KC
  have st := Lib.hid (ab_start w a n c t n1 n2 n3)
  have hne : (e0 != 0) = true := by simpa using h0
  clear KC h0
  go_enter Try.func13, Try.ntmps13
  go_wp2_with fail
  ((with_reducible refine (HC.out _ st.out.b).mono ?_); rintro e w1 ⟨rfl, hb⟩)
  have H1 := Lib.hid (st.out.on hb)
  clear hb
  obtain ⟨q0, q1, q2, q3, q4, q5, f5⟩ := H1.out.at
  have hb := H1.out.b.setCell (p := ⟨w.heap.size + 1 + 1, 0, none⟩) (by simp; omega) (.slice none 0 0)
  go_wp2
  exact bodyPost_ret (v := .tuple #[.agg #[.slice none 0 0], .int .i64 e0]) (by simp [results, Try.results13, go_sem, q5]) rfl ⟨rfl, hb⟩

set_option maxRecDepth 100000 in
set_option maxHeartbeats 4000000 in
theorem refApp_bad (a : Option Addr) (n c : Nat) (t : Int) (n1 n2 n3 : BA) (w : World)
    (KC : ∀ W, Below w.heap.size w W → Calls Try.prog 15 #[.agg #[.slice a n c]] W fun e w' => e = .returned (.int .i64 0) ∧ Below W.heap.size W w')
    (KV : ∀ W, Calls Try.prog 33 #[rv ⟨t, n1, n2, n3⟩] W fun e w' => e = .returned (.bool false) ∧ Below W.heap.size W w') :
    Calls Try.prog 13 #[.agg #[.slice a n c], rv ⟨t, n1, n2, n3⟩] w fun e w' => e = .returned (.tuple #[.agg #[.slice none 0 0], .int .i64 1]) ∧ Below w.heap.size w w' := by
  have HC := Lib.hid KC
  have HV := Lib.hid KV
  have st := Lib.hid (ab_start w a n c t n1 n2 n3)
  clear KC KV
  go_enter Try.func13, Try.ntmps13
  go_wp2_with fail
  ((with_reducible refine (HC.out _ st.out.b).mono ?_); rintro e w1 ⟨rfl, hb⟩)
  have H1 := Lib.hid (st.out.on hb)
  clear hb
  obtain ⟨q0, q1, q2, q3, q4, q5, f5⟩ := H1.out.at
  go_wp2_with fail
  ((with_reducible refine (HV.out _).mono ?_); rintro e w2 ⟨rfl, hb⟩)
  clear q0 q1 q2 q3 q4 q5 f5
  have H2 := Lib.hid (H1.out.on hb)
  clear hb
  obtain ⟨q0, q1, q2, q3, q4, q5, f5⟩ := H2.out.at
  have hb := H2.out.b.setCell (p := ⟨w.heap.size + 1 + 1, 0, none⟩) (by simp; omega) (.slice none 0 0)
  go_wp2
  exact bodyPost_ret (v := .tuple #[.agg #[.slice none 0 0], .int .i64 1]) (by simp [results, Try.results13, go_sem, q5]) rfl ⟨rfl, hb⟩

set_option maxRecDepth 100000 in
set_option maxHeartbeats 4000000 in
theorem refApp_ord (b off n c : Nat) (t last : Int) (n1 n2 n3 : BA) (w : World) (hn : n ≤ 10000) (h1 : 0 < n) (hc : n ≤ c) (hlast : ∀ W, Below w.heap.size w W → W.cell? ⟨b, off + (n - 1) * 4, none⟩ = some (.int .i64 last)) (hlt : t < last)
    (KC : ∀ W, Below w.heap.size w W → Calls Try.prog 15 #[.agg #[.slice (some ⟨b, off, none⟩) n c]] W fun e w' => e = .returned (.int .i64 0) ∧ Below W.heap.size W w')
    (KV : ∀ W, Calls Try.prog 33 #[rv ⟨t, n1, n2, n3⟩] W fun e w' => e = .returned (.bool true) ∧ Below W.heap.size W w') :
    Calls Try.prog 13 #[.agg #[.slice (some ⟨b, off, none⟩) n c], rv ⟨t, n1, n2, n3⟩] w fun e w' => e = .returned (.tuple #[.agg #[.slice none 0 0], .int .i64 10]) ∧ Below w.heap.size w w' := by
  have HC := Lib.hid KC
  have HV := Lib.hid KV
  have HL := Lib.hid hlast
  have st := Lib.hid (ab_start w (some ⟨b, off, none⟩) n c t n1 n2 n3)
  obtain ⟨k, rfl⟩ : ∃ k, n = k + 1 := ⟨n - 1, by omega⟩
  clear KC KV hlast h1
  go_enter Try.func13, Try.ntmps13
  go_wp2_with fail
  ((with_reducible refine (HC.out _ st.out.b).mono ?_); rintro e w1 ⟨rfl, hb⟩)
  have H1 := Lib.hid (st.out.on hb)
  clear hb
  obtain ⟨q0, q1, q2, q3, q4, q5, f5⟩ := H1.out.at
  go_wp2_with fail
  ((with_reducible refine (HV.out _).mono ?_); rintro e w2 ⟨rfl, hb⟩)
  clear q0 q1 q2 q3 q4 q5 f5
  have H2 := Lib.hid (H1.out.on hb)
  clear hb
  obtain ⟨q0, q1, q2, q3, q4, q5, f5⟩ := H2.out.at
  have qL := HL.out _ H2.out.b
  rw [Nat.add_sub_cancel] at qL
  have hs1 : IntKind.i64.wrap (((k + 1 : Nat) : Int) - 1) = (k : Int) := by rw [IntWalk.i64_in _ (by omega)]; omega
  have hg : decide ((0 : Int) < ((k + 1 : Nat) : Int)) = true := by simp
  have hlt2 : decide (t < last) = true := by simpa using hlt
  go_wp2
  go_quiet (fail)
  go_wp2
  have hb := (blN H2.out.b nq).setCell (p := ⟨w.heap.size + 1 + 1, 0, none⟩) (by simp; omega) (.slice none 0 0)
  exact bodyPost_ret (v := .tuple #[.agg #[.slice none 0 0], .int .i64 10]) (by simp [results, Try.results13, go_sem, q5]) rfl ⟨rfl, hb⟩


theorem recs_one (L : List Rec) : ∀ u ∈ recCells L, u.oneCell' = true := by
  intro u hu
  obtain ⟨r, _, h⟩ := List.mem_flatMap.1 hu
  simp only [List.mem_cons, List.not_mem_nil, or_false] at h
  rcases h with rfl | rfl | rfl | rfl <;> rfl
theorem Ab.s {w : World} {a : Option Addr} {n c : Nat} {t : Int} {n1 n2 n3 : BA} {W : World} (h : Ab w a n c t n1 n2 n3 W) :
    W.cell? ⟨w.heap.size, 0, none⟩ = some (.slice a n c) ∧ W.cell? ⟨w.heap.size + 1, 0, none⟩ = some (.int .i64 t) ∧ W.cell? ⟨w.heap.size + 1, 1, none⟩ = some (.string n1) ∧ W.cell? ⟨w.heap.size + 1, 2, none⟩ = some (.string n2) ∧ W.cell? ⟨w.heap.size + 1, 3, none⟩ = some (.string n3) := by
  obtain ⟨h1, h2, h3, h4, h5, _, _⟩ := h.at
  exact ⟨h1, h2, h3, h4, h5⟩
theorem Ab.setR {w : World} {a : Option Addr} {n c : Nat} {t : Int} {n1 n2 n3 : BA} {W : World} (h : Ab w a n c t n1 n2 n3 W) (u : Value) :
    (W.setCell ⟨w.heap.size + 1 + 1, 0, none⟩ u).cell? ⟨w.heap.size, 0, none⟩ = some (.slice a n c) ∧ (W.setCell ⟨w.heap.size + 1 + 1, 0, none⟩ u).cell? ⟨w.heap.size + 1, 0, none⟩ = some (.int .i64 t) ∧ (W.setCell ⟨w.heap.size + 1 + 1, 0, none⟩ u).cell? ⟨w.heap.size + 1, 1, none⟩ = some (.string n1) ∧
      (W.setCell ⟨w.heap.size + 1 + 1, 0, none⟩ u).cell? ⟨w.heap.size + 1, 2, none⟩ = some (.string n2) ∧ (W.setCell ⟨w.heap.size + 1 + 1, 0, none⟩ u).cell? ⟨w.heap.size + 1, 3, none⟩ = some (.string n3) := by
  obtain ⟨h1, h2, h3, h4, h5⟩ := h.s
  refine ⟨(World.cell?_setCell_other W _ _ _ ?_).trans h1, (World.cell?_setCell_other W _ _ _ ?_).trans h2, (World.cell?_setCell_other W _ _ _ ?_).trans h3, (World.cell?_setCell_other W _ _ _ ?_).trans h4, (World.cell?_setCell_other W _ _ _ ?_).trans h5⟩ <;> (intro e; injection e; omega)
/-- The cells of a record's row stay while another row grows. -/
theorem rec_stays {W w5 : World} {g : Nat} {v : Value} {cs : Array Value} (h : W.heap[g]? = some (.cells cs 26 (0, 0))) (hg : W.grownBy w5 v.ownBlock) (hne : v.ownBlock ≠ some g) : w5.heap[g]? = some (.cells cs 26 (0, 0)) := by
  rw [hg.block g (Array.getElem?_eq_some_iff.1 h).1 (fun e => hne e.symm)]
  exact h
theorem rec_of_heap {W : World} {g : Nat} {t : Int} {n1 n2 n3 : BA} (h : W.heap[g]? = some (.cells #[.int .i64 t, .string n1, .string n2, .string n3] 26 (0, 0))) : ∀ j u, [Value.int .i64 t, .string n1, .string n2, .string n3][j]? = some u → W.cell? ((⟨g, 0, none⟩ : Addr).add j) = some u := by
  intro j u hu
  match j, hu with
  | 0, hu => simp at hu; subst hu; simp [Addr.add]; rw [Lib.cell_of_heap h]; rfl
  | 1, hu => simp at hu; subst hu; simp [Addr.add]; rw [Lib.cell_of_heap h]; rfl
  | 2, hu => simp at hu; subst hu; simp [Addr.add]; rw [Lib.cell_of_heap h]; rfl
  | 3, hu => simp at hu; subst hu; simp [Addr.add]; rw [Lib.cell_of_heap h]; rfl
  | j + 4, hu => simp at hu

set_option maxRecDepth 100000 in
set_option maxHeartbeats 8000000 in
theorem refApp_nil (a : Option Addr) (c : Nat) (t : Int) (n1 n2 n3 : BA) (w : World)
    (KC : ∀ W, Below w.heap.size w W → Calls Try.prog 15 #[.agg #[.slice a 0 c]] W fun e w' => e = .returned (.int .i64 0) ∧ Below W.heap.size W w')
    (KV : ∀ W, Calls Try.prog 33 #[rv ⟨t, n1, n2, n3⟩] W fun e w' => e = .returned (.bool true) ∧ Below W.heap.size W w') :
    Calls Try.prog 13 #[.agg #[.slice a 0 c], rv ⟨t, n1, n2, n3⟩] w fun e w' => ∃ v, e = .returned (.tuple #[.agg #[v], .int .i64 0]) ∧ IsRecs w' v [⟨t, n1, n2, n3⟩] ∧ Below w.heap.size w w' := by
  have st := Lib.hid (ab_start w a 0 c t n1 n2 n3)
  have HOLD : Hid (∀ W, Below w.heap.size w W → ∀ b, a = some b → ∀ j u, (recCells [])[j]? = some u → W.cell? (b.add j) = some u) := Lib.hid fun W _ b _ j u h => by simp [recCells] at h
  have HLEN := Lib.hid (show (recCells []).length = 0 * 4 from rfl)
  have HC := Lib.hid KC
  have HV := Lib.hid KV
  clear KC KV
  obtain ⟨i0, hi, hz0, hz1, hz2⟩ := info_parts info26
  obtain ⟨q0, q1, q2, q3, q4, q5, f5⟩ := st.out.at
  go_enter Try.func13, Try.ntmps13
  go_wp2_with fail
  ((with_reducible refine (HC.out _ st.out.b).mono ?_); rintro e w1 ⟨rfl, hb⟩)
  clear q0 q1 q2 q3 q4 q5 f5
  have H1 := Lib.hid (st.out.on hb)
  clear hb
  obtain ⟨q0, q1, q2, q3, q4, q5, f5⟩ := H1.out.at
  go_wp2_with fail
  ((with_reducible refine (HV.out _).mono ?_); rintro e w2 ⟨rfl, hb⟩)
  clear q0 q1 q2 q3 q4 q5 f5
  have H2 := Lib.hid (H1.out.on hb)
  clear hb H1 st HC HV
  obtain ⟨q0, q1, q2, q3, q4, q5, f5⟩ := H2.out.at
  go_wp2
  go_quiet (fail)
  go_wp2
  have H3 := Lib.hid (H2.out.on (blN (Below.refl _ _) nq))
  clear q0 q1 q2 q3 q4 q5 f5 H2
  generalize w2.drewN nq = w3 at *
  have hz3 := lt_of_block H3.out.c2
  have BX1 : Hid (Below w3.heap.size w3 ((w3.alloc (.cells #[] 26)).drew)) := Lib.hid (bla (Below.refl _ w3) (.cells #[] 26)).drew
  have BX2 : Hid (Below w3.heap.size w3 (((w3.alloc (.cells #[] 26)).alloc (rc ⟨t, n1, n2, n3⟩)).drew)) := Lib.hid (bla (bla (Below.refl _ w3) (.cells #[] 26)) (rc ⟨t, n1, n2, n3⟩)).drew
  have BX3 : Hid (Below w3.heap.size w3 (((w3.alloc (rc ⟨t, n1, n2, n3⟩)).alloc (.cells #[] 26)).drew)) := Lib.hid (bla (bla (Below.refl _ w3) (rc ⟨t, n1, n2, n3⟩)) (.cells #[] 26)).drew
  have B1 := Lib.hid (H3.out.on BX1.out)
  have B2 := Lib.hid (H3.out.on BX2.out)
  have B3 := Lib.hid (H3.out.on BX3.out)
  have O1 : Hid (((w3.alloc (.cells #[] 26)).drew).ownsRow w3.heap.size 26 4 (.slice (some ⟨w3.heap.size, 0, none⟩) 0 0) 0 []) := Lib.hid (World.ownsRow_made (base := w3.heap.size) (e := 26) (size := 4) w3 #[] 0 (Nat.le_refl _) (Nat.zero_le _) rfl)
  have O2 : Hid ((((w3.alloc (.cells #[] 26)).alloc (rc ⟨t, n1, n2, n3⟩)).drew).ownsRow w3.heap.size 26 4 (.slice (some ⟨w3.heap.size, 0, none⟩) 0 0) 0 []) := Lib.hid ((World.ownsRow_made (base := w3.heap.size) (e := 26) (size := 4) w3 #[] 0 (Nat.le_refl _) (Nat.zero_le _) rfl).alloc _)
  have O3 : Hid ((((w3.alloc (rc ⟨t, n1, n2, n3⟩)).alloc (.cells #[] 26)).drew).ownsRow w3.heap.size 26 4 (.slice (some ⟨w3.heap.size + 1, 0, none⟩) 0 0) 0 []) := Lib.hid (by
    have := World.ownsRow_made (base := w3.heap.size) (e := 26) (size := 4) (w3.alloc (rc ⟨t, n1, n2, n3⟩)) #[] 0 (by simp) (Nat.zero_le _) rfl
    rw [World.size_alloc] at this
    exact this)
  have RH2 : Hid ((((w3.alloc (.cells #[] 26)).alloc (rc ⟨t, n1, n2, n3⟩)).drew).heap[w3.heap.size + 1]? = some (.cells #[.int .i64 t, .string n1, .string n2, .string n3] 26 (0, 0))) := Lib.hid (by
    have := World.alloc_heap_new (w3.alloc (.cells #[] 26)) (rc ⟨t, n1, n2, n3⟩)
    rw [World.size_alloc] at this
    exact this)
  have RH3 : Hid ((((w3.alloc (rc ⟨t, n1, n2, n3⟩)).alloc (.cells #[] 26)).drew).heap[w3.heap.size]? = some (.cells #[.int .i64 t, .string n1, .string n2, .string n3] 26 (0, 0))) := Lib.hid ((Below.heap_alloc (w3.alloc (rc ⟨t, n1, n2, n3⟩)) (.cells #[] 26) _ (by simp)).trans (World.alloc_heap_new w3 (rc ⟨t, n1, n2, n3⟩)))
  have start := H3.out.on (Below.refl _ w3).drew
  go_region_held3 (fun W => W.cell? ⟨w.heap.size, 0, none⟩ = some (.slice a 0 c) ∧ W.cell? ⟨w.heap.size + 1, 0, none⟩ = some (.int .i64 t) ∧ W.cell? ⟨w.heap.size + 1, 1, none⟩ = some (.string n1) ∧ W.cell? ⟨w.heap.size + 1, 2, none⟩ = some (.string n2) ∧ W.cell? ⟨w.heap.size + 1, 3, none⟩ = some (.string n3)) (first | with_reducible exact hh6.s | with_reducible exact hh.s | with_reducible exact start.s | with_reducible exact B1.out.s | with_reducible exact B2.out.s | with_reducible exact B3.out.s | with_reducible exact (Ab.on hh (bla (Below.refl _ _) _)).s | with_reducible exact (Ab.on start (bla (Below.refl _ _) _)).s | with_reducible exact (Ab.on H3.out (bla (Below.refl _ _) _).drew).s | with_reducible exact hh6.setR _) (first | ((with_reducible refine step_append_src (w := (w3.alloc (.cells #[] 26)).drew) rfl (.tmp 39) (.tmp 41) 22 rfl w3.heap.size 26 i0 (.agg #[.int .i64 0, .string ⟨#[]⟩, .string ⟨#[]⟩, .string ⟨#[]⟩]) 4 56 Try.underlying22 hi hz0 hz1 hz2 rfl (by decide) (.slice (some ⟨w3.heap.size, 0, none⟩) 0 0) 0 [] rfl O1.out a 0 c (recCells []) rfl HLEN.out (fun _ => rfl) (HOLD.out _ B1.out.b) (recs_one _) (by unfold maxLen; omega) (by omega) BX1.out.size ?_); intro v5 w5 hown hgrow; have OW := Lib.hid hown; have BB5 := Lib.hid (BX1.out.trans ((Below.refl w3.heap.size ((w3.alloc (.cells #[] 26)).drew)).grown hgrow BX1.out.size (fun k e => (O1.out.lt k e).1))); have hh := H3.out.on BB5.out; clear hown hgrow) | ((with_reducible refine step_append_src (w := ((w3.alloc (.cells #[] 26)).alloc (rc ⟨t, n1, n2, n3⟩)).drew) rfl (.tmp 39) (.tmp 41) 22 rfl w3.heap.size 26 i0 (.agg #[.int .i64 0, .string ⟨#[]⟩, .string ⟨#[]⟩, .string ⟨#[]⟩]) 4 56 Try.underlying22 hi hz0 hz1 hz2 rfl (by decide) (.slice (some ⟨w3.heap.size, 0, none⟩) 0 0) 0 [] rfl O2.out a 0 c (recCells []) rfl HLEN.out (fun _ => rfl) (HOLD.out _ B2.out.b) (recs_one _) (by unfold maxLen; omega) (by omega) BX2.out.size ?_); intro v5 w5 hown hgrow; have OW := Lib.hid hown; have BB5 := Lib.hid (BX2.out.trans ((Below.refl w3.heap.size (((w3.alloc (.cells #[] 26)).alloc (rc ⟨t, n1, n2, n3⟩)).drew)).grown hgrow BX2.out.size (fun k e => (O2.out.lt k e).1))); have R5 := Lib.hid (rec_of_heap (rec_stays RH2.out hgrow (by simp [Value.ownBlock]))); have hh := H3.out.on BB5.out; clear hown hgrow) | ((with_reducible refine step_append_src (w := ((w3.alloc (rc ⟨t, n1, n2, n3⟩)).alloc (.cells #[] 26)).drew) rfl (.tmp 39) (.tmp 41) 22 rfl w3.heap.size 26 i0 (.agg #[.int .i64 0, .string ⟨#[]⟩, .string ⟨#[]⟩, .string ⟨#[]⟩]) 4 56 Try.underlying22 hi hz0 hz1 hz2 rfl (by decide) (.slice (some ⟨w3.heap.size + 1, 0, none⟩) 0 0) 0 [] rfl O3.out a 0 c (recCells []) rfl HLEN.out (fun _ => rfl) (HOLD.out _ B3.out.b) (recs_one _) (by unfold maxLen; omega) (by omega) BX3.out.size ?_); intro v5 w5 hown hgrow; have OW := Lib.hid hown; have BB5 := Lib.hid (BX3.out.trans ((Below.refl w3.heap.size (((w3.alloc (rc ⟨t, n1, n2, n3⟩)).alloc (.cells #[] 26)).drew)).grown hgrow BX3.out.size (fun k e => (O3.out.lt k e).1))); have R5 := Lib.hid (rec_of_heap (rec_stays RH3.out hgrow (by simp [Value.ownBlock]))); have hh := H3.out.on BB5.out; clear hown hgrow) | ((with_reducible refine step_append_lies (w5.alloc (rc ⟨t, n1, n2, n3⟩)) rfl (.tmp 42) (.tmp 44) 22 rfl w3.heap.size 26 i0 (.agg #[.int .i64 0, .string ⟨#[]⟩, .string ⟨#[]⟩, .string ⟨#[]⟩]) 4 56 Try.underlying22 hi hz0 hz1 hz2 rfl (by decide) v5 (0 + 0) ([] ++ recCells []) rfl (OW.out.alloc _) ⟨w5.heap.size, 0, none⟩ 1 1 [.int .i64 t, .string n1, .string n2, .string n3] rfl rfl (four_rec w5 _ _ _ _ _) (rec_one _ _ _ _) (by decide) (by unfold maxLen; omega) (by omega) (Below.alloc BB5.out BB5.out.size (rc ⟨t, n1, n2, n3⟩)).size _ rfl ?_); intro g' cap' w6 hown6 hgrow6 _ _; have OW6 := Lib.hid hown6; have BB6 := Lib.hid (Below.trans (Below.alloc BB5.out BB5.out.size (rc ⟨t, n1, n2, n3⟩)) ((Below.refl w3.heap.size (w5.alloc (rc ⟨t, n1, n2, n3⟩))).grown hgrow6 (Below.alloc BB5.out BB5.out.size (rc ⟨t, n1, n2, n3⟩)).size (fun k e => (OW.out.lt k e).1))); have hh6 := H3.out.on BB6.out; obtain ⟨-, -, -, -, -, r6, g6⟩ := hh6.at; clear hown6 hgrow6) | ((with_reducible refine step_append_lies (w5) rfl (.tmp 42) (.tmp 44) 22 rfl w3.heap.size 26 i0 (.agg #[.int .i64 0, .string ⟨#[]⟩, .string ⟨#[]⟩, .string ⟨#[]⟩]) 4 56 Try.underlying22 hi hz0 hz1 hz2 rfl (by decide) v5 (0 + 0) ([] ++ recCells []) rfl OW.out ⟨w3.heap.size + 1, 0, none⟩ 1 1 [.int .i64 t, .string n1, .string n2, .string n3] rfl rfl R5.out (rec_one _ _ _ _) (by decide) (by unfold maxLen; omega) (by omega) BB5.out.size _ rfl ?_); intro g' cap' w6 hown6 hgrow6 _ _; have OW6 := Lib.hid hown6; have BB6 := Lib.hid (Below.trans BB5.out ((Below.refl w3.heap.size (w5)).grown hgrow6 BB5.out.size (fun k e => (OW.out.lt k e).1))); have hh6 := H3.out.on BB6.out; obtain ⟨-, -, -, -, -, r6, g6⟩ := hh6.at; clear hown6 hgrow6) | ((with_reducible refine step_append_lies (w5) rfl (.tmp 42) (.tmp 44) 22 rfl w3.heap.size 26 i0 (.agg #[.int .i64 0, .string ⟨#[]⟩, .string ⟨#[]⟩, .string ⟨#[]⟩]) 4 56 Try.underlying22 hi hz0 hz1 hz2 rfl (by decide) v5 (0 + 0) ([] ++ recCells []) rfl OW.out ⟨w3.heap.size, 0, none⟩ 1 1 [.int .i64 t, .string n1, .string n2, .string n3] rfl rfl R5.out (rec_one _ _ _ _) (by decide) (by unfold maxLen; omega) (by omega) BB5.out.size _ rfl ?_); intro g' cap' w6 hown6 hgrow6 _ _; have OW6 := Lib.hid hown6; have BB6 := Lib.hid (Below.trans BB5.out ((Below.refl w3.heap.size (w5)).grown hgrow6 BB5.out.size (fun k e => (OW.out.lt k e).1))); have hh6 := H3.out.on BB6.out; obtain ⟨-, -, -, -, -, r6, g6⟩ := hh6.at; clear hown6 hgrow6))
  all_goals go_wp2
  all_goals
    have hI : IsRecs (w6.setCell ⟨w.heap.size + 1 + 1, 0, none⟩ (.slice (some ⟨g', 0, none⟩) (0 + 0 + 1) cap')) (.slice (some ⟨g', 0, none⟩) (0 + 0 + 1) cap') ([] ++ [⟨t, n1, n2, n3⟩]) :=
      own_recs (m := 0 + 0 + 1) (by rw [← recCells_snoc]; exact ownsRow_setD OW6.out (by omega) _) rfl (by unfold maxLen; omega)
    have hb := hh6.b.setCell (p := ⟨w.heap.size + 1 + 1, 0, none⟩) (by simp; omega) (.slice (some ⟨g', 0, none⟩) (0 + 0 + 1) cap')
    simp only [Nat.add_zero, Nat.zero_add] at hI hb
    exact bodyPost_ret (v := .tuple #[.agg #[.slice (some ⟨g', 0, none⟩) 1 cap'], .int .i64 0]) (by simp [results, Try.results13, go_sem, r6]) rfl ⟨_, rfl, hI, hb⟩

set_option maxRecDepth 100000 in
set_option maxHeartbeats 8000000 in
theorem refApp_more (b off c : Nat) (L : List Rec) (t last : Int) (n1 n2 n3 : BA) (w : World) (k : Nat) (hk : L.length = k + 1) (hn : k + 1 < 10000) (hlast : ∀ W, Below w.heap.size w W → W.cell? ⟨b, off + k * 4, none⟩ = some (.int .i64 last)) (hlt : last ≤ t)
    (hold : ∀ W, Below w.heap.size w W → ∀ ad, some (⟨b, off, none⟩ : Addr) = some ad → ∀ j u, (recCells L)[j]? = some u → W.cell? (ad.add j) = some u)
    (KC : ∀ W, Below w.heap.size w W → Calls Try.prog 15 #[.agg #[.slice (some ⟨b, off, none⟩) (k + 1) c]] W fun e w' => e = .returned (.int .i64 0) ∧ Below W.heap.size W w')
    (KV : ∀ W, Calls Try.prog 33 #[rv ⟨t, n1, n2, n3⟩] W fun e w' => e = .returned (.bool true) ∧ Below W.heap.size W w') :
    Calls Try.prog 13 #[.agg #[.slice (some ⟨b, off, none⟩) (k + 1) c], rv ⟨t, n1, n2, n3⟩] w fun e w' => ∃ v, e = .returned (.tuple #[.agg #[v], .int .i64 0]) ∧ IsRecs w' v (L ++ [⟨t, n1, n2, n3⟩]) ∧ Below w.heap.size w w' := by
  have HL := Lib.hid hlast
  have HOLD := Lib.hid hold
  have HLEN := Lib.hid (show (recCells L).length = (k + 1) * 4 from by rw [recCells_length, hk])
  have HK := Lib.hid hk
  have st := Lib.hid (ab_start w (some ⟨b, off, none⟩) (k + 1) c t n1 n2 n3)
  clear hlast hold hk
  have HC := Lib.hid KC
  have HV := Lib.hid KV
  clear KC KV
  obtain ⟨i0, hi, hz0, hz1, hz2⟩ := info_parts info26
  obtain ⟨q0, q1, q2, q3, q4, q5, f5⟩ := st.out.at
  go_enter Try.func13, Try.ntmps13
  go_wp2_with fail
  ((with_reducible refine (HC.out _ st.out.b).mono ?_); rintro e w1 ⟨rfl, hb⟩)
  clear q0 q1 q2 q3 q4 q5 f5
  have H1 := Lib.hid (st.out.on hb)
  clear hb
  obtain ⟨q0, q1, q2, q3, q4, q5, f5⟩ := H1.out.at
  go_wp2_with fail
  ((with_reducible refine (HV.out _).mono ?_); rintro e w2 ⟨rfl, hb⟩)
  clear q0 q1 q2 q3 q4 q5 f5
  have H2 := Lib.hid (H1.out.on hb)
  clear hb H1 st HC HV
  obtain ⟨q0, q1, q2, q3, q4, q5, f5⟩ := H2.out.at
  have qL := HL.out _ H2.out.b
  have hs1 : IntKind.i64.wrap (((k + 1 : Nat) : Int) - 1) = (k : Int) := by rw [IntWalk.i64_in _ (by omega)]; omega
  have hg : decide ((0 : Int) < ((k + 1 : Nat) : Int)) = true := by simp
  have hlt2 : decide (t < last) = false := by simpa using hlt
  have h99 : (((k + 1 : Nat) : Int) == 10000) = false := by simp; omega
  go_wp2
  go_quiet (fail)
  go_wp2
  clear qL hs1 hg hlt2 h99
  have H3 := Lib.hid (H2.out.on (blN (Below.refl _ _) nq))
  clear q0 q1 q2 q3 q4 q5 f5 H2
  generalize w2.drewN nq = w3 at *
  have hz3 := lt_of_block H3.out.c2
  have BX1 : Hid (Below w3.heap.size w3 ((w3.alloc (.cells #[] 26)).drew)) := Lib.hid (bla (Below.refl _ w3) (.cells #[] 26)).drew
  have BX2 : Hid (Below w3.heap.size w3 (((w3.alloc (.cells #[] 26)).alloc (rc ⟨t, n1, n2, n3⟩)).drew)) := Lib.hid (bla (bla (Below.refl _ w3) (.cells #[] 26)) (rc ⟨t, n1, n2, n3⟩)).drew
  have BX3 : Hid (Below w3.heap.size w3 (((w3.alloc (rc ⟨t, n1, n2, n3⟩)).alloc (.cells #[] 26)).drew)) := Lib.hid (bla (bla (Below.refl _ w3) (rc ⟨t, n1, n2, n3⟩)) (.cells #[] 26)).drew
  have B1 := Lib.hid (H3.out.on BX1.out)
  have B2 := Lib.hid (H3.out.on BX2.out)
  have B3 := Lib.hid (H3.out.on BX3.out)
  have O1 : Hid (((w3.alloc (.cells #[] 26)).drew).ownsRow w3.heap.size 26 4 (.slice (some ⟨w3.heap.size, 0, none⟩) 0 0) 0 []) := Lib.hid (World.ownsRow_made (base := w3.heap.size) (e := 26) (size := 4) w3 #[] 0 (Nat.le_refl _) (Nat.zero_le _) rfl)
  have O2 : Hid ((((w3.alloc (.cells #[] 26)).alloc (rc ⟨t, n1, n2, n3⟩)).drew).ownsRow w3.heap.size 26 4 (.slice (some ⟨w3.heap.size, 0, none⟩) 0 0) 0 []) := Lib.hid ((World.ownsRow_made (base := w3.heap.size) (e := 26) (size := 4) w3 #[] 0 (Nat.le_refl _) (Nat.zero_le _) rfl).alloc _)
  have O3 : Hid ((((w3.alloc (rc ⟨t, n1, n2, n3⟩)).alloc (.cells #[] 26)).drew).ownsRow w3.heap.size 26 4 (.slice (some ⟨w3.heap.size + 1, 0, none⟩) 0 0) 0 []) := Lib.hid (by
    have := World.ownsRow_made (base := w3.heap.size) (e := 26) (size := 4) (w3.alloc (rc ⟨t, n1, n2, n3⟩)) #[] 0 (by simp) (Nat.zero_le _) rfl
    rw [World.size_alloc] at this
    exact this)
  have RH2 : Hid ((((w3.alloc (.cells #[] 26)).alloc (rc ⟨t, n1, n2, n3⟩)).drew).heap[w3.heap.size + 1]? = some (.cells #[.int .i64 t, .string n1, .string n2, .string n3] 26 (0, 0))) := Lib.hid (by
    have := World.alloc_heap_new (w3.alloc (.cells #[] 26)) (rc ⟨t, n1, n2, n3⟩)
    rw [World.size_alloc] at this
    exact this)
  have RH3 : Hid ((((w3.alloc (rc ⟨t, n1, n2, n3⟩)).alloc (.cells #[] 26)).drew).heap[w3.heap.size]? = some (.cells #[.int .i64 t, .string n1, .string n2, .string n3] 26 (0, 0))) := Lib.hid ((Below.heap_alloc (w3.alloc (rc ⟨t, n1, n2, n3⟩)) (.cells #[] 26) _ (by simp)).trans (World.alloc_heap_new w3 (rc ⟨t, n1, n2, n3⟩)))
  have start := H3.out.on (Below.refl _ w3).drew
  go_region_held3 (fun W => W.cell? ⟨w.heap.size, 0, none⟩ = some (.slice (some ⟨b, off, none⟩) (k + 1) c) ∧ W.cell? ⟨w.heap.size + 1, 0, none⟩ = some (.int .i64 t) ∧ W.cell? ⟨w.heap.size + 1, 1, none⟩ = some (.string n1) ∧ W.cell? ⟨w.heap.size + 1, 2, none⟩ = some (.string n2) ∧ W.cell? ⟨w.heap.size + 1, 3, none⟩ = some (.string n3)) (first | with_reducible exact hh6.s | with_reducible exact hh.s | with_reducible exact start.s | with_reducible exact B1.out.s | with_reducible exact B2.out.s | with_reducible exact B3.out.s | with_reducible exact (Ab.on hh (bla (Below.refl _ _) _)).s | with_reducible exact (Ab.on start (bla (Below.refl _ _) _)).s | with_reducible exact (Ab.on H3.out (bla (Below.refl _ _) _).drew).s | with_reducible exact hh6.setR _) (first | ((with_reducible refine step_append_src (w := (w3.alloc (.cells #[] 26)).drew) rfl (.tmp 39) (.tmp 41) 22 rfl w3.heap.size 26 i0 (.agg #[.int .i64 0, .string ⟨#[]⟩, .string ⟨#[]⟩, .string ⟨#[]⟩]) 4 56 Try.underlying22 hi hz0 hz1 hz2 rfl (by decide) (.slice (some ⟨w3.heap.size, 0, none⟩) 0 0) 0 [] rfl O1.out (some ⟨b, off, none⟩) (k + 1) c (recCells L) rfl HLEN.out (fun e => by cases e) (HOLD.out _ B1.out.b) (recs_one _) (by unfold maxLen; omega) (by omega) BX1.out.size ?_); intro v5 w5 hown hgrow; have OW := Lib.hid hown; have BB5 := Lib.hid (BX1.out.trans ((Below.refl w3.heap.size ((w3.alloc (.cells #[] 26)).drew)).grown hgrow BX1.out.size (fun k e => (O1.out.lt k e).1))); have hh := H3.out.on BB5.out; clear hown hgrow) | ((with_reducible refine step_append_src (w := ((w3.alloc (.cells #[] 26)).alloc (rc ⟨t, n1, n2, n3⟩)).drew) rfl (.tmp 39) (.tmp 41) 22 rfl w3.heap.size 26 i0 (.agg #[.int .i64 0, .string ⟨#[]⟩, .string ⟨#[]⟩, .string ⟨#[]⟩]) 4 56 Try.underlying22 hi hz0 hz1 hz2 rfl (by decide) (.slice (some ⟨w3.heap.size, 0, none⟩) 0 0) 0 [] rfl O2.out (some ⟨b, off, none⟩) (k + 1) c (recCells L) rfl HLEN.out (fun e => by cases e) (HOLD.out _ B2.out.b) (recs_one _) (by unfold maxLen; omega) (by omega) BX2.out.size ?_); intro v5 w5 hown hgrow; have OW := Lib.hid hown; have BB5 := Lib.hid (BX2.out.trans ((Below.refl w3.heap.size (((w3.alloc (.cells #[] 26)).alloc (rc ⟨t, n1, n2, n3⟩)).drew)).grown hgrow BX2.out.size (fun k e => (O2.out.lt k e).1))); have R5 := Lib.hid (rec_of_heap (rec_stays RH2.out hgrow (by simp [Value.ownBlock]))); have hh := H3.out.on BB5.out; clear hown hgrow) | ((with_reducible refine step_append_src (w := ((w3.alloc (rc ⟨t, n1, n2, n3⟩)).alloc (.cells #[] 26)).drew) rfl (.tmp 39) (.tmp 41) 22 rfl w3.heap.size 26 i0 (.agg #[.int .i64 0, .string ⟨#[]⟩, .string ⟨#[]⟩, .string ⟨#[]⟩]) 4 56 Try.underlying22 hi hz0 hz1 hz2 rfl (by decide) (.slice (some ⟨w3.heap.size + 1, 0, none⟩) 0 0) 0 [] rfl O3.out (some ⟨b, off, none⟩) (k + 1) c (recCells L) rfl HLEN.out (fun e => by cases e) (HOLD.out _ B3.out.b) (recs_one _) (by unfold maxLen; omega) (by omega) BX3.out.size ?_); intro v5 w5 hown hgrow; have OW := Lib.hid hown; have BB5 := Lib.hid (BX3.out.trans ((Below.refl w3.heap.size (((w3.alloc (rc ⟨t, n1, n2, n3⟩)).alloc (.cells #[] 26)).drew)).grown hgrow BX3.out.size (fun k e => (O3.out.lt k e).1))); have R5 := Lib.hid (rec_of_heap (rec_stays RH3.out hgrow (by simp [Value.ownBlock]))); have hh := H3.out.on BB5.out; clear hown hgrow) | ((with_reducible refine step_append_lies (w5.alloc (rc ⟨t, n1, n2, n3⟩)) rfl (.tmp 42) (.tmp 44) 22 rfl w3.heap.size 26 i0 (.agg #[.int .i64 0, .string ⟨#[]⟩, .string ⟨#[]⟩, .string ⟨#[]⟩]) 4 56 Try.underlying22 hi hz0 hz1 hz2 rfl (by decide) v5 (0 + (k + 1)) ([] ++ recCells L) rfl (OW.out.alloc _) ⟨w5.heap.size, 0, none⟩ 1 1 [.int .i64 t, .string n1, .string n2, .string n3] rfl rfl (four_rec w5 _ _ _ _ _) (rec_one _ _ _ _) (by decide) (by unfold maxLen; omega) (by omega) (Below.alloc BB5.out BB5.out.size (rc ⟨t, n1, n2, n3⟩)).size _ rfl ?_); intro g' cap' w6 hown6 hgrow6 _ _; have OW6 := Lib.hid hown6; have BB6 := Lib.hid (Below.trans (Below.alloc BB5.out BB5.out.size (rc ⟨t, n1, n2, n3⟩)) ((Below.refl w3.heap.size (w5.alloc (rc ⟨t, n1, n2, n3⟩))).grown hgrow6 (Below.alloc BB5.out BB5.out.size (rc ⟨t, n1, n2, n3⟩)).size (fun k e => (OW.out.lt k e).1))); have hh6 := H3.out.on BB6.out; obtain ⟨-, -, -, -, -, r6, g6⟩ := hh6.at; clear hown6 hgrow6) | ((with_reducible refine step_append_lies (w5) rfl (.tmp 42) (.tmp 44) 22 rfl w3.heap.size 26 i0 (.agg #[.int .i64 0, .string ⟨#[]⟩, .string ⟨#[]⟩, .string ⟨#[]⟩]) 4 56 Try.underlying22 hi hz0 hz1 hz2 rfl (by decide) v5 (0 + (k + 1)) ([] ++ recCells L) rfl OW.out ⟨w3.heap.size + 1, 0, none⟩ 1 1 [.int .i64 t, .string n1, .string n2, .string n3] rfl rfl R5.out (rec_one _ _ _ _) (by decide) (by unfold maxLen; omega) (by omega) BB5.out.size _ rfl ?_); intro g' cap' w6 hown6 hgrow6 _ _; have OW6 := Lib.hid hown6; have BB6 := Lib.hid (Below.trans BB5.out ((Below.refl w3.heap.size (w5)).grown hgrow6 BB5.out.size (fun k e => (OW.out.lt k e).1))); have hh6 := H3.out.on BB6.out; obtain ⟨-, -, -, -, -, r6, g6⟩ := hh6.at; clear hown6 hgrow6) | ((with_reducible refine step_append_lies (w5) rfl (.tmp 42) (.tmp 44) 22 rfl w3.heap.size 26 i0 (.agg #[.int .i64 0, .string ⟨#[]⟩, .string ⟨#[]⟩, .string ⟨#[]⟩]) 4 56 Try.underlying22 hi hz0 hz1 hz2 rfl (by decide) v5 (0 + (k + 1)) ([] ++ recCells L) rfl OW.out ⟨w3.heap.size, 0, none⟩ 1 1 [.int .i64 t, .string n1, .string n2, .string n3] rfl rfl R5.out (rec_one _ _ _ _) (by decide) (by unfold maxLen; omega) (by omega) BB5.out.size _ rfl ?_); intro g' cap' w6 hown6 hgrow6 _ _; have OW6 := Lib.hid hown6; have BB6 := Lib.hid (Below.trans BB5.out ((Below.refl w3.heap.size (w5)).grown hgrow6 BB5.out.size (fun k e => (OW.out.lt k e).1))); have hh6 := H3.out.on BB6.out; obtain ⟨-, -, -, -, -, r6, g6⟩ := hh6.at; clear hown6 hgrow6))
  all_goals go_wp2
  all_goals
    have hI : IsRecs (w6.setCell ⟨w.heap.size + 1 + 1, 0, none⟩ (.slice (some ⟨g', 0, none⟩) (0 + (k + 1) + 1) cap')) (.slice (some ⟨g', 0, none⟩) (0 + (k + 1) + 1) cap') (L ++ [⟨t, n1, n2, n3⟩]) :=
      own_recs (m := 0 + (k + 1) + 1) (by rw [← recCells_snoc]; exact ownsRow_setD OW6.out (by omega) _) (by rw [List.length_append, HK.out]; simp) (by unfold maxLen; omega)
    have hb := hh6.b.setCell (p := ⟨w.heap.size + 1 + 1, 0, none⟩) (by simp; omega) (.slice (some ⟨g', 0, none⟩) (0 + (k + 1) + 1) cap')
    simp only [Nat.zero_add] at hI hb
    exact bodyPost_ret (v := .tuple #[.agg #[.slice (some ⟨g', 0, none⟩) (k + 1 + 1) cap'], .int .i64 0]) (by simp [results, Try.results13, go_sem, r6]) rfl ⟨_, rfl, hI, hb⟩
theorem refAppend_any (L : List Rec) (r : Rec) (v : Value) (w : World) (h : IsRecs w v L) (hf : ∀ x ∈ L, x.Fit) (hr : r.Fit) (hlen : L.length < 10000) :
    Calls Try.prog 13 #[.agg #[v], rv r] w fun e w' => ∃ u, e = .returned (.tuple #[.agg #[u], .int .i64 (appE L r)]) ∧ IsRecs w' u (appL L r) ∧ Below w.heap.size w w' := by
  have KC : ∀ W, Below w.heap.size w W → Calls Try.prog 15 #[.agg #[v]] W fun e w' => e = .returned (.int .i64 (chkL L)) ∧ Below W.heap.size W w' := fun W hW => refCheck_any L v W (h.below hW (Nat.le_refl _)) hf _ rfl
  have h' := h
  obtain ⟨a, c, rfl, h1, hc, hL⟩ := h'
  by_cases h0 : ¬ chkL L = 0
  · have e1 : appE L r = chkL L := by unfold appE; rw [if_pos h0]
    have e2 : appL L r = [] := by unfold appL; rw [e1, if_neg h0]
    rw [e1, e2]
    refine (refApp_chk a L.length c r.time (chkL L) r.who r.what r.data w h0 KC).mono ?_
    rintro e w' ⟨rfl, hb⟩
    exact ⟨_, rfl, isRecs_nil _, hb⟩
  have h0 := Classical.not_not.1 h0
  rw [h0] at KC
  cases hv : okR r with
  | false =>
    have e1 : appE L r = 1 := by unfold appE; rw [if_neg (by simp [h0]), if_pos hv]
    have e2 : appL L r = [] := by unfold appL; rw [e1]; rfl
    rw [e1, e2]
    refine (refApp_bad a L.length c r.time r.who r.what r.data w KC fun W => refValid_any r W hr false hv).mono ?_
    rintro e w' ⟨rfl, hb⟩
    exact ⟨_, rfl, isRecs_nil _, hb⟩
  | true =>
    have KV := fun W => refValid_any r W hr true hv
    have ht := okR_time hv
    rcases Nat.eq_zero_or_pos L.length with hz | hp
    · obtain rfl := List.length_eq_zero_iff.1 hz
      have e1 : appE [] r = 0 := by
        unfold appE
        rw [if_neg (by simp [h0]), if_neg (by simp [hv]), if_neg (by simp [prvT]; omega)]
      have e2 : appL [] r = [r] := by unfold appL; rw [e1]; rfl
      rw [e1, e2]
      exact refApp_nil a c r.time r.who r.what r.data w KC KV
    · obtain ⟨b, off, rfl, hb, hcell⟩ := hL.resolve_left (by intro e; rw [e] at hp; simp at hp)
      obtain ⟨k, hk⟩ : ∃ k, L.length = k + 1 := ⟨L.length - 1, by omega⟩
      have hlast : ∀ W, Below w.heap.size w W → W.cell? ⟨b, off + k * 4, none⟩ = some (.int .i64 (prvT L L.length)) := fun W hW => recs_last hk fun j hj => (hcell j hj).below hW hb
      by_cases ho : r.time < prvT L L.length
      · have e1 : appE L r = 10 := by unfold appE; rw [if_neg (by simp [h0]), if_neg (by simp [hv]), if_pos ho]
        have e2 : appL L r = [] := by unfold appL; rw [e1]; rfl
        rw [e1, e2]
        refine (refApp_ord b off L.length c r.time (prvT L L.length) r.who r.what r.data w (by omega) hp hc (fun W hW => by rw [hk, Nat.add_sub_cancel]; rw [← hk]; exact hlast W hW) ho KC KV).mono ?_
        rintro e w' ⟨rfl, hb⟩
        exact ⟨_, rfl, isRecs_nil _, hb⟩
      · have e1 : appE L r = 0 := by unfold appE; rw [if_neg (by simp [h0]), if_neg (by simp [hv]), if_neg ho]
        have e2 : appL L r = L ++ [r] := by unfold appL; rw [e1]; rfl
        rw [e1, e2]
        generalize prvT L L.length = last at *
        rw [hk] at KC hc ⊢
        exact refApp_more b off c L r.time last r.who r.what r.data w k hk (by omega) hlast (by omega) (fun W hW => recs_lies (.inr ⟨b, off, rfl, Nat.lt_of_lt_of_le hb hW.size, fun j hj => (hcell j hj).below hW hb⟩)) KC KV
end Go.Proofs.Ytfheflihofafdaa
