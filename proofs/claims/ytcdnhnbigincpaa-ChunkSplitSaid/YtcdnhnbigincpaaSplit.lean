/- chunk.Split and Bounds, at this translation. -/
import Derived.Test.YtcdnhnbigincpaaChunks
import Derived.Test.YtcdnhnbigincpaaCheckAll
namespace Go.Proofs.Ytcdnhnbigincpaa
open Go.RowKit Go.Shelf
attribute [local go_sem] Oper.semAt_some

theorem pieces_length (s : ByteArray) : ∀ (E : List Nat) (b : Nat), (pieces s b E).length = E.length
  | [], _ => rfl
  | e :: E, b => by rw [pieces, List.length_cons, List.length_cons, pieces_length s E e]
theorem good_len {p : Pm} {len : Nat} : ∀ (E : List Nat) (b : Nat), Good p len b E → E.length + b ≤ len
  | [], b, h => by have : b = len := h; simp; omega
  | e :: E, b, h => by have := good_len E e h.2.2.2.2; have := h.1; simp; omega
theorem ends_len {p : Pm} (hp : p.Ok) (l : List Nat) : (ends tst p l).length ≤ l.length := by
  have := good_len _ _ (ends_good (tst := tst) hp l); omega
theorem chkP_ok {p : Pm} (hp : p.Ok) : chkP p.least p.most p.window p.bits = 0 := by
  have := hp.w1; have := hp.lw; have := hp.ml; have := hp.m; have := hp.b
  rw [chkP, if_neg]; omega
theorem chkA_ok {p : Pm} (hp : p.Ok) (s : ByteArray) (hs : s.size ≤ 65536) : chkA p.least p.most p.window p.bits [s] = 0 := by
  rw [chkA, chkP_ok hp, if_neg (by simp), if_neg]
  rintro ⟨y, hy, h⟩
  simp at hy
  subst hy
  omega

set_option maxHeartbeats 2000000 in
theorem split_err (a b c d : Int) (s : ByteArray) (hs : s.size ≤ 100000) (w : World) (r : Int) (hr : chkA a b c d [s] = r) (h0 : r ≠ 0) :
    Calls Try.prog 10 #[.string s, pv a b c d] w fun e w' => e = .returned (.tuple #[.slice none 0 0, .int .i64 r]) ∧ Below w.heap.size w w' := by
  refine (callsIn_wide (n := 5)).1 ?_
  have hB0 := ((Below.refl w.heap.size w).alloc (Nat.le_refl _) (.cells #[.int .i64 a, .int .i64 b, .int .i64 c, .int .i64 d] 23)).alloc (by simp) (.cells #[.string s] 9)
  have x := PBox.new w a b c d
  have x' : PBox ((w.alloc (.cells #[.int .i64 a, .int .i64 b, .int .i64 c, .int .i64 d] 23)).alloc (.cells #[.string s] 9)) w.heap.size a b c d := (Below.heap_alloc _ _ _ x.lt).trans x
  have y := Boxed.new (w.alloc (.cells #[.int .i64 a, .int .i64 b, .int .i64 c, .int .i64 d] 23)) 9 (.string s)
  rw [World.size_alloc] at y
  have c0 := x.c0
  have c1 := x.c1
  have c2 := x.c2
  have c3 := x.c3
  clear x x'
  have hne : (r != 0) = true := by simpa using h0
  refine callsIn_of_wp Try.func10 rfl trivial ?_ rfl
  simp only [Try.ntmps10, List.size_toArray, List.length_cons, List.length_nil, Nat.reduceAdd, Nat.reduceSub, Array.replicate_succ, Array.replicate_zero, List.push_toArray, List.append_toArray, List.nil_append, List.cons_append]
  gi_wp2
  refine ⟨trivial, (checkAll_in 4 (by omega) a b c d w.heap.size.succ 1 [s] (by simp) (by simpa using hs) _ (by simp) (by
    intro j h
    obtain rfl : j = 0 := by simpa using h
    exact y.cell) r hr).mono ?_⟩
  rintro e w1 ⟨rfl, hb1⟩
  gi_wp2
  exact bodyPost_ret (v := .tuple #[.slice none 0 0, .int .i64 r]) (by simp [results, Try.results10, go_sem]) rfl ⟨rfl, hB0.trans (hb1.mono hB0.size)⟩

set_option maxRecDepth 100000 in
set_option maxHeartbeats 4000000 in
theorem split_ok (p : Pm) (hp : p.Ok) (s : ByteArray) (hs : s.size ≤ 65536) (w : World) :
    Calls Try.prog 10 #[.string s, pv p.least p.most p.window p.bits] w fun e w' => ∃ v, e = .returned (.tuple #[v, .int .i64 0]) ∧ IsStrs w' v (pieces s 0 (ends tst p (nats s))) ∧ Below w.heap.size w w' := by
  refine (callsIn_wide (n := 6)).1 ?_
  have hB0 := ((Below.refl w.heap.size w).alloc (Nat.le_refl _) (.cells #[.int .i64 p.least, .int .i64 p.most, .int .i64 p.window, .int .i64 p.bits] 23)).alloc (by simp) (.cells #[.string s] 9)
  have x := PBox.new w p.least p.most p.window p.bits
  have y := Boxed.new (w.alloc (.cells #[.int .i64 p.least, .int .i64 p.most, .int .i64 p.window, .int .i64 p.bits] 23)) 9 (.string s)
  rw [World.size_alloc] at y
  have c0 := x.c0
  have c1 := x.c1
  have c2 := x.c2
  have c3 := x.c3
  have x' : PBox ((w.alloc (.cells #[.int .i64 p.least, .int .i64 p.most, .int .i64 p.window, .int .i64 p.bits] 23)).alloc (.cells #[.string s] 9)) w.heap.size p.least p.most p.window p.bits := (Below.heap_alloc _ _ _ x.lt).trans x
  clear x
  have hlen : (pieces s 0 (ends tst p (nats s))).length ≤ 65536 := by
    have := ends_len hp (nats s)
    rw [nats_length] at this
    simp only [pieces_length]
    omega
  obtain ⟨i0, hi, hz0, hz1, hz2⟩ := info_parts info9
  refine callsIn_of_wp_marks Try.func10 rfl trivial ?_ rfl
  simp only [Try.ntmps10, List.size_toArray, List.length_cons, List.length_nil, Nat.reduceAdd, Nat.reduceSub, Array.replicate_succ, Array.replicate_zero, List.push_toArray, List.append_toArray, List.nil_append, List.cons_append]
  gi_wp2
  refine ⟨trivial, (checkAll_in 5 (by omega) p.least p.most p.window p.bits w.heap.size.succ 1 [s] (by simp) (by simp; omega) _ (by simp) (by
    intro j h
    obtain rfl : j = 0 := by simpa using h
    exact y.cell) 0 (chkA_ok hp s hs)).mono ?_⟩
  rintro e w1 ⟨rfl, hb1⟩
  have B1 := hB0.trans (hb1.mono hB0.size)
  have x1 : PBox w1 w.heap.size p.least p.most p.window p.bits := (hb1.block _ x'.lt).trans x'
  clear c0 c1 c2 c3 y x' hB0 hb1
  have x2 : PBox (w1.alloc (.cells #[.slice none 0 0] 25)) w.heap.size p.least p.most p.window p.bits := (Below.heap_alloc _ _ _ x1.lt).trans x1
  have lB := Boxed.new w1 25 (.slice none 0 0)
  have B2 := B1.alloc B1.size (.cells #[.slice none 0 0] 25)
  have lt1 : w.heap.size < w1.heap.size := x1.lt
  have c0 := x2.c0
  have c1 := x2.c1
  have c2 := x2.c2
  have c3 := x2.c3
  gi_wp2
  refine ⟨trivial, (chunks_in 5 s p.least p.most p.window p.bits _).mono ?_⟩
  rintro e w' ⟨rfl, hw2⟩
  have sz2 : w'.heap.size = w1.heap.size + 3 := by rw [hw2]; simp
  have lB2 : Boxed w' w1.heap.size 25 (.slice none 0 0) := by rw [hw2]; exact (lB.alloc _).alloc _
  have bS : Boxed w' (w1.heap.size + 1) 9 (.string s) := by
    rw [hw2]
    have := (Boxed.new (w1.alloc (.cells #[.slice none 0 0] 25)) 9 (.string s)).alloc (.cells #[.int .i64 p.least, .int .i64 p.most, .int .i64 p.window, .int .i64 p.bits] 23)
    rwa [World.size_alloc] at this
  have bP : PBox w' (w1.heap.size + 2) p.least p.most p.window p.bits := by
    rw [hw2]
    have := PBox.new ((w1.alloc (.cells #[.slice none 0 0] 25)).alloc (.cells #[.string s] 9)) p.least p.most p.window p.bits
    rwa [World.size_alloc, World.size_alloc] at this
  have B3 : Below w.heap.size w w' := by rw [hw2]; exact (B2.alloc B2.size _).alloc (by simp; omega) _
  clear hw2 lB B2
  rw [World.size_alloc]
  generalize w' = w2 at *
  clear c0 c1 c2 c3 x1 x2 B1
  gi_wp2
  refine rangeFunc_Y rfl (by omega) (gf := 31) (lb := #[.pointer (some ⟨w1.heap.size + 1, 0, none⟩), .pointer (some ⟨w1.heap.size + 1 + 1, 0, none⟩)]) rfl trivial (enters_of Try.func31 (by kernel_rfl) rfl)
    (chunks1_in 5 (by omega) (w1.heap.size + 1) (w1.heap.size + 2) s p hp (by omega) w2 bS bP) (fun k h => by rcases h with rfl | rfl <;> omega) (Below.refl _ _) (fun _ => rfl)
    (fun pre W => (∃ v, Boxed W w1.heap.size 25 v ∧ W.ownsRow (w2.heap.size + 2 + 7) 9 1 v pre.length (rowS pre)) ∧ Below w.heap.size w W)
    (fun _ _ _ => False)
    (fun pre A B h hr => by
      obtain ⟨⟨v, h1, h2⟩, h3⟩ := h
      exact ⟨⟨v, hr.boxed h1 (by omega), own_rel h2 hr (by omega)⟩, RelK.below h3 hr (by omega) h3.size⟩)
    (fun _ _ _ _ h _ => h.elim)
    ⟨⟨_, lB2, World.ownsRow_nil _ _ _ _⟩, B3⟩
    (fun x => { tmps := #[.string s, pv p.least p.most p.window p.bits, undef, .pointer (some ⟨w.heap.size, 0, none⟩), .slice none 0 0, .int .i64 0, .int .i64 0, .pointer (some ⟨w1.heap.size, 0, none⟩), .string x, pv p.least p.most p.window p.bits, .string s, .slice (some ⟨w.heap.size + 1, 0, none⟩) 1 1, .int .i64 0, .int .i64 0, .bool false, undef, .string s, pv p.least p.most p.window p.bits, .func (.func 31) #[] #[.pointer (some ⟨w1.heap.size + 1, 0, none⟩), .pointer (some ⟨w1.heap.size + 1 + 1, 0, none⟩)], .string x, undef, undef, undef, undef, undef], defers := [] }) ?assign ?body ?done ?stop
  case assign =>
    intro l x W K hK
    gi_wp2
    exact hK
  case body =>
    rintro l pre x suf W hfull ⟨⟨v, hv, ho⟩, hB⟩ hz
    have hlt : pre.length < 65536 := by
      have := congrArg List.length hfull
      simp only [List.length_append, List.length_cons] at this
      omega
    have hy1 := hv.cell
    clear hfull hlen
    gi_wp2_with (gi_at_builtin; refine wpListIn_append_own _ rfl _ _ 25 rfl (w2.heap.size + 2 + 7) 9 i0 (.string ⟨#[]⟩) 1 16 Try.underlying25 hi hz0 hz1 hz2 rfl (by decide) _ _ _ rfl (ho.alloc _) ⟨W.heap.size, 0, none⟩ 1 1 [.string x] rfl rfl (cell_one_new _ _ _) (by simp [Value.oneCell']) (by unfold maxLen; omega) (by omega) (by simp; omega) ?_; intro v' w3 hown' hgrow _; obtain ⟨g', cap', rfl⟩ := ownsRow_succ hown'; have A := Lib.hid (box_appended (t := 25) hv ho (by omega) (by omega) hown' hgrow); have q1 := A.out.1.cell; have q2 := A.out.1.frozen)
    obtain ⟨a1, a2, a3, a4, a5, a6, a7⟩ := A.out
    refine ⟨⟨a7, fun k hk => a5 k (by omega) (by omega)⟩, ⟨_, a3, ?_⟩, hB.trans (a6.mono (by omega))⟩
    simpa [rowS] using a4
  case done =>
    rintro D W rfl ⟨⟨v, hv, ho⟩, hB⟩ hK
    have hy1 := hv.cell
    gi_wp2
    refine ⟨by simp, .inl ⟨_, _, rfl, run_takeDeferred hK, ?_⟩⟩
    have hr : RelK w2.heap.size (7 + 2) W (W.putObj w2.heap.size (.deferred none)) := RelK.putObj _ _ _ _ _ _ hK rfl rfl (by omega) (by omega)
    exact ⟨_, by simp [results, Try.f10, go_sem], _, rfl, own_strs (own_rel ho hr (by omega)) rfl (by unfold maxLen; omega), RelK.below hB hr (by omega) hB.size⟩
  case stop =>
    rintro D c pre W _ h _
    exact h.elim
set_option maxHeartbeats 2000000 in
theorem bounds_err (a b c d : Int) (s : ByteArray) (hs : s.size ≤ 100000) (w : World) (r : Int) (hr : chkA a b c d [s] = r) (h0 : r ≠ 0) :
    Calls Try.prog 12 #[.string s, pv a b c d] w fun e w' => e = .returned (.tuple #[.slice none 0 0, .int .i64 r]) ∧ Below w.heap.size w w' := by
  refine (callsIn_wide (n := 5)).1 ?_
  have hB0 := ((Below.refl w.heap.size w).alloc (Nat.le_refl _) (.cells #[.int .i64 a, .int .i64 b, .int .i64 c, .int .i64 d] 23)).alloc (by simp) (.cells #[.string s] 9)
  have x := PBox.new w a b c d
  have x' : PBox ((w.alloc (.cells #[.int .i64 a, .int .i64 b, .int .i64 c, .int .i64 d] 23)).alloc (.cells #[.string s] 9)) w.heap.size a b c d := (Below.heap_alloc _ _ _ x.lt).trans x
  have y := Boxed.new (w.alloc (.cells #[.int .i64 a, .int .i64 b, .int .i64 c, .int .i64 d] 23)) 9 (.string s)
  rw [World.size_alloc] at y
  have c0 := x.c0
  have c1 := x.c1
  have c2 := x.c2
  have c3 := x.c3
  clear x x'
  have hne : (r != 0) = true := by simpa using h0
  refine callsIn_of_wp Try.func12 rfl trivial ?_ rfl
  simp only [Try.ntmps12, List.size_toArray, List.length_cons, List.length_nil, Nat.reduceAdd, Nat.reduceSub, Array.replicate_succ, Array.replicate_zero, List.push_toArray, List.append_toArray, List.nil_append, List.cons_append]
  gi_wp2
  refine ⟨trivial, (checkAll_in 4 (by omega) a b c d w.heap.size.succ 1 [s] (by simp) (by simpa using hs) _ (by simp) (by
    intro j h
    obtain rfl : j = 0 := by simpa using h
    exact y.cell) r hr).mono ?_⟩
  rintro e w1 ⟨rfl, hb1⟩
  gi_wp2
  exact bodyPost_ret (v := .tuple #[.slice none 0 0, .int .i64 r]) (by simp [results, Try.results12, go_sem]) rfl ⟨rfl, hB0.trans (hb1.mono hB0.size)⟩

set_option maxRecDepth 100000 in
set_option maxHeartbeats 4000000 in
theorem bounds_ok (p : Pm) (hp : p.Ok) (s : ByteArray) (hs : s.size ≤ 65536) (w : World) :
    Calls Try.prog 12 #[.string s, pv p.least p.most p.window p.bits] w fun e w' => ∃ v, e = .returned (.tuple #[v, .int .i64 0]) ∧ IsNats w' v (ends tst p (nats s)) ∧ Below w.heap.size w w' := by
  refine (callsIn_wide (n := 6)).1 ?_
  have hB0 := ((Below.refl w.heap.size w).alloc (Nat.le_refl _) (.cells #[.int .i64 p.least, .int .i64 p.most, .int .i64 p.window, .int .i64 p.bits] 23)).alloc (by simp) (.cells #[.string s] 9)
  have x := PBox.new w p.least p.most p.window p.bits
  have y := Boxed.new (w.alloc (.cells #[.int .i64 p.least, .int .i64 p.most, .int .i64 p.window, .int .i64 p.bits] 23)) 9 (.string s)
  rw [World.size_alloc] at y
  have c0 := x.c0
  have c1 := x.c1
  have c2 := x.c2
  have c3 := x.c3
  have x' : PBox ((w.alloc (.cells #[.int .i64 p.least, .int .i64 p.most, .int .i64 p.window, .int .i64 p.bits] 23)).alloc (.cells #[.string s] 9)) w.heap.size p.least p.most p.window p.bits := (Below.heap_alloc _ _ _ x.lt).trans x
  clear x
  have hlen : (ends tst p (nats s)).length ≤ 65536 := by
    have := ends_len hp (nats s)
    rw [nats_length] at this
    omega
  obtain ⟨i0, hi, hz0, hz1, hz2⟩ := info_parts info3
  refine callsIn_of_wp_marks Try.func12 rfl trivial ?_ rfl
  simp only [Try.ntmps12, List.size_toArray, List.length_cons, List.length_nil, Nat.reduceAdd, Nat.reduceSub, Array.replicate_succ, Array.replicate_zero, List.push_toArray, List.append_toArray, List.nil_append, List.cons_append]
  gi_wp2
  refine ⟨trivial, (checkAll_in 5 (by omega) p.least p.most p.window p.bits w.heap.size.succ 1 [s] (by simp) (by simp; omega) _ (by simp) (by
    intro j h
    obtain rfl : j = 0 := by simpa using h
    exact y.cell) 0 (chkA_ok hp s hs)).mono ?_⟩
  rintro e w1 ⟨rfl, hb1⟩
  have B1 := hB0.trans (hb1.mono hB0.size)
  have x1 : PBox w1 w.heap.size p.least p.most p.window p.bits := (hb1.block _ x'.lt).trans x'
  clear c0 c1 c2 c3 y x' hB0 hb1
  have x2 : PBox (w1.alloc (.cells #[.slice none 0 0] 29)) w.heap.size p.least p.most p.window p.bits := (Below.heap_alloc _ _ _ x1.lt).trans x1
  have lB := Boxed.new w1 29 (.slice none 0 0)
  have B2 := B1.alloc B1.size (.cells #[.slice none 0 0] 29)
  have lt1 : w.heap.size < w1.heap.size := x1.lt
  have c0 := x2.c0
  have c1 := x2.c1
  have c2 := x2.c2
  have c3 := x2.c3
  gi_wp2
  refine ⟨trivial, (ends_in 5 s p hp _).mono ?_⟩
  rintro e w' ⟨rfl, bS, bP, bV, eB, sz2⟩
  simp only [World.size_alloc] at bS bP bV eB sz2
  have lB2 : Boxed w' w1.heap.size 29 (.slice none 0 0) := (eB.block _ (by omega)).trans lB
  have B3 : Below w.heap.size w w' := B2.trans (eB.mono (by omega))
  clear lB B2 eB
  rw [World.size_alloc]
  generalize w' = w2 at *
  clear c0 c1 c2 c3 x1 x2 B1
  gi_wp2
  refine rangeFunc_Y rfl (by omega) (gf := 34) (lb := #[.pointer (some ⟨w1.heap.size + 1, 0, none⟩), .pointer (some ⟨w1.heap.size + 1 + 1, 0, none⟩), .pointer (some ⟨w1.heap.size + 1 + 2, 0, none⟩)]) rfl trivial (enters_of Try.func34 (by kernel_rfl) rfl)
    (ends1_in 5 (by omega) (w1.heap.size + 1) (w1.heap.size + 1 + 1) (w1.heap.size + 1 + 2) s p hp (by omega) _ rfl w2 bS bP bV) (fun k h => by rcases h with rfl | rfl | rfl <;> omega) (Below.refl _ _) (fun _ => rfl)
    (fun pre W => (∃ v, Boxed W w1.heap.size 29 v ∧ W.ownsRow (w2.heap.size + 2 + 0) 3 1 v pre.length (rowN pre)) ∧ Below w.heap.size w W)
    (fun _ _ _ => False)
    (fun pre A B h hr => by
      obtain ⟨⟨v, h1, h2⟩, h3⟩ := h
      exact ⟨⟨v, hr.boxed h1 (by omega), own_rel h2 hr (by omega)⟩, RelK.below h3 hr (by omega) h3.size⟩)
    (fun _ _ _ _ h _ => h.elim)
    ⟨⟨_, lB2, World.ownsRow_nil _ _ _ _⟩, B3⟩
    (fun x => { tmps := #[.string s, pv p.least p.most p.window p.bits, undef, .pointer (some ⟨w.heap.size, 0, none⟩), .slice none 0 0, .int .i64 0, .int .i64 0, .pointer (some ⟨w1.heap.size, 0, none⟩), .int .i64 (x : Int), pv p.least p.most p.window p.bits, .string s, .slice (some ⟨w.heap.size + 1, 0, none⟩) 1 1, .int .i64 0, .int .i64 0, .bool false, undef, .string s, pv p.least p.most p.window p.bits, .func (.func 34) #[] #[.pointer (some ⟨w1.heap.size + 1, 0, none⟩), .pointer (some ⟨w1.heap.size + 1 + 1, 0, none⟩), .pointer (some ⟨w1.heap.size + 1 + 2, 0, none⟩)], .int .i64 (x : Int), undef, undef, undef, undef, undef], defers := [] }) ?assign ?body ?done ?stop
  case assign =>
    intro l x W K hK
    gi_wp2
    exact hK
  case body =>
    rintro l pre x suf W hfull ⟨⟨v, hv, ho⟩, hB⟩ hz
    have hlt : pre.length < 65536 := by
      have := congrArg List.length hfull
      simp only [List.length_append, List.length_cons] at this
      omega
    have hy1 := hv.cell
    clear hfull hlen
    gi_wp2_with (gi_at_builtin; refine wpListIn_append_own _ rfl _ _ 29 rfl (w2.heap.size + 2 + 0) 3 i0 (.int .i64 0) 1 8 Try.underlying29 hi hz0 hz1 hz2 rfl (by decide) _ _ _ rfl (ho.alloc _) ⟨W.heap.size, 0, none⟩ 1 1 [.int .i64 (x : Int)] rfl rfl (cell_one_new _ _ _) (by simp [Value.oneCell']) (by unfold maxLen; omega) (by omega) (by simp; omega) ?_; intro v' w3 hown' hgrow _; obtain ⟨g', cap', rfl⟩ := ownsRow_succ hown'; have A := Lib.hid (box_appended (t := 29) hv ho (by omega) (by omega) hown' hgrow); have q1 := A.out.1.cell; have q2 := A.out.1.frozen)
    obtain ⟨a1, a2, a3, a4, a5, a6, a7⟩ := A.out
    refine ⟨⟨a7, fun k hk => a5 k (by omega) (by omega)⟩, ⟨_, a3, ?_⟩, hB.trans (a6.mono (by omega))⟩
    simpa [rowN] using a4
  case done =>
    rintro D W rfl ⟨⟨v, hv, ho⟩, hB⟩ hK
    have hy1 := hv.cell
    gi_wp2
    refine ⟨by simp, .inl ⟨_, _, rfl, run_takeDeferred hK, ?_⟩⟩
    have hr : RelK w2.heap.size (0 + 2) W (W.putObj w2.heap.size (.deferred none)) := RelK.putObj _ _ _ _ _ _ hK rfl rfl (by omega) (by omega)
    exact ⟨_, by simp [results, Try.f12, go_sem], _, rfl, own_nats (own_rel ho hr (by omega)) rfl (by unfold maxLen; omega), RelK.below hB hr (by omega) hB.size⟩
  case stop =>
    rintro D c pre W _ h _
    exact h.elim
end Go.Proofs.Ytcdnhnbigincpaa
