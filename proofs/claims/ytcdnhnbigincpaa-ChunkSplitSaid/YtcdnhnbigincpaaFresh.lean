/- chunk.Fresh, at this translation. -/
import Derived.Test.YtcdnhnbigincpaaSplit
import Derived.Test.YtcdnhnbigincpaaBoolSet
namespace Go.Proofs.Ytcdnhnbigincpaa
open Go.RowKit Go.Shelf
attribute [local go_sem] Oper.semAt_some

/-- How many bytes are in pieces that the first list does not have. -/
def freshN (L : List ByteArray) : List ByteArray → Nat
  | [] => 0
  | x :: X => (if hasB L x then 0 else x.size) + freshN L X
theorem freshN_append (L X Y : List ByteArray) : freshN L (X ++ Y) = freshN L X + freshN L Y := by
  induction X with
  | nil => simp [freshN]
  | cons x X ih => simp [freshN, ih, Nat.add_assoc]
def total : List ByteArray → Nat
  | [] => 0
  | x :: X => x.size + total X
theorem freshN_le (L : List ByteArray) : ∀ X, freshN L X ≤ total X
  | [] => Nat.le_refl _
  | x :: X => by have := freshN_le L X; simp only [freshN, total]; split <;> omega
theorem total_append (X Y : List ByteArray) : total (X ++ Y) = total X + total Y := by
  induction X with
  | nil => simp [total]
  | cons x X ih => simp [total, ih, Nat.add_assoc]
theorem total_pieces {p : Pm} {s : ByteArray} : ∀ (E : List Nat) (b : Nat), Good p s.size b E → total (pieces s b E) + b = s.size
  | [], b, h => by have : b = s.size := h; simp [pieces, total]; exact this
  | e :: E, b, h => by
    have := total_pieces E e h.2.2.2.2
    have h1 := h.1
    have h2 := h.2.1
    simp only [pieces, total, ByteArray.size_extract]
    omega
theorem total_all {p : Pm} (hp : p.Ok) (s : ByteArray) : total (pieces s 0 (ends tst p (nats s))) = s.size := by
  have g := ends_good (tst := tst) hp (nats s)
  rw [nats_length] at g
  exact total_pieces _ 0 g
theorem piece_size {s : ByteArray} : ∀ (E : List Nat) (b : Nat), ∀ x ∈ pieces s b E, x.size ≤ s.size
  | [], _, x, h => by simp [pieces] at h
  | e :: E, b, x, h => by
    rcases List.mem_cons.1 h with rfl | h
    · simp only [ByteArray.size_extract]; omega
    · exact piece_size E e x h
theorem RelK.pbox {N K B : Nat} {a b c d : Int} {A A' : World} (hr : RelK N K A A') (h : PBox A B a b c d) (hB : B < N ∨ N + K ≤ B) : PBox A' B a b c d := (hr.2 B h.lt (by omega)).trans h
theorem chkA_two {p : Pm} (hp : p.Ok) (s t : ByteArray) (hs : s.size ≤ 65536) (ht : t.size ≤ 65536) : chkA p.least p.most p.window p.bits [s, t] = 0 := by
  rw [chkA, chkP_ok hp, if_neg (by simp), if_neg]
  rintro ⟨y, hy, h⟩
  simp at hy
  rcases hy with rfl | rfl <;> omega

set_option maxRecDepth 100000 in
set_option maxHeartbeats 8000000 in
theorem fresh_ok (p : Pm) (hp : p.Ok) (s t : ByteArray) (hs : s.size ≤ 65536) (ht : t.size ≤ 65536) (w : World) :
    Calls Try.prog 21 #[.string s, .string t, pv p.least p.most p.window p.bits] w fun e w' => e = .returned (.tuple #[.int .i64 (freshN (pieces s 0 (ends tst p (nats s))) (pieces t 0 (ends tst p (nats t))) : Nat), .int .i64 0]) ∧ Below w.heap.size w w' := by
  refine (callsIn_wide (n := 6)).1 ?_
  have hB0 := ((Below.refl w.heap.size w).alloc (Nat.le_refl _) (.cells #[.int .i64 p.least, .int .i64 p.most, .int .i64 p.window, .int .i64 p.bits] 23)).alloc (by simp) (.cells #[.string s, .string t] 9)
  have x := PBox.new w p.least p.most p.window p.bits
  have c0 := x.c0
  have c1 := x.c1
  have c2 := x.c2
  have c3 := x.c3
  have x' : PBox ((w.alloc (.cells #[.int .i64 p.least, .int .i64 p.most, .int .i64 p.window, .int .i64 p.bits] 23)).alloc (.cells #[.string s, .string t] 9)) w.heap.size p.least p.most p.window p.bits := (Below.heap_alloc _ _ _ x.lt).trans x
  have hcl : ∀ j (h : j < [s, t].length), ((w.alloc (.cells #[.int .i64 p.least, .int .i64 p.most, .int .i64 p.window, .int .i64 p.bits] 23)).alloc (.cells #[.string s, .string t] 9)).cell? ⟨w.heap.size + 1, 0 + j, none⟩ = some (.string [s, t][j]) := by
    have := fun j => World.cell?_alloc_new (w := w.alloc (.cells #[.int .i64 p.least, .int .i64 p.most, .int .i64 p.window, .int .i64 p.bits] 23)) #[.string s, .string t] 9 j
    simp only [World.size_alloc] at this
    intro j h
    match j, h with
    | 0, _ => simp
    | 1, _ => simp
  clear x
  obtain ⟨LA, hLA⟩ : ∃ L, pieces s 0 (ends tst p (nats s)) = L := ⟨_, rfl⟩
  obtain ⟨LB, hLB⟩ : ∃ L, pieces t 0 (ends tst p (nats t)) = L := ⟨_, rfl⟩
  have lenA : LA.length ≤ 65536 := by
    have := ends_len hp (nats s)
    rw [nats_length] at this
    rw [← hLA, pieces_length]; omega
  have sizA : ∀ y ∈ LA, y.size ≤ 65536 := fun y hy => by
    have := piece_size _ _ y (hLA ▸ hy); omega
  have sizB : ∀ y ∈ LB, y.size ≤ 65536 := fun y hy => by
    have := piece_size _ _ y (hLB ▸ hy); omega
  have totB : total LB ≤ 65536 := by rw [← hLB, total_all hp]; exact ht
  rw [hLA, hLB]
  have HLA := Lib.hid hLA
  have HLB := Lib.hid hLB
  have SA := Lib.hid sizA
  have SB := Lib.hid sizB
  clear hLA hLB sizA sizB
  have hmm := @run_makeMap Try.prog
  refine callsIn_of_wp_marks Try.func21 rfl trivial ?_ rfl
  simp only [Try.ntmps21, List.size_toArray, List.length_cons, List.length_nil, Nat.reduceAdd, Nat.reduceSub, Array.replicate_succ, Array.replicate_zero, List.push_toArray, List.append_toArray, List.nil_append, List.cons_append]
  gi_wp2
  refine ⟨trivial, (checkAll_in 5 (by omega) p.least p.most p.window p.bits w.heap.size.succ 2 [s, t] (by simp) (by simp; omega) _ (by simp) hcl 0 (chkA_two hp s t hs ht)).mono ?_⟩
  rintro e w1 ⟨rfl, hb1⟩
  have B1 := hB0.trans (hb1.mono hB0.size)
  have x1 : PBox w1 w.heap.size p.least p.most p.window p.bits := (hb1.block _ x'.lt).trans x'
  clear c0 c1 c2 c3 x' hB0 hb1 hcl
  have lt1 : w.heap.size < w1.heap.size := x1.lt
  have x2 : PBox ((w1.alloc (.map #[] 0)).alloc (.cells #[.map (some w1.heap.size)] 59)) w.heap.size p.least p.most p.window p.bits := (Below.heap_alloc _ _ _ (by simp; omega)).trans ((Below.heap_alloc _ _ _ lt1).trans x1)
  have B2 := (B1.alloc B1.size (.map #[] 0)).alloc (by simp; omega) (.cells #[.map (some w1.heap.size)] 59)
  have kB := Boxed.new (w1.alloc (.map #[] 0)) 59 (.map (some w1.heap.size))
  rw [World.size_alloc] at kB
  have set0 : IsSet Try.prog 9 4 ((w1.alloc (.map #[] 0)).alloc (.cells #[.map (some w1.heap.size)] 59)) w1.heap.size 0 [] := (isSet_made w1).kept (Below.heap_alloc _ _ _ (by simp))
  have c0 := x2.c0
  have c1 := x2.c1
  have c2 := x2.c2
  have c3 := x2.c3
  gi_wp2
  refine ⟨trivial, (chunks_in 5 s p.least p.most p.window p.bits _).mono ?_⟩
  rintro e w' ⟨rfl, hw2⟩
  have sz2 : w'.heap.size = w1.heap.size + 4 := by rw [hw2]; simp
  have kB2 : Boxed w' (w1.heap.size + 1) 59 (.map (some w1.heap.size)) := by rw [hw2]; exact (kB.alloc _).alloc _
  have set2 : IsSet Try.prog 9 4 w' w1.heap.size 0 [] := by
    rw [hw2]
    exact (set0.kept (Below.heap_alloc _ _ _ (by simp; omega))).kept (Below.heap_alloc _ _ _ (by simp; omega))
  have bS : Boxed w' (w1.heap.size + 2) 9 (.string s) := by
    rw [hw2]
    have := (Boxed.new ((w1.alloc (.map #[] 0)).alloc (.cells #[.map (some w1.heap.size)] 59)) 9 (.string s)).alloc (.cells #[.int .i64 p.least, .int .i64 p.most, .int .i64 p.window, .int .i64 p.bits] 23)
    rwa [World.size_alloc, World.size_alloc] at this
  have bP : PBox w' (w1.heap.size + 3) p.least p.most p.window p.bits := by
    rw [hw2]
    have := PBox.new (((w1.alloc (.map #[] 0)).alloc (.cells #[.map (some w1.heap.size)] 59)).alloc (.cells #[.string s] 9)) p.least p.most p.window p.bits
    rwa [World.size_alloc, World.size_alloc, World.size_alloc] at this
  have x3 : PBox w' w.heap.size p.least p.most p.window p.bits := by
    rw [hw2]
    exact (Below.heap_alloc _ _ _ (by simp; omega)).trans ((Below.heap_alloc _ _ _ (by simp; omega)).trans x2)
  have B3 : Below w.heap.size w w' := by rw [hw2]; exact (B2.alloc B2.size _).alloc (by simp; omega) _
  clear hw2 kB B2 set0 x1 x2 c0 c1 c2 c3 B1
  rw [World.size_alloc, World.size_alloc]
  generalize w' = w2 at *
  gi_wp2
  have hseq := chunks1_in 5 (by omega) (w1.heap.size + 2) (w1.heap.size + 3) s p hp (by omega) w2 bS bP
  rw [HLA.out] at hseq
  refine rangeFunc_Y rfl (by omega) (gf := 31) (lb := #[.pointer (some ⟨w1.heap.size + 1 + 1, 0, none⟩), .pointer (some ⟨w1.heap.size + 1 + 1 + 1, 0, none⟩)]) rfl trivial (enters_of Try.func31 (by kernel_rfl) rfl)
    hseq (fun k h => by rcases h with rfl | rfl <;> omega) (Below.refl _ _) (fun _ => rfl)
    (fun pre W => IsSet Try.prog 9 4 W w1.heap.size pre.length pre ∧ Boxed W (w1.heap.size + 1) 59 (.map (some w1.heap.size)) ∧ PBox W w.heap.size p.least p.most p.window p.bits ∧ Below w.heap.size w W)
    (fun _ _ _ => False)
    (fun pre A B h hr => ⟨h.1.kept (hr.2 _ h.1.lt (by omega)), hr.boxed h.2.1 (by omega), hr.pbox h.2.2.1 (by omega), RelK.below h.2.2.2 hr (by omega) h.2.2.2.size⟩)
    (fun _ _ _ _ h _ => h.elim)
    ⟨set2, kB2, x3, B3⟩
    (fun x => { tmps := #[.string s, .string t, pv p.least p.most p.window p.bits, undef, undef, .pointer (some ⟨w.heap.size, 0, none⟩), .int .i64 0, .int .i64 0, .int .i64 0, .pointer (some ⟨w1.heap.size + 1, 0, none⟩), .string x, undef, undef, pv p.least p.most p.window p.bits, .string s, .string t, .slice (some ⟨w.heap.size + 1, 0, none⟩) 2 2, .int .i64 0, .int .i64 0, .bool false, undef, .map (some w1.heap.size), .string s, pv p.least p.most p.window p.bits, .func (.func 31) #[] #[.pointer (some ⟨w1.heap.size + 1 + 1, 0, none⟩), .pointer (some ⟨w1.heap.size + 1 + 1 + 1, 0, none⟩)], .string x, undef, undef, undef, undef, undef, undef, undef, undef, undef, undef, undef, undef, undef, undef, undef], defers := [] }) ?assign ?body ?done ?stop
  case assign =>
    intro l x W K hK
    gi_wp2
    exact hK
  case body =>
    rintro l pre y suf W hfull ⟨hset, hk, hx, hB⟩ hz
    have hlt : pre.length < 65536 := by
      have := congrArg List.length hfull
      simp only [List.length_append, List.length_cons] at this
      omega
    have hy := SA.out y (by rw [hfull]; simp)
    have hk1 := hk.cell
    clear hfull
    gi_wp2_with (gi_at_mapUpdate; refine wpListIn_set_in _ rfl _ _ _ 59 rfl 9 4 Try.underlying9 Try.underlying4 Try.underlying59 w1.heap.size pre.length pre rfl hset (by unfold maxLen; omega) y (by unfold maxLen; omega) rfl rfl ?_; intro w3 hset3 hgrow3)
    have kk : ∀ k, k ≠ w1.heap.size → k < W.heap.size → w3.heap[k]? = W.heap[k]? := fun k h1 h2 => hgrow3.block k h2 (fun e => h1 (by cases e; rfl))
    refine ⟨⟨hgrow3.size, fun k hk' => ?_⟩, by simpa using hset3, (kk _ (by omega) hk.lt).trans hk, (kk _ (by omega) hx.lt).trans hx, hB.grown hgrow3 hB.size (fun k e => by cases e; omega)⟩
    rcases hk' with (rfl | rfl) | hk'
    · exact kk _ (by omega) (by omega)
    · exact kk _ (by omega) (by omega)
    · exact kk _ (by omega) (by omega)
  case stop =>
    rintro D c pre W _ h _
    exact h.elim
  case done =>
    rintro D W rfl ⟨hset, hk, hx, hB⟩ hK
    have ltK := (Array.getElem?_eq_some_iff.1 hK).1
    have a0 := (Boxed.new W 3 (.int .i64 0))
    have hx2 : PBox (W.alloc (.cells #[.int .i64 0] 3)) w.heap.size p.least p.most p.window p.bits := (Below.heap_alloc _ _ _ hx.lt).trans hx
    have hB2 := hB.alloc hB.size (.cells #[.int .i64 0] 3)
    have c0 := hx2.c0
    have c1 := hx2.c1
    have c2 := hx2.c2
    have c3 := hx2.c3
    gi_wp2
    refine ⟨trivial, (chunks_in 5 t p.least p.most p.window p.bits _).mono ?_⟩
    rintro e w' ⟨rfl, hw3⟩
    have sz3 : w'.heap.size = W.heap.size + 3 := by rw [hw3]; simp
    have all : ∀ k, k < W.heap.size → w'.heap[k]? = W.heap[k]? := fun k h => by
      rw [hw3]
      exact (Below.heap_alloc _ _ _ (by simp; omega)).trans ((Below.heap_alloc _ _ _ (by simp; omega)).trans (Below.heap_alloc _ _ _ h))
    have nB3 : Boxed w' W.heap.size 3 (.int .i64 0) := by rw [hw3]; exact (a0.alloc _).alloc _
    have bT : Boxed w' (W.heap.size + 1) 9 (.string t) := by
      rw [hw3]
      have := (Boxed.new (W.alloc (.cells #[.int .i64 0] 3)) 9 (.string t)).alloc (.cells #[.int .i64 p.least, .int .i64 p.most, .int .i64 p.window, .int .i64 p.bits] 23)
      rwa [World.size_alloc] at this
    have bQ : PBox w' (W.heap.size + 2) p.least p.most p.window p.bits := by
      rw [hw3]
      have := PBox.new ((W.alloc (.cells #[.int .i64 0] 3)).alloc (.cells #[.string t] 9)) p.least p.most p.window p.bits
      rwa [World.size_alloc, World.size_alloc] at this
    have B4' : Below w.heap.size w w' := by rw [hw3]; exact (hB2.alloc hB2.size _).alloc (by have := hB2.size; simp at this ⊢; omega) _
    have set3 := hset.kept (all _ hset.lt)
    have kB3 : Boxed w' (w1.heap.size + 1) 59 (.map (some w1.heap.size)) := (all _ hk.lt).trans hk
    have hK3 : w'.heap[w2.heap.size]? = some (.deferred (some [])) := (all _ ltK).trans hK
    clear hw3 a0 hx2 hB2 c0 c1 c2 c3 all hset hk hx hB hK
    have szW : w1.heap.size + 4 < W.heap.size := by omega
    rw [World.size_alloc]
    generalize w' = w3 at *
    gi_wp2
    have hseq2 := chunks1_in 5 (by omega) (W.heap.size + 1) (W.heap.size + 2) t p hp (by omega) w3 bT bQ
    rw [HLB.out] at hseq2
    refine rangeFunc_Y rfl (by omega) (gf := 31) (lb := #[.pointer (some ⟨W.heap.size + 1, 0, none⟩), .pointer (some ⟨W.heap.size + 1 + 1, 0, none⟩)]) rfl trivial (enters_of Try.func31 (by kernel_rfl) rfl)
      hseq2 (fun k h => by rcases h with rfl | rfl <;> omega) (Below.refl _ _) (fun _ => rfl)
      (fun pre V => IsSet Try.prog 9 4 V w1.heap.size LA.length LA ∧ Boxed V (w1.heap.size + 1) 59 (.map (some w1.heap.size)) ∧ Boxed V W.heap.size 3 (.int .i64 (freshN LA pre : Nat)) ∧ V.heap[w2.heap.size]? = some (.deferred (some [])) ∧ Below w.heap.size w V)
      (fun _ _ _ => False)
      (fun pre A B h hr => ⟨h.1.kept (hr.2 _ h.1.lt (by omega)), hr.boxed h.2.1 (by omega), hr.boxed h.2.2.1 (by omega), (hr.2 _ (Array.getElem?_eq_some_iff.1 h.2.2.2.1).1 (by omega)).trans h.2.2.2.1, RelK.below h.2.2.2.2 hr (by omega) h.2.2.2.2.size⟩)
      (fun _ _ _ _ h _ => h.elim)
      ⟨set3, kB3, nB3, hK3, B4'⟩
      (fun x => { tmps := #[.string s, .string t, pv p.least p.most p.window p.bits, undef, undef, .pointer (some ⟨w.heap.size, 0, none⟩), .int .i64 0, .int .i64 0, .int .i64 0, .pointer (some ⟨w1.heap.size + 1, 0, none⟩), undef, .pointer (some ⟨W.heap.size, 0, none⟩), .string x, pv p.least p.most p.window p.bits, .string s, .string t, .slice (some ⟨w.heap.size + 1, 0, none⟩) 2 2, .int .i64 0, .int .i64 0, .bool false, undef, .map (some w1.heap.size), .string s, pv p.least p.most p.window p.bits, .func (.func 31) #[] #[.pointer (some ⟨w1.heap.size + 1 + 1, 0, none⟩), .pointer (some ⟨w1.heap.size + 1 + 1 + 1, 0, none⟩)], undef, undef, undef, .string t, pv p.least p.most p.window p.bits, .func (.func 31) #[] #[.pointer (some ⟨W.heap.size + 1, 0, none⟩), .pointer (some ⟨W.heap.size + 1 + 1, 0, none⟩)], .string x, undef, undef, undef, undef, undef, undef, undef, undef, undef], defers := [] }) ?assign ?body ?done ?stop
    case assign =>
      intro l x W K hK
      gi_wp2
      exact hK
    case body =>
      rintro l pre y suf V hfull ⟨hset, hk, hn, hd, hB⟩ hz
      have hy := SB.out y (by rw [hfull]; simp)
      have hfr : freshN LA (pre ++ [y]) ≤ 65536 := by
        have h1 := freshN_le LA LB
        have h2 : LB = (pre ++ [y]) ++ suf := by rw [hfull]; simp
        have h3 := total_append (pre ++ [y]) suf
        have h4 := freshN_le LA (pre ++ [y])
        rw [← h2] at h3
        omega
      have hsn := freshN_append LA pre [y]
      have hk1 := hk.cell
      have hn1 := hn.cell
      have hn2 := hn.frozen
      have hlook := hset.look (t := 59) Try.underlying9 Try.underlying4 Try.underlying59 (Try.zeroValue4 _) y (by unfold maxLen; omega)
      clear hfull
      cases hc : hasB LA y
      · rw [hc] at hlook
        simp only [freshN, hc] at hsn
        rw [hsn] at hfr
        have HSN := Lib.hid hsn
        clear hsn
        generalize freshN LA pre = f at *
        gi_wp2
        refine ⟨⟨by simp [World.setCell], fun k hk' => Below.heap_setCell V _ _ k (by show k ≠ W.heap.size; omega)⟩, hset.kept (Below.heap_setCell V _ _ _ (by show w1.heap.size ≠ W.heap.size; omega)), boxed_other hk (by omega) _, ?_, (Below.heap_setCell V _ _ _ (by show w2.heap.size ≠ W.heap.size; omega)).trans hd, hB.setCell (p := ⟨W.heap.size, 0, none⟩) (by show w.heap.size ≤ W.heap.size; omega) _⟩
        rw [HSN.out]
        simpa using hn.set (.int .i64 ((f : Int) + (y.size : Int)))
      · rw [hc] at hlook
        simp only [freshN, hc] at hsn
        have HSN := Lib.hid hsn
        clear hsn
        gi_wp2
        exact ⟨⟨Nat.le_refl _, fun _ _ => rfl⟩, hset, hk, by rw [HSN.out]; simpa using hn, hd, hB⟩
    case stop =>
      rintro D c pre V _ h _
      exact h.elim
    case done =>
      rintro D V rfl ⟨hset, hk, hn, hd, hB⟩ hK
      have hn1 := hn.cell
      gi_wp2
      have hr1 : RelK w3.heap.size (7 + 2) V (V.putObj w3.heap.size (.deferred none)) := RelK.putObj _ _ _ _ _ _ hK rfl rfl (by omega) (by omega)
      have hd2 : (V.putObj w3.heap.size (.deferred none)).heap[w2.heap.size]? = some (.deferred (some [])) := (hr1.2 _ (Array.getElem?_eq_some_iff.1 hd).1 (by omega)).trans hd
      have hr2 : RelK w2.heap.size 1 (V.putObj w3.heap.size (.deferred none)) ((V.putObj w3.heap.size (.deferred none)).putObj w2.heap.size (.deferred none)) := RelK.putObj _ _ _ _ _ _ hd2 rfl rfl (by omega) (by omega)
      have b1 := RelK.below hB hr1 (by omega) hB.size
      have b2 := RelK.below b1 hr2 (by omega) b1.size
      rw [sz2] at hd2 b2
      refine ⟨by simp, .inl ⟨_, _, rfl, run_takeDeferred hK, ?_⟩⟩
      refine ⟨by simp, .inl ⟨_, _, rfl, run_takeDeferred hd2, ?_⟩⟩
      exact ⟨_, by simp [results, Try.f21, go_sem], rfl, b2⟩
end Go.Proofs.Ytcdnhnbigincpaa
