/- chunk.Manifest, at this translation. -/
import Derived.Test.YtcdnhnbigincpaaSplit
import Derived.Test.YtcdnhnbigincpaaDigs
namespace Go.Proofs.Ytcdnhnbigincpaa
open Go.RowKit Go.Shelf
attribute [local go_sem] Oper.semAt_some

theorem ownsRow_setCell_belowD {W : World} {B s : Nat} {e : TypeId} {v : Value} {n : Nat} {xs : List Value} (h : W.ownsRow B e s v n xs) {N : Nat} (hN : N < B) (u : Value) : (W.setCell ⟨N, 0, none⟩ u).ownsRow B e s v n xs := by
  refine ⟨h.1, h.2.imp id ?_⟩
  rintro ⟨g, cap, cur, e, hg, hh, h3⟩
  exact ⟨g, cap, cur, e, hg, (Below.heap_setCell W ⟨N, 0, none⟩ u g (by show g ≠ N; omega)).trans hh, h3⟩
theorem box_appendedD {W w1 : World} {base yb s : Nat} {t e : TypeId} {k m : Nat} {v v' : Value} {xs ys : List Value} {tmp : Obj} (hy : Boxed W yb t v) (ho : W.ownsRow base e s v k xs) (hyb : yb < base) (hz : base ≤ W.heap.size)
    (hown' : w1.ownsRow base e s v' m ys) (hgrow : (W.alloc tmp).grownBy w1 v.ownBlock) :
    Boxed w1 yb t v ∧ Boxed (w1.setCell ⟨yb, 0, none⟩ v') yb t v' ∧ (w1.setCell ⟨yb, 0, none⟩ v').ownsRow base e s v' m ys ∧
      (∀ j, j < base → j ≠ yb → (w1.setCell ⟨yb, 0, none⟩ v').heap[j]? = W.heap[j]?) ∧ Below yb W (w1.setCell ⟨yb, 0, none⟩ v') := by
  have h1 : ∀ j, j < base → w1.heap[j]? = W.heap[j]? := fun j hj => by
    rw [hgrow.block j (by rw [World.size_alloc]; omega) ?_]
    · exact Below.heap_alloc W tmp j (by omega)
    · intro e
      have := (ho.lt j e.symm).1
      omega
  have h2 : Boxed w1 yb t v := (h1 yb hyb).trans hy
  have hb : Below yb W (w1.setCell ⟨yb, 0, none⟩ v') := by
    refine (((Below.refl yb W).alloc (by omega) tmp).grown hgrow (by simp; omega) fun j ej => ?_).setCell (p := ⟨yb, 0, none⟩) (Nat.le_refl _) v'
    have := (ho.lt j ej).1
    omega
  exact ⟨h2, h2.set v', ownsRow_setCell_belowD hown' hyb v', fun j hj hne => (Below.heap_setCell w1 _ v' j hne).trans (h1 j hj), hb⟩

/-- append at a step of a region that draws, inside a fence. -/
theorem stepIn_append {F : Fence} {m : Nat} {P : Program} {ops : Array Oper} {w : World} {o : Oper} {a : Act} {K : Act → World → Prop} {Q : Exit → Act → World → Prop} {E : Prop} (hgd : o.guard = none) (s x : Operand) (t : TypeId)
    (ho : o.op = .call { callee := .builtin .append, args := #[s, x], argTypes := #[t, t] })
    (base : Nat) (e : TypeId) (i : TypeInfo) (z : Value) (size bytes : Nat) (ht : P.underlying t = some (.slice e)) (hi : P.info? e = some i) (hz : i.zero = some z)
    (hsize : i.size = size) (hby : i.bytes = bytes) (hzs : z.cells.size = size) (hsz : 0 < size)
    (v : Value) (n : Nat) (xs : List Value) (hs : a.eval s = v) (hown : w.ownsRow base e size v n xs)
    (ad : Addr) (k c : Nat) (news : List Value) (hx : a.eval x = .slice (some ad) k c) (hl : news.length = k * size) (hnews : ∀ j u, news[j]? = some u → w.cell? (ad.add j) = some u) (h1 : ∀ u ∈ news, u.oneCell' = true)
    (h63 : n + k ≤ maxLen) (hbytes : (n + k) * bytes ≤ 140737488355328) (hbase : base ≤ w.heap.size)
    (h : ∀ v' w', w'.ownsRow base e size v' (n + k) (xs ++ news) → w.grownBy w' v.ownBlock → K (a.put o.dst v') w') :
    if Region.wanted o (yielded ops a.tmps) = true then Oper.wpIn F m P o a w K Q else E := by
  have hw : Region.wanted o (yielded ops a.tmps) = true := by simp [Region.wanted, hgd]
  rw [if_pos hw]
  obtain ⟨v', w', hr, h2, h3, _⟩ := run_append_own (P := P) w base t o.type e i z size bytes ht hi hz hsize hby hzs hsz v n xs hown ad k c news hl hnews h1 h63 hbytes hbase
  unfold Oper.wpIn
  refine ⟨?_, ?_⟩
  · simp [Oper.about, ho, resolve, Target.leads, Sem.run_pure]
  · rw [Oper.semAt_plain F _ _ (by rw [ho]; intro c hc'; cases hc')]
    simp [execOp, ho, resolve, invoke, builtin, hs, hx, hr, Result.andThen]
    exact h v' w' h2 h3

theorem own_relD {N K B m s : Nat} {e : TypeId} {v : Value} {xs : List Value} {A A' : World} (h : A.ownsRow B e s v m xs) (hr : RelK N K A A') (hB : N + K ≤ B) : A'.ownsRow B e s v m xs :=
  own_moveD h fun k h1 h2 => hr.2 k h2 (by omega)

set_option maxHeartbeats 2000000 in
theorem manifest_err (a b c d : Int) (s : ByteArray) (hs : s.size ≤ 100000) (w : World) (r : Int) (hr : chkA a b c d [s] = r) (h0 : r ≠ 0) :
    Calls Try.prog 14 #[.string s, pv a b c d] w fun e w' => e = .returned (.tuple #[.slice none 0 0, .int .i64 r]) ∧ Below w.heap.size w w' := by
  refine (callsIn_wide (n := 5)).1 ?_
  have hB0 := ((Below.refl w.heap.size w).alloc (Nat.le_refl _) (.cells #[.int .i64 a, .int .i64 b, .int .i64 c, .int .i64 d] 23)).alloc (by simp) (.cells #[.string s] 9)
  have x := PBox.new w a b c d
  have x' : PBox ((w.alloc (.cells #[.int .i64 a, .int .i64 b, .int .i64 c, .int .i64 d] 23)).alloc (.cells #[.string s] 9)) w.heap.size a b c d := (Below.heap_alloc _ _ _ x.lt).trans x
  have y := Boxed.new (w.alloc (.cells #[.int .i64 a, .int .i64 b, .int .i64 c, .int .i64 d] 23)) 9 (.string s)
  rw [World.size_alloc] at y
  have c0 := x.c0
  have c1 := x.c1
  have c2 := x.c2
  have c3 := x.c3
  clear x x'
  have hne : (r != 0) = true := by simpa using h0
  refine callsIn_of_wp Try.func14 rfl trivial ?_ rfl
  simp only [Try.ntmps14, List.size_toArray, List.length_cons, List.length_nil, Nat.reduceAdd, Nat.reduceSub, Array.replicate_succ, Array.replicate_zero, List.push_toArray, List.append_toArray, List.nil_append, List.cons_append]
  gi_wp2
  refine ⟨trivial, (checkAll_in 4 (by omega) a b c d w.heap.size.succ 1 [s] (by simp) (by simpa using hs) _ (by simp) (by
    intro j h
    obtain rfl : j = 0 := by simpa using h
    exact y.cell) r hr).mono ?_⟩
  rintro e w1 ⟨rfl, hb1⟩
  gi_wp2
  exact bodyPost_ret (v := .tuple #[.slice none 0 0, .int .i64 r]) (by simp [results, Try.results14, go_sem]) rfl ⟨rfl, hB0.trans (hb1.mono hB0.size)⟩

set_option maxRecDepth 100000 in
set_option maxHeartbeats 4000000 in
theorem manifest_ok (p : Pm) (hp : p.Ok) (s : ByteArray) (hs : s.size ≤ 65536) (w : World) :
    Calls Try.prog 14 #[.string s, pv p.least p.most p.window p.bits] w fun e w' => ∃ v, e = .returned (.tuple #[v, .int .i64 0]) ∧ IsDigs w' v ((pieces s 0 (ends tst p (nats s))).map digOf) ∧ Below w.heap.size w w' := by
  refine (callsIn_wide (n := 6)).1 ?_
  have hB0 := ((Below.refl w.heap.size w).alloc (Nat.le_refl _) (.cells #[.int .i64 p.least, .int .i64 p.most, .int .i64 p.window, .int .i64 p.bits] 23)).alloc (by simp) (.cells #[.string s] 9)
  have x := PBox.new w p.least p.most p.window p.bits
  have y := Boxed.new (w.alloc (.cells #[.int .i64 p.least, .int .i64 p.most, .int .i64 p.window, .int .i64 p.bits] 23)) 9 (.string s)
  rw [World.size_alloc] at y
  have c0 := x.c0
  have c1 := x.c1
  have c2 := x.c2
  have c3 := x.c3
  have x' : PBox ((w.alloc (.cells #[.int .i64 p.least, .int .i64 p.most, .int .i64 p.window, .int .i64 p.bits] 23)).alloc (.cells #[.string s] 9)) w.heap.size p.least p.most p.window p.bits := (Below.heap_alloc _ _ _ x.lt).trans x
  clear x
  have hlen : ((pieces s 0 (ends tst p (nats s))).map digOf).length ≤ 65536 := by
    have := ends_len hp (nats s)
    rw [nats_length] at this
    simp only [List.length_map, pieces_length]
    omega
  obtain ⟨i0, hi, hz0, hz1, hz2⟩ := info_parts info57
  refine callsIn_of_wp_marks Try.func14 rfl trivial ?_ rfl
  simp only [Try.ntmps14, List.size_toArray, List.length_cons, List.length_nil, Nat.reduceAdd, Nat.reduceSub, Array.replicate_succ, Array.replicate_zero, List.push_toArray, List.append_toArray, List.nil_append, List.cons_append]
  gi_wp2
  refine ⟨trivial, (checkAll_in 5 (by omega) p.least p.most p.window p.bits w.heap.size.succ 1 [s] (by simp) (by simp; omega) _ (by simp) (by
    intro j h
    obtain rfl : j = 0 := by simpa using h
    exact y.cell) 0 (chkA_ok hp s hs)).mono ?_⟩
  rintro e w1 ⟨rfl, hb1⟩
  have B1 := hB0.trans (hb1.mono hB0.size)
  have x1 : PBox w1 w.heap.size p.least p.most p.window p.bits := (hb1.block _ x'.lt).trans x'
  clear c0 c1 c2 c3 y x' hB0 hb1
  have x2 : PBox (w1.alloc (.cells #[.slice none 0 0] 32)) w.heap.size p.least p.most p.window p.bits := (Below.heap_alloc _ _ _ x1.lt).trans x1
  have lB := Boxed.new w1 32 (.slice none 0 0)
  have B2 := B1.alloc B1.size (.cells #[.slice none 0 0] 32)
  have lt1 : w.heap.size < w1.heap.size := x1.lt
  have c0 := x2.c0
  have c1 := x2.c1
  have c2 := x2.c2
  have c3 := x2.c3
  gi_wp2
  refine ⟨trivial, (chunks_in 5 s p.least p.most p.window p.bits _).mono ?_⟩
  rintro e w' ⟨rfl, hw2⟩
  have sz2 : w'.heap.size = w1.heap.size + 3 := by rw [hw2]; simp
  have lB2 : Boxed w' w1.heap.size 32 (.slice none 0 0) := by rw [hw2]; exact (lB.alloc _).alloc _
  have bS : Boxed w' (w1.heap.size + 1) 9 (.string s) := by
    rw [hw2]
    have := (Boxed.new (w1.alloc (.cells #[.slice none 0 0] 32)) 9 (.string s)).alloc (.cells #[.int .i64 p.least, .int .i64 p.most, .int .i64 p.window, .int .i64 p.bits] 23)
    rwa [World.size_alloc] at this
  have bP : PBox w' (w1.heap.size + 2) p.least p.most p.window p.bits := by
    rw [hw2]
    have := PBox.new ((w1.alloc (.cells #[.slice none 0 0] 32)).alloc (.cells #[.string s] 9)) p.least p.most p.window p.bits
    rwa [World.size_alloc, World.size_alloc] at this
  have B3 : Below w.heap.size w w' := by rw [hw2]; exact (B2.alloc B2.size _).alloc (by simp; omega) _
  clear hw2 lB B2
  rw [World.size_alloc]
  generalize w' = w2 at *
  clear c0 c1 c2 c3 x1 x2 B1
  gi_wp2
  refine rangeFunc_Y rfl (by omega) (gf := 31) (lb := #[.pointer (some ⟨w1.heap.size + 1, 0, none⟩), .pointer (some ⟨w1.heap.size + 1 + 1, 0, none⟩)]) rfl trivial (enters_of Try.func31 (by kernel_rfl) rfl)
    (chunks1_in 5 (by omega) (w1.heap.size + 1) (w1.heap.size + 2) s p hp (by omega) w2 bS bP) (fun k h => by rcases h with rfl | rfl <;> omega) (Below.refl _ _) (fun _ => rfl)
    (fun pre W => (∃ v, Boxed W w1.heap.size 32 v ∧ W.ownsRow (w2.heap.size + 2 + 7) 57 2 v pre.length (rowD (pre.map digOf))) ∧ Below w.heap.size w W)
    (fun _ _ _ => False)
    (fun pre A B h hr => by
      obtain ⟨⟨v, h1, h2⟩, h3⟩ := h
      exact ⟨⟨v, hr.boxed h1 (by omega), own_relD h2 hr (by omega)⟩, RelK.below h3 hr (by omega) h3.size⟩)
    (fun _ _ _ _ h _ => h.elim)
    ⟨⟨_, lB2, World.ownsRow_nil _ _ _ _⟩, B3⟩
    (fun x => { tmps := #[.string s, pv p.least p.most p.window p.bits, undef, .pointer (some ⟨w.heap.size, 0, none⟩), .slice none 0 0, .int .i64 0, .int .i64 0, .pointer (some ⟨w1.heap.size, 0, none⟩), .string x, pv p.least p.most p.window p.bits, .string s, .slice (some ⟨w.heap.size + 1, 0, none⟩) 1 1, .int .i64 0, .int .i64 0, .bool false, undef, .string s, pv p.least p.most p.window p.bits, .func (.func 31) #[] #[.pointer (some ⟨w1.heap.size + 1, 0, none⟩), .pointer (some ⟨w1.heap.size + 1 + 1, 0, none⟩)], .string x, undef, undef, undef, undef, undef, undef], defers := [] }) ?assign ?body ?done ?stop
  case assign =>
    intro l x W K hK
    gi_wp2
    exact hK
  case body =>
    rintro l pre x suf W hfull ⟨⟨v, hv, ho⟩, hB⟩ hz
    have hlt : pre.length < 65536 := by
      have := congrArg List.length hfull
      rw [List.length_map] at hlen
      simp only [List.length_append, List.length_cons] at this
      omega
    have hx := piece_size _ _ x (show x ∈ pieces s 0 (ends tst p (nats s)) by rw [hfull]; simp)
    have hy1 := hv.cell
    have hy2 := hv.frozen
    have hmix : Try.prog.follows .mixedOrders = true := by kernel_rfl
    have et : rowD ((pre ++ [x]).map digOf) = rowD (pre.map digOf) ++ [.int .u64 (of0 x.data.toList), .int .u64 (of1 x.data.toList)] := by
      rw [List.map_append, rowD_append]; rfl
    have ET := Lib.hid et
    clear hfull hlen et
    have HO := Lib.hid ho
    have HV := Lib.hid hv
    have HBB := Lib.hid hB
    obtain ⟨d0, hd0⟩ : ∃ d0, of0 x.data.toList = d0 := ⟨_, rfl⟩
    obtain ⟨d1, hd1⟩ : ∃ d1, of1 x.data.toList = d1 := ⟨_, rfl⟩
    have HOF : Hid (∀ W, CallsIn (Fence.wide.inRound l) 3 Try.prog 28 #[.string x] W fun e w' => e = .returned (.agg #[.int .u64 d0, .int .u64 d1]) ∧ Below W.heap.size W w') := Lib.hid fun W => CallsIn.inRound l (callsIn_wide.2 (by have := of_any x W (by unfold maxLen; omega); rw [hd0, hd1] at this; exact this))
    rw [hd0, hd1] at ET
    have bz : w2.heap.size + 2 + 7 ≤ W.heap.size := hz
    clear hd0 hd1 ho hv hB hx
    gi_wp2
    refine wpIn_region_any hmix ?_
    change wpAnyIn _ _ _ _ _ _ _ _ _ (World.drew W)
    have OWd : (World.drew W).ownsRow (w2.heap.size + 2 + 7) 57 2 v pre.length (rowD (pre.map digOf)) := HO.out
    have HVd : Boxed W.drew w1.heap.size 32 v := HV.out
    clear HO HV
    have ltB : w1.heap.size < W.heap.size := HVd.lt
    have c0 := HVd.cell
    refine wpAnyIn_ready (rs := [0, 1]) (by kernel_rfl) (by simp) ?_
    refine AllReadyIn.cons rfl (fun K hK => ?_) ?_
    · go_simp
      refine hK _ _ ?_
      clear hK K
      refine wpAnyIn_ready (rs := [1]) (by kernel_rfl) (by simp) ?_
      refine AllReadyIn.cons rfl (fun K hK => ?_) ?_
      · go_simp
        refine hK _ _ ?_
        clear hK K
        refine wpAnyIn_ready (rs := [2]) (by kernel_rfl) (by simp) ?_
        refine AllReadyIn.cons rfl (fun K hK => ?_) ?_
        · go_simp
          refine ⟨trivial, (HOF.out _).mono ?_⟩
          rintro e5 w5 ⟨rfl, hb5⟩
          have hv5 : Boxed w5 w1.heap.size 32 v := (hb5.block _ HVd.lt).trans HVd
          have own5 := own_moveD (w' := w5) OWd (fun k _ h2 => hb5.block k h2)
          have sz5 : W.heap.size ≤ w5.heap.size := hb5.size
          have c5 := hv5.cell
          have c6 := (hv5.alloc (.cells #[.int .u64 d0, .int .u64 d1] 57)).cell
          refine hK _ _ ?_
          clear hK K
          refine wpAnyIn_ready (rs := [3]) (by kernel_rfl) (by simp) ?_
          refine AllReadyIn.cons rfl (fun K hK => ?_) ?_
          · go_simp
            refine hK _ _ ?_
            clear hK K
            refine wpAnyIn_ready (rs := [4]) (by kernel_rfl) (by simp) ?_
            refine AllReadyIn.cons rfl (fun K hK => ?_) ?_
            · refine stepIn_append rfl (.tmp 20) (.tmp 23) 32 rfl (w2.heap.size + 2 + 7) 57 i0 (.agg #[.int .u64 0, .int .u64 0]) 2 16 Try.underlying32 hi hz0 hz1 hz2 rfl (by decide) v pre.length (rowD (pre.map digOf)) rfl (own5.alloc _) ⟨w5.heap.size, 0, none⟩ 1 1 [.int .u64 d0, .int .u64 d1] rfl rfl (two_dig w5 (d0, d1) _) (dig_one (d0, d1)) (by unfold maxLen; omega) (by omega) (by simp; omega) ?_
              intro v' w6 hown6 hgrow6
              obtain ⟨g', cap', rfl⟩ := ownsRow_succ hown6
              have A := Lib.hid (box_appendedD (t := 32) hv5 own5 (by omega) (by omega) hown6 hgrow6)
              have q1 := A.out.1.cell
              have q2 := A.out.1.frozen
              clear hown6 hgrow6
              refine hK _ _ ?_
              clear hK K
              refine wpAnyIn_ready (rs := [5]) (by kernel_rfl) (by simp) ?_
              refine AllReadyIn.cons rfl (fun K hK => ?_) ?_
              · go_simp
                refine hK _ _ ?_
                clear hK K
                refine wpAnyIn_done (by kernel_rfl) ?_ _
                gi_wp2
                obtain ⟨a1, a2, a3, a4, a5⟩ := A.out
                refine ⟨⟨Nat.le_trans sz5 a5.size, fun k hk => ?_⟩, ⟨_, a2, ?_⟩, HBB.out.drew.trans ((hb5.mono HBB.out.size).trans (a5.mono (by omega)))⟩
                · rcases hk with (rfl | rfl) | hk
                  · exact (a4 _ (by omega) (by omega)).trans (hb5.block _ (by show _ < W.heap.size; omega))
                  · exact (a4 _ (by omega) (by omega)).trans (hb5.block _ (by show _ < W.heap.size; omega))
                  · exact (a4 _ (by omega) (by omega)).trans (hb5.block _ (by show _ < W.heap.size; omega))
                · rw [ET.out, List.length_append]; exact a3
              exact AllReadyIn.nil
            exact AllReadyIn.nil
          exact AllReadyIn.nil
        exact AllReadyIn.nil
      exact AllReadyIn.nil
    refine AllReadyIn.cons rfl (fun K hK => ?_) ?_
    · go_simp
      refine hK _ _ ?_
      clear hK K
      refine wpAnyIn_ready (rs := [0, 2]) (by kernel_rfl) (by simp) ?_
      refine AllReadyIn.cons rfl (fun K hK => ?_) ?_
      · go_simp
        refine hK _ _ ?_
        clear hK K
        refine wpAnyIn_ready (rs := [2]) (by kernel_rfl) (by simp) ?_
        refine AllReadyIn.cons rfl (fun K hK => ?_) ?_
        · go_simp
          refine ⟨trivial, (HOF.out _).mono ?_⟩
          rintro e5 w5 ⟨rfl, hb5⟩
          have hv5 : Boxed w5 w1.heap.size 32 v := (hb5.block _ HVd.lt).trans HVd
          have own5 := own_moveD (w' := w5) OWd (fun k _ h2 => hb5.block k h2)
          have sz5 : W.heap.size ≤ w5.heap.size := hb5.size
          have c5 := hv5.cell
          have c6 := (hv5.alloc (.cells #[.int .u64 d0, .int .u64 d1] 57)).cell
          refine hK _ _ ?_
          clear hK K
          refine wpAnyIn_ready (rs := [3]) (by kernel_rfl) (by simp) ?_
          refine AllReadyIn.cons rfl (fun K hK => ?_) ?_
          · go_simp
            refine hK _ _ ?_
            clear hK K
            refine wpAnyIn_ready (rs := [4]) (by kernel_rfl) (by simp) ?_
            refine AllReadyIn.cons rfl (fun K hK => ?_) ?_
            · refine stepIn_append rfl (.tmp 20) (.tmp 23) 32 rfl (w2.heap.size + 2 + 7) 57 i0 (.agg #[.int .u64 0, .int .u64 0]) 2 16 Try.underlying32 hi hz0 hz1 hz2 rfl (by decide) v pre.length (rowD (pre.map digOf)) rfl (own5.alloc _) ⟨w5.heap.size, 0, none⟩ 1 1 [.int .u64 d0, .int .u64 d1] rfl rfl (two_dig w5 (d0, d1) _) (dig_one (d0, d1)) (by unfold maxLen; omega) (by omega) (by simp; omega) ?_
              intro v' w6 hown6 hgrow6
              obtain ⟨g', cap', rfl⟩ := ownsRow_succ hown6
              have A := Lib.hid (box_appendedD (t := 32) hv5 own5 (by omega) (by omega) hown6 hgrow6)
              have q1 := A.out.1.cell
              have q2 := A.out.1.frozen
              clear hown6 hgrow6
              refine hK _ _ ?_
              clear hK K
              refine wpAnyIn_ready (rs := [5]) (by kernel_rfl) (by simp) ?_
              refine AllReadyIn.cons rfl (fun K hK => ?_) ?_
              · go_simp
                refine hK _ _ ?_
                clear hK K
                refine wpAnyIn_done (by kernel_rfl) ?_ _
                gi_wp2
                obtain ⟨a1, a2, a3, a4, a5⟩ := A.out
                refine ⟨⟨Nat.le_trans sz5 a5.size, fun k hk => ?_⟩, ⟨_, a2, ?_⟩, HBB.out.drew.trans ((hb5.mono HBB.out.size).trans (a5.mono (by omega)))⟩
                · rcases hk with (rfl | rfl) | hk
                  · exact (a4 _ (by omega) (by omega)).trans (hb5.block _ (by show _ < W.heap.size; omega))
                  · exact (a4 _ (by omega) (by omega)).trans (hb5.block _ (by show _ < W.heap.size; omega))
                  · exact (a4 _ (by omega) (by omega)).trans (hb5.block _ (by show _ < W.heap.size; omega))
                · rw [ET.out, List.length_append]; exact a3
              exact AllReadyIn.nil
            exact AllReadyIn.nil
          exact AllReadyIn.nil
        exact AllReadyIn.nil
      refine AllReadyIn.cons rfl (fun K hK => ?_) ?_
      · go_simp
        refine ⟨trivial, (HOF.out _).mono ?_⟩
        rintro e5 w5 ⟨rfl, hb5⟩
        have hv5 : Boxed w5 w1.heap.size 32 v := (hb5.block _ HVd.lt).trans HVd
        have own5 := own_moveD (w' := w5) OWd (fun k _ h2 => hb5.block k h2)
        have sz5 : W.heap.size ≤ w5.heap.size := hb5.size
        have c5 := hv5.cell
        have c6 := (hv5.alloc (.cells #[.int .u64 d0, .int .u64 d1] 57)).cell
        refine hK _ _ ?_
        clear hK K
        refine wpAnyIn_ready (rs := [0, 3]) (by kernel_rfl) (by simp) ?_
        refine AllReadyIn.cons rfl (fun K hK => ?_) ?_
        · go_simp
          refine hK _ _ ?_
          clear hK K
          refine wpAnyIn_ready (rs := [3]) (by kernel_rfl) (by simp) ?_
          refine AllReadyIn.cons rfl (fun K hK => ?_) ?_
          · go_simp
            refine hK _ _ ?_
            clear hK K
            refine wpAnyIn_ready (rs := [4]) (by kernel_rfl) (by simp) ?_
            refine AllReadyIn.cons rfl (fun K hK => ?_) ?_
            · refine stepIn_append rfl (.tmp 20) (.tmp 23) 32 rfl (w2.heap.size + 2 + 7) 57 i0 (.agg #[.int .u64 0, .int .u64 0]) 2 16 Try.underlying32 hi hz0 hz1 hz2 rfl (by decide) v pre.length (rowD (pre.map digOf)) rfl (own5.alloc _) ⟨w5.heap.size, 0, none⟩ 1 1 [.int .u64 d0, .int .u64 d1] rfl rfl (two_dig w5 (d0, d1) _) (dig_one (d0, d1)) (by unfold maxLen; omega) (by omega) (by simp; omega) ?_
              intro v' w6 hown6 hgrow6
              obtain ⟨g', cap', rfl⟩ := ownsRow_succ hown6
              have A := Lib.hid (box_appendedD (t := 32) hv5 own5 (by omega) (by omega) hown6 hgrow6)
              have q1 := A.out.1.cell
              have q2 := A.out.1.frozen
              clear hown6 hgrow6
              refine hK _ _ ?_
              clear hK K
              refine wpAnyIn_ready (rs := [5]) (by kernel_rfl) (by simp) ?_
              refine AllReadyIn.cons rfl (fun K hK => ?_) ?_
              · go_simp
                refine hK _ _ ?_
                clear hK K
                refine wpAnyIn_done (by kernel_rfl) ?_ _
                gi_wp2
                obtain ⟨a1, a2, a3, a4, a5⟩ := A.out
                refine ⟨⟨Nat.le_trans sz5 a5.size, fun k hk => ?_⟩, ⟨_, a2, ?_⟩, HBB.out.drew.trans ((hb5.mono HBB.out.size).trans (a5.mono (by omega)))⟩
                · rcases hk with (rfl | rfl) | hk
                  · exact (a4 _ (by omega) (by omega)).trans (hb5.block _ (by show _ < W.heap.size; omega))
                  · exact (a4 _ (by omega) (by omega)).trans (hb5.block _ (by show _ < W.heap.size; omega))
                  · exact (a4 _ (by omega) (by omega)).trans (hb5.block _ (by show _ < W.heap.size; omega))
                · rw [ET.out, List.length_append]; exact a3
              exact AllReadyIn.nil
            exact AllReadyIn.nil
          exact AllReadyIn.nil
        refine AllReadyIn.cons rfl (fun K hK => ?_) ?_
        · go_simp
          refine hK _ _ ?_
          clear hK K
          refine wpAnyIn_ready (rs := [0]) (by kernel_rfl) (by simp) ?_
          refine AllReadyIn.cons rfl (fun K hK => ?_) ?_
          · go_simp
            refine hK _ _ ?_
            clear hK K
            refine wpAnyIn_ready (rs := [4]) (by kernel_rfl) (by simp) ?_
            refine AllReadyIn.cons rfl (fun K hK => ?_) ?_
            · refine stepIn_append rfl (.tmp 20) (.tmp 23) 32 rfl (w2.heap.size + 2 + 7) 57 i0 (.agg #[.int .u64 0, .int .u64 0]) 2 16 Try.underlying32 hi hz0 hz1 hz2 rfl (by decide) v pre.length (rowD (pre.map digOf)) rfl (own5.alloc _) ⟨w5.heap.size, 0, none⟩ 1 1 [.int .u64 d0, .int .u64 d1] rfl rfl (two_dig w5 (d0, d1) _) (dig_one (d0, d1)) (by unfold maxLen; omega) (by omega) (by simp; omega) ?_
              intro v' w6 hown6 hgrow6
              obtain ⟨g', cap', rfl⟩ := ownsRow_succ hown6
              have A := Lib.hid (box_appendedD (t := 32) hv5 own5 (by omega) (by omega) hown6 hgrow6)
              have q1 := A.out.1.cell
              have q2 := A.out.1.frozen
              clear hown6 hgrow6
              refine hK _ _ ?_
              clear hK K
              refine wpAnyIn_ready (rs := [5]) (by kernel_rfl) (by simp) ?_
              refine AllReadyIn.cons rfl (fun K hK => ?_) ?_
              · go_simp
                refine hK _ _ ?_
                clear hK K
                refine wpAnyIn_done (by kernel_rfl) ?_ _
                gi_wp2
                obtain ⟨a1, a2, a3, a4, a5⟩ := A.out
                refine ⟨⟨Nat.le_trans sz5 a5.size, fun k hk => ?_⟩, ⟨_, a2, ?_⟩, HBB.out.drew.trans ((hb5.mono HBB.out.size).trans (a5.mono (by omega)))⟩
                · rcases hk with (rfl | rfl) | hk
                  · exact (a4 _ (by omega) (by omega)).trans (hb5.block _ (by show _ < W.heap.size; omega))
                  · exact (a4 _ (by omega) (by omega)).trans (hb5.block _ (by show _ < W.heap.size; omega))
                  · exact (a4 _ (by omega) (by omega)).trans (hb5.block _ (by show _ < W.heap.size; omega))
                · rw [ET.out, List.length_append]; exact a3
              exact AllReadyIn.nil
            exact AllReadyIn.nil
          exact AllReadyIn.nil
        exact AllReadyIn.nil
      exact AllReadyIn.nil
    exact AllReadyIn.nil
  case done =>
    rintro D W rfl ⟨⟨v, hv, ho⟩, hB⟩ hK
    have hy1 := hv.cell
    gi_wp2
    refine ⟨by simp, .inl ⟨_, _, rfl, run_takeDeferred hK, ?_⟩⟩
    have hr : RelK w2.heap.size (7 + 2) W (W.putObj w2.heap.size (.deferred none)) := RelK.putObj _ _ _ _ _ _ hK rfl rfl (by omega) (by omega)
    exact ⟨_, by simp [results, Try.f14, go_sem], _, rfl, own_digs (own_relD ho hr (by omega)) (by simp) (by have := ends_len hp (nats s); rw [nats_length] at this; rw [pieces_length]; unfold maxLen; omega), RelK.below hB hr (by omega) hB.size⟩
  case stop =>
    rintro D c pre W _ h _
    exact h.elim
end Go.Proofs.Ytcdnhnbigincpaa
