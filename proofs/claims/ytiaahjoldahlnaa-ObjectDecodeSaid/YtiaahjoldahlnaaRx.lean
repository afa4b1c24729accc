/- The reference's reader (numbers, texts, digests) and Decode's state, at this translation. -/
import Derived.Test.YtiaahjoldahlnaaDecA
import Derived.Test.YtiaahjoldahlnaaCdRefGet
import Derived.RegionTactic
namespace Go.Proofs.Ytiaahjoldahlnaa
open Go.RowKit Go.Great
attribute [local go_sem] eq_arr
/-- The reference's reader's box. -/
def RfAt (w : World) (N : Nat) (r : Rd) : Prop := w.heap[N]? = some (.cells #[.string r.1, .bool r.2] 58 (0, 0))
theorem RfAt.lt {w : World} {N : Nat} {r : Rd} (h : RfAt w N r) : N < w.heap.size := (Array.getElem?_eq_some_iff.1 h).1
theorem RfAt.c0 {w : World} {N : Nat} {r : Rd} (h : RfAt w N r) : w.cell? ⟨N, 0, none⟩ = some (.string r.1) := by rw [Lib.cell_of_heap h]; rfl
theorem RfAt.c1 {w : World} {N : Nat} {r : Rd} (h : RfAt w N r) : w.cell? ⟨N, 1, none⟩ = some (.bool r.2) := by rw [Lib.cell_of_heap h]; rfl
theorem RfAt.f {w : World} {N : Nat} {r : Rd} (h : RfAt w N r) (o : Nat) : w.frozen? ⟨N, o, none⟩ = false := Lib.frozen_of_heap h o
theorem RfAt.on {w w' : World} {N : Nat} {r : Rd} (h : RfAt w N r) (hB : Below w.heap.size w w') : RfAt w' N r := (hB.block N h.lt).trans h
theorem RfAt.set0 {w : World} {N : Nat} {r : Rd} (h : RfAt w N r) (s : BA) : RfAt (w.setCell ⟨N, 0, none⟩ (.string s)) N (s, r.2) := by
  unfold RfAt at h ⊢
  simp [World.setCell, Array.getElem?_modify, h]
theorem RfAt.set1 {w : World} {N : Nat} {r : Rd} (h : RfAt w N r) (b : Bool) : RfAt (w.setCell ⟨N, 1, none⟩ (.bool b)) N (r.1, b) := by
  unfold RfAt at h ⊢
  simp [World.setCell, Array.getElem?_modify, h]
def rfI (r : Rd) : Nat × Rd :=
  if r.2 = false ∧ (Cd.getL 12 13 6 0 0 (Cd.nats r.1)).2.2 = 0 then ((Cd.getL 12 13 6 0 0 (Cd.nats r.1)).1, (r.1.extract (Cd.getL 12 13 6 0 0 (Cd.nats r.1)).2.1 r.1.size, false)) else (0, (r.1, true))
def rfT (r : Rd) : BA × Rd :=
  if r.2 = false ∧ (Cd.getT r.1).2.2 = 0 then ((Cd.getT r.1).1, (r.1.extract (Cd.getT r.1).2.1 r.1.size, false)) else (⟨#[]⟩, (r.1, true))

set_option maxHeartbeats 2000000 in
theorem rfI_any (N : Nat) (r : Rd) (w : World) (h : RfAt w N r) (hm : r.1.size ≤ maxLen) (v : Nat) (r' : Rd) (hv : rfI r = (v, r')) :
    Calls Try.prog 35 #[.pointer (some ⟨N, 0, none⟩)] w fun e w' => e = .returned (.int .i64 v) ∧ RfAt w' N r' ∧ Only1 N w w' := by
  rcases hg : Cd.getL 12 13 6 0 0 (Cd.nats r.1) with ⟨x, k, er⟩
  have G := Lib.hid (fun W => Cd.refGetInt_any r.1 x k er hg W)
  unfold rfI at hv
  rw [hg] at hv
  simp only at hv
  have hN := h.lt
  have c0 := h.c0
  unfold maxLen at hm
  by_cases he : r.2 = false ∧ er = 0
  · obtain ⟨hb, rfl⟩ := he
    obtain ⟨_, _, f3, _, _, _⟩ := Cd.getL_fits r.1 x k hg
    rw [if_pos ⟨hb, rfl⟩] at hv
    obtain ⟨rfl, rfl⟩ := Prod.mk.inj hv
    obtain ⟨s, b⟩ := r
    simp only at hb
    subst hb
    simp only at c0 f3 hm G
    have k1 : (k : Int) ≤ (s.size : Int) := by omega
    have k2 : ¬ (s.size : Int) < k := by omega
    clear hg hv
    go_enter Try.func35, Try.ntmps35
    go_wp2_with fail
    ((with_reducible refine (G.out _).mono ?_); rintro e w1 ⟨rfl, hb1⟩)
    have h1 := h.on hb1
    have o1 := Only1.below hb1 hN
    clear h hb1 c0
    have c0 := h1.c0
    have c1 := h1.c1
    have f0 := h1.f 0
    have f1 := h1.f 1
    have H2 := Lib.hid (h1.set0 (s.extract k s.size))
    have O2 := Lib.hid (o1.trans (Only1.set (N := N) w1 0 (.string (s.extract k s.size))))
    clear h1 o1
    simp only at c0 c1
    go_wp2
    go_ret
    exact ⟨rfl, H2.out, O2.out⟩
  · rw [if_neg he] at hv
    obtain ⟨rfl, rfl⟩ := Prod.mk.inj hv
    obtain ⟨s, b⟩ := r
    simp only at c0 G he hm
    cases b with
    | true =>
      clear hg hv he
      go_enter Try.func35, Try.ntmps35
      go_wp2_with fail
      ((with_reducible refine (G.out _).mono ?_); rintro e w1 ⟨rfl, hb1⟩)
      have h1 := h.on hb1
      have o1 := Only1.below hb1 hN
      clear h hb1 c0
      have c0 := h1.c0
      have c1 := h1.c1
      have f0 := h1.f 0
      have f1 := h1.f 1
      have H2 := Lib.hid (h1.set1 true)
      have O2 := Lib.hid (o1.trans (Only1.set (N := N) w1 1 (.bool true)))
      clear h1 o1
      simp only at c0 c1
      go_wp2
      go_ret
      exact ⟨rfl, H2.out, O2.out⟩
    | false =>
      have hne : (er != 0) = true := by simpa using he
      clear hg hv he
      go_enter Try.func35, Try.ntmps35
      go_wp2_with fail
      ((with_reducible refine (G.out _).mono ?_); rintro e w1 ⟨rfl, hb1⟩)
      have h1 := h.on hb1
      have o1 := Only1.below hb1 hN
      clear h hb1 c0
      have c0 := h1.c0
      have c1 := h1.c1
      have f0 := h1.f 0
      have f1 := h1.f 1
      have H2 := Lib.hid (h1.set1 true)
      have O2 := Lib.hid (o1.trans (Only1.set (N := N) w1 1 (.bool true)))
      clear h1 o1
      simp only at c0 c1
      go_wp2
      go_ret
      exact ⟨rfl, H2.out, O2.out⟩

set_option maxHeartbeats 2000000 in
theorem rfT_any (N : Nat) (r : Rd) (w : World) (h : RfAt w N r) (hm : r.1.size ≤ maxLen) (v : BA) (r' : Rd) (hv : rfT r = (v, r')) :
    Calls Try.prog 36 #[.pointer (some ⟨N, 0, none⟩)] w fun e w' => e = .returned (.string v) ∧ RfAt w' N r' ∧ Only1 N w w' := by
  rcases hg : Cd.getT r.1 with ⟨x, k, er⟩
  have G := Lib.hid (fun W => Cd.refGetText_any r.1 hm x k er hg W)
  unfold rfT at hv
  rw [hg] at hv
  simp only at hv
  have hN := h.lt
  have c0 := h.c0
  unfold maxLen at hm
  by_cases he : r.2 = false ∧ er = 0
  · obtain ⟨hb, rfl⟩ := he
    obtain ⟨_, f3, _, _⟩ := Cd.getT_fits r.1 (by rw [hg])
    rw [hg] at f3
    simp only at f3
    rw [if_pos ⟨hb, rfl⟩] at hv
    obtain ⟨rfl, rfl⟩ := Prod.mk.inj hv
    obtain ⟨s, b⟩ := r
    simp only at hb
    subst hb
    simp only at c0 f3 hm G
    have k1 : (k : Int) ≤ (s.size : Int) := by omega
    have k2 : ¬ (s.size : Int) < k := by omega
    clear hg hv
    go_enter Try.func36, Try.ntmps36
    go_wp2_with fail
    ((with_reducible refine (G.out _).mono ?_); rintro e w1 ⟨rfl, hb1⟩)
    have h1 := h.on hb1
    have o1 := Only1.below hb1 hN
    clear h hb1 c0
    have c0 := h1.c0
    have c1 := h1.c1
    have f0 := h1.f 0
    have f1 := h1.f 1
    have H2 := Lib.hid (h1.set0 (s.extract k s.size))
    have O2 := Lib.hid (o1.trans (Only1.set (N := N) w1 0 (.string (s.extract k s.size))))
    clear h1 o1
    simp only at c0 c1
    go_wp2
    go_ret
    exact ⟨rfl, H2.out, O2.out⟩
  · rw [if_neg he] at hv
    obtain ⟨rfl, rfl⟩ := Prod.mk.inj hv
    obtain ⟨s, b⟩ := r
    simp only at c0 G he hm
    cases b with
    | true =>
      clear hg hv he
      go_enter Try.func36, Try.ntmps36
      go_wp2_with fail
      ((with_reducible refine (G.out _).mono ?_); rintro e w1 ⟨rfl, hb1⟩)
      have h1 := h.on hb1
      have o1 := Only1.below hb1 hN
      clear h hb1 c0
      have c0 := h1.c0
      have c1 := h1.c1
      have f0 := h1.f 0
      have f1 := h1.f 1
      have H2 := Lib.hid (h1.set1 true)
      have O2 := Lib.hid (o1.trans (Only1.set (N := N) w1 1 (.bool true)))
      clear h1 o1
      simp only at c0 c1
      go_wp2
      go_ret
      exact ⟨rfl, H2.out, O2.out⟩
    | false =>
      have hne : (er != 0) = true := by simpa using he
      clear hg hv he
      go_enter Try.func36, Try.ntmps36
      go_wp2_with fail
      ((with_reducible refine (G.out _).mono ?_); rintro e w1 ⟨rfl, hb1⟩)
      have h1 := h.on hb1
      have o1 := Only1.below hb1 hN
      clear h hb1 c0
      have c0 := h1.c0
      have c1 := h1.c1
      have f0 := h1.f 0
      have f1 := h1.f 1
      have H2 := Lib.hid (h1.set1 true)
      have O2 := Lib.hid (o1.trans (Only1.set (N := N) w1 1 (.bool true)))
      clear h1 o1
      simp only at c0 c1
      go_wp2
      go_ret
      exact ⟨rfl, H2.out, O2.out⟩
def rfD (r : Rd) : Dig × Rd :=
  if r.2 = false ∧ 16 ≤ r.1.size then ((num8 (r.1.extract 0 8), num8 (r.1.extract 8 16)), (r.1.extract 16 r.1.size, false)) else ((0, 0), (r.1, true))
def g0 (s : BA) (i : Nat) : Nat := numL ((Cd.nats s).take (min i 8))
def g1 (s : BA) (i : Nat) : Nat := numL (((Cd.nats s).take i).drop 8)
theorem g0_step (s : BA) (i : Nat) (h : i < s.size) (h8 : i < 8) : g0 s (i + 1) = g0 s i * 256 + s[i].toNat ∧ g1 s (i + 1) = 0 ∧ g1 s i = 0 ∧ g0 s i < 72057594037927936 := by
  unfold g0 g1
  rw [Nat.min_eq_left (by omega), Nat.min_eq_left (by omega)]
  refine ⟨take_num s i h, ?_, ?_, take_lt s i (by omega)⟩
  · rw [List.drop_eq_nil_of_le (by rw [List.length_take]; omega)]; rfl
  · rw [List.drop_eq_nil_of_le (by rw [List.length_take]; omega)]; rfl
theorem g1_step (s : BA) (i : Nat) (h : i < s.size) (h8 : 8 ≤ i) (h16 : i < 16) : g1 s (i + 1) = g1 s i * 256 + s[i].toNat ∧ g0 s (i + 1) = g0 s i ∧ g1 s i < 72057594037927936 := by
  unfold g0 g1
  rw [Nat.min_eq_right (by omega), Nat.min_eq_right (by omega)]
  refine ⟨?_, rfl, ?_⟩
  · rw [List.take_succ_eq_append_getElem (by rw [Cd.nats_length]; exact h), List.drop_append_of_le_length (by rw [List.length_take, Cd.nats_length]; omega), numL_snoc, Cd.nats_get]
  · have h1 := numL_lt (((Cd.nats s).take i).drop 8) (fun d hd => Cd.nats_lt s d (List.mem_of_mem_take (List.mem_of_mem_drop hd)))
    have h2 : 256 ^ (((Cd.nats s).take i).drop 8).length ≤ 256 ^ 7 := Nat.pow_le_pow_right (by omega) (by rw [List.length_drop, List.length_take]; omega)
    omega
theorem add_sum (n c : Nat) (hn : n < 72057594037927936) (hc : c < 256) : IntKind.u64.wrap ((n : Int) * 256 + IntKind.u64.wrap (c : Int)) = ((n * 256 + c : Nat) : Int) := by
  simp only [IntKind.wrap_u64]
  omega

set_option maxRecDepth 100000 in
set_option maxHeartbeats 4000000 in
theorem rfD_good (N : Nat) (s : BA) (w : World) (h : RfAt w N (s, false)) (hm : s.size ≤ maxLen) (h16 : 16 ≤ s.size) :
    Calls Try.prog 37 #[.pointer (some ⟨N, 0, none⟩)] w fun e w' => e = .returned (.agg #[.int .u64 (g0 s 16), .int .u64 (g1 s 16)]) ∧ RfAt w' N (s.extract 16 s.size, false) ∧ Only1 N w w' := by
  have hN := h.lt
  unfold maxLen at hm
  have a0 := World.alloc_heap_new w (.cells #[.int .u64 0, .int .u64 0] 25)
  have a1 := World.alloc_heap_new (w.alloc (.cells #[.int .u64 0, .int .u64 0] 25)) (.cells #[.int .u64 0, .int .u64 0] 25)
  rw [World.size_alloc] at a1
  have R0 := Lib.hid ((h.on ((Below.refl _ _).alloc (Nat.le_refl _) (.cells #[.int .u64 0, .int .u64 0] 25))).on ((Below.refl _ _).alloc (Nat.le_refl _) (.cells #[.int .u64 0, .int .u64 0] 25)))
  have X0 := Lib.hid ((Below.heap_alloc _ (.cells #[.int .u64 0, .int .u64 0] 25) _ (by simp)).trans a0)
  have X1 := Lib.hid a1
  have B0 := ((Below.refl w.heap.size w).alloc (Nat.le_refl _) (.cells #[.int .u64 0, .int .u64 0] 25)).alloc (by simp) (.cells #[.int .u64 0, .int .u64 0] 25)
  have c0 := R0.out.c0
  have c1 := R0.out.c1
  simp only at c0 c1
  clear h a0 a1
  have hlen : ¬ (s.size : Int) < 16 := by omega
  go_enter Try.func37, Try.ntmps37
  go_wp2
  go_loopw [4] (fun s4 wr => ∃ i : Nat, i ≤ 16 ∧ s4 = .int .i64 i ∧ Hid (RfAt wr N (s, false)) ∧ Hid (wr.heap[w.heap.size]? = some (.cells #[.int .u64 0, .int .u64 0] 25 (0, 0))) ∧ Hid (wr.heap[w.heap.size + 1]? = some (.cells #[.int .u64 (g0 s i), .int .u64 (g1 s i)] 25 (0, 0))) ∧ Below w.heap.size w wr) (fun i _ => 16 - (intOf i).toNat)
  case atStart => exact ⟨0, Nat.zero_le _, rfl, R0, X0, X1, B0⟩
  case round =>
    obtain ⟨i, hi, rfl, HR, HX, HY, hb⟩ := hrel
    clear R0 X0 X1 B0 c0 c1
    by_cases hlt : i < 16
    · have c0 := HR.out.c0
      simp only at c0
      have y0 : wr.cell? ⟨w.heap.size + 1, 0, none⟩ = some (.int .u64 (g0 s i)) := by rw [Lib.cell_of_heap HY.out]; rfl
      have y1 : wr.cell? ⟨w.heap.size + 1, 1, none⟩ = some (.int .u64 (g1 s i)) := by rw [Lib.cell_of_heap HY.out]; rfl
      have f0 := Lib.frozen_of_heap HY.out 0
      have f1 := Lib.frozen_of_heap HY.out 1
      have his : i < s.size := by omega
      by_cases h8 : i < 8
      · obtain ⟨e1, e2, e3, e4⟩ := g0_step s i his h8
        have q1 : Int.tdiv (i : Int) 8 = 0 := Int.tdiv_eq_zero_of_lt (by omega) (by omega)
        have HS := Lib.hid (add_sum (g0 s i) s[i].toNat e4 s[i].toNat_lt)
        have R2 : Hid (RfAt (wr.setCell ⟨w.heap.size + 1, 0, none⟩ (.int .u64 (IntKind.u64.wrap ((g0 s i : Int) * 256 + IntKind.u64.wrap (s[i].toNat : Int))))).drew N (s, false)) := Lib.hid ((Below.heap_setCell wr ⟨w.heap.size + 1, 0, none⟩ _ N (by show N ≠ w.heap.size + 1; omega)).trans HR.out)
        have X2 : Hid ((wr.setCell ⟨w.heap.size + 1, 0, none⟩ (.int .u64 (IntKind.u64.wrap ((g0 s i : Int) * 256 + IntKind.u64.wrap (s[i].toNat : Int))))).drew.heap[w.heap.size]? = some (.cells #[.int .u64 0, .int .u64 0] 25 (0, 0))) := Lib.hid ((Below.heap_setCell wr ⟨w.heap.size + 1, 0, none⟩ _ w.heap.size (by show w.heap.size ≠ w.heap.size + 1; omega)).trans HX.out)
        have Y2 : Hid ((wr.setCell ⟨w.heap.size + 1, 0, none⟩ (.int .u64 (IntKind.u64.wrap ((g0 s i : Int) * 256 + IntKind.u64.wrap (s[i].toNat : Int))))).drew.heap[w.heap.size + 1]? = some (.cells #[.int .u64 (g0 s (i + 1)), .int .u64 (g1 s (i + 1))] 25 (0, 0))) := Lib.hid (by
          rw [e1, e2, ← HS.out]
          show (wr.setCell ⟨w.heap.size + 1, 0, none⟩ (.int .u64 (IntKind.u64.wrap ((g0 s i : Int) * 256 + IntKind.u64.wrap (s[i].toNat : Int))))).heap[w.heap.size + 1]? = _
          have e := HY.out
          rw [e3] at e
          simp [World.setCell, Array.getElem?_modify, e])
        have b2 := (hb.setCell (p := ⟨w.heap.size + 1, 0, none⟩) (Nat.le_succ _) (.int .u64 (IntKind.u64.wrap ((g0 s i : Int) * 256 + IntKind.u64.wrap (s[i].toNat : Int))))).drew
        clear e1 e2 e3 HS HR HX HY
        go_wp2
        go_region
        go_wp2
        go_roundw
        case rel => exact ⟨i + 1, by omega, by go_num, R2, X2, Y2, b2⟩
        case measure => simp [intOf]; omega
      · obtain ⟨e1, e2, e4⟩ := g1_step s i his (by omega) hlt
        have q1 : Int.tdiv (i : Int) 8 = 1 := by rw [Int.tdiv_eq_ediv_of_nonneg (by omega)]; omega
        have HS := Lib.hid (add_sum (g1 s i) s[i].toNat e4 s[i].toNat_lt)
        have R2 : Hid (RfAt (wr.setCell ⟨w.heap.size + 1, 1, none⟩ (.int .u64 (IntKind.u64.wrap ((g1 s i : Int) * 256 + IntKind.u64.wrap (s[i].toNat : Int))))).drew N (s, false)) := Lib.hid ((Below.heap_setCell wr ⟨w.heap.size + 1, 1, none⟩ _ N (by show N ≠ w.heap.size + 1; omega)).trans HR.out)
        have X2 : Hid ((wr.setCell ⟨w.heap.size + 1, 1, none⟩ (.int .u64 (IntKind.u64.wrap ((g1 s i : Int) * 256 + IntKind.u64.wrap (s[i].toNat : Int))))).drew.heap[w.heap.size]? = some (.cells #[.int .u64 0, .int .u64 0] 25 (0, 0))) := Lib.hid ((Below.heap_setCell wr ⟨w.heap.size + 1, 1, none⟩ _ w.heap.size (by show w.heap.size ≠ w.heap.size + 1; omega)).trans HX.out)
        have Y2 : Hid ((wr.setCell ⟨w.heap.size + 1, 1, none⟩ (.int .u64 (IntKind.u64.wrap ((g1 s i : Int) * 256 + IntKind.u64.wrap (s[i].toNat : Int))))).drew.heap[w.heap.size + 1]? = some (.cells #[.int .u64 (g0 s (i + 1)), .int .u64 (g1 s (i + 1))] 25 (0, 0))) := Lib.hid (by
          rw [e1, e2, ← HS.out]
          show (wr.setCell ⟨w.heap.size + 1, 1, none⟩ (.int .u64 (IntKind.u64.wrap ((g1 s i : Int) * 256 + IntKind.u64.wrap (s[i].toNat : Int))))).heap[w.heap.size + 1]? = _
          have e := HY.out
          skip
          simp [World.setCell, Array.getElem?_modify, e])
        have b2 := (hb.setCell (p := ⟨w.heap.size + 1, 1, none⟩) (Nat.le_succ _) (.int .u64 (IntKind.u64.wrap ((g1 s i : Int) * 256 + IntKind.u64.wrap (s[i].toNat : Int))))).drew
        clear e1 e2 HS HR HX HY
        go_wp2
        go_region
        go_wp2
        go_roundw
        case rel => exact ⟨i + 1, by omega, by go_num, R2, X2, Y2, b2⟩
        case measure => simp [intOf]; omega
    · obtain rfl : i = 16 := by omega
      have c0 := HR.out.c0
      have f0 := HR.out.f 0
      simp only at c0
      have e := Lib.hid (HR.out.set0 (s.extract 16 s.size))
      have hX2 := (Below.heap_setCell wr ⟨N, 0, none⟩ (.string (s.extract 16 s.size)) w.heap.size (by show w.heap.size ≠ N; omega)).trans HX.out
      have hY2 := (Below.heap_setCell wr ⟨N, 0, none⟩ (.string (s.extract 16 s.size)) (w.heap.size + 1) (by show w.heap.size + 1 ≠ N; omega)).trans HY.out
      have x0 : (wr.setCell ⟨N, 0, none⟩ (.string (s.extract 16 s.size))).cell? ⟨w.heap.size, 0, none⟩ = some (.int .u64 0) := by rw [Lib.cell_of_heap hX2]; rfl
      have x1 : (wr.setCell ⟨N, 0, none⟩ (.string (s.extract 16 s.size))).cell? ⟨w.heap.size, 1, none⟩ = some (.int .u64 0) := by rw [Lib.cell_of_heap hX2]; rfl
      have xf0 := Lib.frozen_of_heap hX2 0
      have xf1 := Lib.frozen_of_heap hX2 1
      have y0 : (wr.setCell ⟨N, 0, none⟩ (.string (s.extract 16 s.size))).cell? ⟨w.heap.size + 1, 0, none⟩ = some (.int .u64 (g0 s 16)) := by rw [Lib.cell_of_heap hY2]; rfl
      have y1 : (wr.setCell ⟨N, 0, none⟩ (.string (s.extract 16 s.size))).cell? ⟨w.heap.size + 1, 1, none⟩ = some (.int .u64 (g1 s 16)) := by rw [Lib.cell_of_heap hY2]; rfl
      have r9 : Hid (RfAt (((wr.setCell ⟨N, 0, none⟩ (.string (s.extract 16 s.size))).setCell ⟨w.heap.size, 0, none⟩ (.int .u64 (g0 s 16))).setCell ⟨w.heap.size, 1, none⟩ (.int .u64 (g1 s 16))) N (s.extract 16 s.size, false)) :=
        Lib.hid ((Below.heap_setCell _ ⟨w.heap.size, 1, none⟩ _ N (by show N ≠ w.heap.size; omega)).trans ((Below.heap_setCell _ ⟨w.heap.size, 0, none⟩ _ N (by show N ≠ w.heap.size; omega)).trans e.out))
      have q9 : Only1 N w (((wr.setCell ⟨N, 0, none⟩ (.string (s.extract 16 s.size))).setCell ⟨w.heap.size, 0, none⟩ (.int .u64 (g0 s 16))).setCell ⟨w.heap.size, 1, none⟩ (.int .u64 (g1 s 16))) :=
        ⟨(((hb.mono (Nat.le_of_lt hN)).setCell (p := ⟨N, 0, none⟩) (Nat.le_refl _) _).setCell (p := ⟨w.heap.size, 0, none⟩) (show N ≤ w.heap.size by omega) _).setCell (p := ⟨w.heap.size, 1, none⟩) (show N ≤ w.heap.size by omega) _, fun j h1 h2 => by
          rw [Below.heap_setCell _ ⟨w.heap.size, 1, none⟩ _ j (by show j ≠ w.heap.size; omega), Below.heap_setCell _ ⟨w.heap.size, 0, none⟩ _ j (by show j ≠ w.heap.size; omega), Below.heap_setCell _ ⟨N, 0, none⟩ _ j (by show j ≠ N; omega)]
          exact hb.block j h2⟩
      have Q9 := Lib.hid q9
      clear HR HX HY hX2 hY2 e q9
      go_wp2
      exact bodyPost_ret (v := .agg #[.int .u64 (g0 s 16), .int .u64 (g1 s 16)]) (by simp [results, Try.results37, go_sem, x0, x1, World.cell?_setCell_other, World.cell?_setCell_same']) rfl ⟨rfl, r9.out, Q9.out⟩

set_option maxRecDepth 100000 in
set_option maxHeartbeats 4000000 in
theorem rfD_bad (N : Nat) (s : BA) (b : Bool) (w : World) (h : RfAt w N (s, b)) (hm : s.size ≤ maxLen) (hbad : ¬ (b = false ∧ 16 ≤ s.size)) :
    Calls Try.prog 37 #[.pointer (some ⟨N, 0, none⟩)] w fun e w' => e = .returned (.agg #[.int .u64 0, .int .u64 0]) ∧ RfAt w' N (s, true) ∧ Only1 N w w' := by
  have hN := h.lt
  unfold maxLen at hm
  have a0 := World.alloc_heap_new w (.cells #[.int .u64 0, .int .u64 0] 25)
  have a1 := World.alloc_heap_new (w.alloc (.cells #[.int .u64 0, .int .u64 0] 25)) (.cells #[.int .u64 0, .int .u64 0] 25)
  rw [World.size_alloc] at a1
  have r0 := (h.on ((Below.refl _ _).alloc (Nat.le_refl _) (.cells #[.int .u64 0, .int .u64 0] 25))).on ((Below.refl _ _).alloc (Nat.le_refl _) (.cells #[.int .u64 0, .int .u64 0] 25))
  have a2 := (Below.heap_alloc _ (.cells #[.int .u64 0, .int .u64 0] 25) _ (by simp)).trans a0
  have b0 := ((Below.refl w.heap.size w).alloc (Nat.le_refl _) (.cells #[.int .u64 0, .int .u64 0] 25)).alloc (by simp) (.cells #[.int .u64 0, .int .u64 0] 25)
  clear h a0
  have key : ∀ W2, RfAt W2 N (s, b) → W2.heap[w.heap.size]? = some (.cells #[.int .u64 0, .int .u64 0] 25 (0, 0)) → W2.heap[w.heap.size + 1]? = some (.cells #[.int .u64 0, .int .u64 0] 25 (0, 0)) → Below w.heap.size w W2 →
      (RfAt (((W2.setCell ⟨N, 1, none⟩ (.bool true)).setCell ⟨w.heap.size, 0, none⟩ (.int .u64 0)).setCell ⟨w.heap.size, 1, none⟩ (.int .u64 0)) N (s, true) ∧ Only1 N w (((W2.setCell ⟨N, 1, none⟩ (.bool true)).setCell ⟨w.heap.size, 0, none⟩ (.int .u64 0)).setCell ⟨w.heap.size, 1, none⟩ (.int .u64 0))) := by
    intro W2 hr _ _ hb
    exact ⟨(Below.heap_setCell _ ⟨w.heap.size, 1, none⟩ _ N (by show N ≠ w.heap.size; omega)).trans ((Below.heap_setCell _ ⟨w.heap.size, 0, none⟩ _ N (by show N ≠ w.heap.size; omega)).trans (hr.set1 true)),
      ⟨(((hb.mono (Nat.le_of_lt hN)).setCell (p := ⟨N, 1, none⟩) (Nat.le_refl _) _).setCell (p := ⟨w.heap.size, 0, none⟩) (show N ≤ w.heap.size by omega) _).setCell (p := ⟨w.heap.size, 1, none⟩) (show N ≤ w.heap.size by omega) _, fun j h1 h2 => by
        rw [Below.heap_setCell _ ⟨w.heap.size, 1, none⟩ _ j (by show j ≠ w.heap.size; omega), Below.heap_setCell _ ⟨w.heap.size, 0, none⟩ _ j (by show j ≠ w.heap.size; omega), Below.heap_setCell _ ⟨N, 1, none⟩ _ j (by show j ≠ N; omega)]
        exact hb.block j h2⟩⟩
  have KEY := Lib.hid key
  clear key
  cases b with
  | true =>
    clear hbad
    go_enter Try.func37, Try.ntmps37
    go_upto_region 2 with fail
    obtain ⟨W2, hW2⟩ : ∃ W2, ((w.alloc (.cells #[.int .u64 0, .int .u64 0] 25)).alloc (.cells #[.int .u64 0, .int .u64 0] 25)) = W2 := ⟨_, rfl⟩
    rw [hW2] at r0 a1 a2 b0 ⊢
    clear hW2
    have K := Lib.hid (KEY.out W2 r0 a2 a1 b0)
    have c0 := r0.c0
    have c1 := r0.c1
    have g1 := r0.f 1
    have x0 : W2.cell? ⟨w.heap.size, 0, none⟩ = some (.int .u64 0) := by rw [Lib.cell_of_heap a2]; rfl
    have x1 : W2.cell? ⟨w.heap.size, 1, none⟩ = some (.int .u64 0) := by rw [Lib.cell_of_heap a2]; rfl
    have xf0 := Lib.frozen_of_heap a2 0
    have xf1 := Lib.frozen_of_heap a2 1
    have y0 : W2.cell? ⟨w.heap.size + 1, 0, none⟩ = some (.int .u64 0) := by rw [Lib.cell_of_heap a1]; rfl
    have y1 : W2.cell? ⟨w.heap.size + 1, 1, none⟩ = some (.int .u64 0) := by rw [Lib.cell_of_heap a1]; rfl
    have n0 : ¬ N = w.heap.size := by omega
    have n1 : ¬ N = w.heap.size + 1 := by omega
    simp only at c0 c1
    clear r0 a1 a2 b0 KEY
    go_wp2
    exact bodyPost_ret (v := .agg #[.int .u64 0, .int .u64 0]) (by simp [results, Try.results37, go_sem, x0, x1, World.cell?_setCell_other, World.cell?_setCell_same']) rfl ⟨rfl, K.out.1, K.out.2⟩
  | false =>
    have hs : (s.size : Int) < 16 := by simp at hbad; omega
    clear hbad
    go_enter Try.func37, Try.ntmps37
    go_upto_region 2 with fail
    obtain ⟨W2, hW2⟩ : ∃ W2, ((w.alloc (.cells #[.int .u64 0, .int .u64 0] 25)).alloc (.cells #[.int .u64 0, .int .u64 0] 25)) = W2 := ⟨_, rfl⟩
    rw [hW2] at r0 a1 a2 b0 ⊢
    clear hW2
    have K := Lib.hid (KEY.out W2 r0 a2 a1 b0)
    have c0 := r0.c0
    have c1 := r0.c1
    have g1 := r0.f 1
    have x0 : W2.cell? ⟨w.heap.size, 0, none⟩ = some (.int .u64 0) := by rw [Lib.cell_of_heap a2]; rfl
    have x1 : W2.cell? ⟨w.heap.size, 1, none⟩ = some (.int .u64 0) := by rw [Lib.cell_of_heap a2]; rfl
    have xf0 := Lib.frozen_of_heap a2 0
    have xf1 := Lib.frozen_of_heap a2 1
    have y0 : W2.cell? ⟨w.heap.size + 1, 0, none⟩ = some (.int .u64 0) := by rw [Lib.cell_of_heap a1]; rfl
    have y1 : W2.cell? ⟨w.heap.size + 1, 1, none⟩ = some (.int .u64 0) := by rw [Lib.cell_of_heap a1]; rfl
    have n0 : ¬ N = w.heap.size := by omega
    have n1 : ¬ N = w.heap.size + 1 := by omega
    simp only at c0 c1
    clear r0 a1 a2 b0 KEY
    go_wp2
    exact bodyPost_ret (v := .agg #[.int .u64 0, .int .u64 0]) (by simp [results, Try.results37, go_sem, x0, x1, World.cell?_setCell_other, World.cell?_setCell_same']) rfl ⟨rfl, K.out.1, K.out.2⟩

theorem g_end (s : BA) (_h : 16 ≤ s.size) : g0 s 16 = num8 (s.extract 0 8) ∧ g1 s 16 = num8 (s.extract 8 16) := by
  constructor
  · show numL ((Cd.nats s).take 8) = numL (Cd.nats (s.extract 0 8))
    rw [Cd.nats_extract, List.drop_zero]
  · show numL (((Cd.nats s).take 16).drop 8) = numL (Cd.nats (s.extract 8 16))
    rw [Cd.nats_extract]
theorem rfD_any (N : Nat) (r : Rd) (w : World) (h : RfAt w N r) (hm : r.1.size ≤ maxLen) (x y : Nat) (r' : Rd) (hv : rfD r = ((x, y), r')) :
    Calls Try.prog 37 #[.pointer (some ⟨N, 0, none⟩)] w fun e w' => e = .returned (.agg #[.int .u64 x, .int .u64 y]) ∧ RfAt w' N r' ∧ Only1 N w w' := by
  obtain ⟨s, b⟩ := r
  unfold rfD at hv
  by_cases hg : b = false ∧ 16 ≤ s.size
  · rw [if_pos hg] at hv
    obtain ⟨h1, rfl⟩ := Prod.mk.inj hv
    obtain ⟨rfl, rfl⟩ := Prod.mk.inj h1
    obtain ⟨rfl, h16⟩ := hg
    obtain ⟨e0, e1⟩ := g_end s h16
    rw [← e0, ← e1]
    exact rfD_good N s w h hm h16
  · rw [if_neg hg] at hv
    obtain ⟨h1, rfl⟩ := Prod.mk.inj hv
    obtain ⟨rfl, rfl⟩ := Prod.mk.inj h1
    exact rfD_bad N s b w h hm hg
def oM (k : Int) (d : BA) (ve : Value) (t1 t2 : Nat) (vp : Value) (au : BA) (ti : Int) (ms : BA) : Obj := .cells #[.int .i64 k, .string d, ve, .int .u64 t1, .int .u64 t2, vp, .string au, .int .i64 ti, .string ms] 28 (0, 0)
/-- The reader, the object that is read, the result's box. -/
structure Rx (w : World) (r : Rd) (k : Int) (d : BA) (ve : Value) (t1 t2 : Nat) (vp : Value) (au : BA) (ti : Int) (ms : BA) (W : World) : Prop where
  rd : RfAt W (w.heap.size + 1) r
  ob : W.heap[w.heap.size + 1 + 1]? = some (oM k d ve t1 t2 vp au ti ms)
  xd : W.heap[w.heap.size]? = some (.cells #[.int .i64 0, .string ⟨#[]⟩, .slice none 0 0, .int .u64 0, .int .u64 0, .slice none 0 0, .string ⟨#[]⟩, .int .i64 0, .string ⟨#[]⟩] 28 (0, 0))
  b : Below w.heap.size w W
theorem Rx.lt {w : World} {r : Rd} {k : Int} {d : BA} {ve : Value} {t1 t2 : Nat} {vp : Value} {au : BA} {ti : Int} {ms : BA} {W : World} (h : Rx w r k d ve t1 t2 vp au ti ms W) : w.heap.size + 1 + 1 < W.heap.size := (Array.getElem?_eq_some_iff.1 h.ob).1
theorem Rx.at {w : World} {r : Rd} {k : Int} {d : BA} {ve : Value} {t1 t2 : Nat} {vp : Value} {au : BA} {ti : Int} {ms : BA} {W : World} (h : Rx w r k d ve t1 t2 vp au ti ms W) : W.cell? ⟨w.heap.size + 1 + 1, 0, none⟩ = some (.int .i64 k) ∧ W.cell? ⟨w.heap.size + 1 + 1, 1, none⟩ = some (.string d) ∧ W.cell? ⟨w.heap.size + 1 + 1, 2, none⟩ = some (ve) ∧ W.cell? ⟨w.heap.size + 1 + 1, 3, none⟩ = some (.int .u64 t1) ∧ W.cell? ⟨w.heap.size + 1 + 1, 4, none⟩ = some (.int .u64 t2) ∧ W.cell? ⟨w.heap.size + 1 + 1, 5, none⟩ = some (vp) ∧ W.cell? ⟨w.heap.size + 1 + 1, 6, none⟩ = some (.string au) ∧ W.cell? ⟨w.heap.size + 1 + 1, 7, none⟩ = some (.int .i64 ti) ∧ W.cell? ⟨w.heap.size + 1 + 1, 8, none⟩ = some (.string ms) := by
  have e := h.ob
  unfold oM at e
  refine ⟨?_, ?_, ?_, ?_, ?_, ?_, ?_, ?_, ?_⟩ <;> rw [Lib.cell_of_heap e] <;> rfl
theorem Rx.f {w : World} {r : Rd} {k : Int} {d : BA} {ve : Value} {t1 t2 : Nat} {vp : Value} {au : BA} {ti : Int} {ms : BA} {W : World} (h : Rx w r k d ve t1 t2 vp au ti ms W) (o : Nat) : W.frozen? ⟨w.heap.size + 1 + 1, o, none⟩ = false := Lib.frozen_of_heap h.ob o
theorem Rx.dc {w : World} {r : Rd} {k : Int} {d : BA} {ve : Value} {t1 t2 : Nat} {vp : Value} {au : BA} {ti : Int} {ms : BA} {W : World} (h : Rx w r k d ve t1 t2 vp au ti ms W) : Dc w W := ⟨h.xd, h.b⟩
theorem Rx.on {w : World} {r : Rd} {k : Int} {d : BA} {ve : Value} {t1 t2 : Nat} {vp : Value} {au : BA} {ti : Int} {ms : BA} {W : World} {W' : World} (h : Rx w r k d ve t1 t2 vp au ti ms W) (hB : Below W.heap.size W W') : Rx w r k d ve t1 t2 vp au ti ms W' :=
  ⟨h.rd.on hB, (hB.block _ h.lt).trans h.ob, (hB.block _ (by have := h.lt; omega)).trans h.xd, h.b.trans (hB.mono h.b.size)⟩
theorem Rx.read {w : World} {r : Rd} {k : Int} {d : BA} {ve : Value} {t1 t2 : Nat} {vp : Value} {au : BA} {ti : Int} {ms : BA} {W : World} {W' : World} {r' : Rd} (h : Rx w r k d ve t1 t2 vp au ti ms W) (hr : RfAt W' (w.heap.size + 1) r') (ho : Only1 (w.heap.size + 1) W W') : Rx w r' k d ve t1 t2 vp au ti ms W' :=
  ⟨hr, ho.at h.ob (by omega), ho.at h.xd (by omega), h.b.trans (ho.b.mono (Nat.le_succ _))⟩
theorem Rx.drew {w : World} {r : Rd} {k : Int} {d : BA} {ve : Value} {t1 t2 : Nat} {vp : Value} {au : BA} {ti : Int} {ms : BA} {W : World} (h : Rx w r k d ve t1 t2 vp au ti ms W) : Rx w r k d ve t1 t2 vp au ti ms W.drew := ⟨h.rd, h.ob, h.xd, h.b.drew⟩
theorem Rx.grown {w : World} {r : Rd} {k : Int} {d : BA} {ve : Value} {t1 t2 : Nat} {vp : Value} {au : BA} {ti : Int} {ms : BA} {W : World} {W' : World} {v : Value} (h : Rx w r k d ve t1 t2 vp au ti ms W) (hg : W.grownBy W' v.ownBlock) (hv : ∀ k, v.ownBlock = some k → w.heap.size + 1 + 1 + 1 ≤ k) : Rx w r k d ve t1 t2 vp au ti ms W' :=
  have q := (Below.refl (w.heap.size + 1 + 1 + 1) W).grown hg h.lt hv
  ⟨(q.block _ (by omega)).trans h.rd, (q.block _ (by omega)).trans h.ob, (q.block _ (by omega)).trans h.xd, h.b.trans (q.mono (by omega))⟩
/-- A store elsewhere. -/
theorem Rx.other {w : World} {r : Rd} {k : Int} {d : BA} {ve : Value} {t1 t2 : Nat} {vp : Value} {au : BA} {ti : Int} {ms : BA} {W : World} (h : Rx w r k d ve t1 t2 vp au ti ms W) {M : Nat} (hM : w.heap.size + 1 + 1 < M) (o : Nat) (v : Value) : Rx w r k d ve t1 t2 vp au ti ms (W.setCell ⟨M, o, none⟩ v) :=
  ⟨(Below.heap_setCell W ⟨M, o, none⟩ v _ (by show w.heap.size + 1 ≠ M; omega)).trans h.rd, (Below.heap_setCell W ⟨M, o, none⟩ v _ (by show w.heap.size + 1 + 1 ≠ M; omega)).trans h.ob, (Below.heap_setCell W ⟨M, o, none⟩ v _ (by show w.heap.size ≠ M; omega)).trans h.xd, h.b.setCell (p := ⟨M, o, none⟩) (by show w.heap.size ≤ M; omega) v⟩
theorem Rx.setK {w : World} {r : Rd} {k : Int} {d : BA} {ve : Value} {t1 t2 : Nat} {vp : Value} {au : BA} {ti : Int} {ms : BA} {W : World} (h : Rx w r k d ve t1 t2 vp au ti ms W) (x : Int) : Rx w r x d ve t1 t2 vp au ti ms (W.setCell ⟨w.heap.size + 1 + 1, 0, none⟩ (.int .i64 x)) := by
  refine ⟨(Below.heap_setCell W ⟨w.heap.size + 1 + 1, 0, none⟩ _ _ (by show w.heap.size + 1 ≠ w.heap.size + 1 + 1; omega)).trans h.rd, ?_, (Below.heap_setCell W ⟨w.heap.size + 1 + 1, 0, none⟩ _ _ (by show w.heap.size ≠ w.heap.size + 1 + 1; omega)).trans h.xd, h.b.setCell (p := ⟨w.heap.size + 1 + 1, 0, none⟩) (by show w.heap.size ≤ w.heap.size + 1 + 1; omega) _⟩
  have e := h.ob
  unfold oM at e ⊢
  simp [World.setCell, Array.getElem?_modify, e]
theorem Rx.setD {w : World} {r : Rd} {k : Int} {d : BA} {ve : Value} {t1 t2 : Nat} {vp : Value} {au : BA} {ti : Int} {ms : BA} {W : World} (h : Rx w r k d ve t1 t2 vp au ti ms W) (x : BA) : Rx w r k x ve t1 t2 vp au ti ms (W.setCell ⟨w.heap.size + 1 + 1, 1, none⟩ (.string x)) := by
  refine ⟨(Below.heap_setCell W ⟨w.heap.size + 1 + 1, 1, none⟩ _ _ (by show w.heap.size + 1 ≠ w.heap.size + 1 + 1; omega)).trans h.rd, ?_, (Below.heap_setCell W ⟨w.heap.size + 1 + 1, 1, none⟩ _ _ (by show w.heap.size ≠ w.heap.size + 1 + 1; omega)).trans h.xd, h.b.setCell (p := ⟨w.heap.size + 1 + 1, 1, none⟩) (by show w.heap.size ≤ w.heap.size + 1 + 1; omega) _⟩
  have e := h.ob
  unfold oM at e ⊢
  simp [World.setCell, Array.getElem?_modify, e]
theorem Rx.setE {w : World} {r : Rd} {k : Int} {d : BA} {ve : Value} {t1 t2 : Nat} {vp : Value} {au : BA} {ti : Int} {ms : BA} {W : World} (h : Rx w r k d ve t1 t2 vp au ti ms W) (x : Value) : Rx w r k d x t1 t2 vp au ti ms (W.setCell ⟨w.heap.size + 1 + 1, 2, none⟩ (x)) := by
  refine ⟨(Below.heap_setCell W ⟨w.heap.size + 1 + 1, 2, none⟩ _ _ (by show w.heap.size + 1 ≠ w.heap.size + 1 + 1; omega)).trans h.rd, ?_, (Below.heap_setCell W ⟨w.heap.size + 1 + 1, 2, none⟩ _ _ (by show w.heap.size ≠ w.heap.size + 1 + 1; omega)).trans h.xd, h.b.setCell (p := ⟨w.heap.size + 1 + 1, 2, none⟩) (by show w.heap.size ≤ w.heap.size + 1 + 1; omega) _⟩
  have e := h.ob
  unfold oM at e ⊢
  simp [World.setCell, Array.getElem?_modify, e]
theorem Rx.setT1 {w : World} {r : Rd} {k : Int} {d : BA} {ve : Value} {t1 t2 : Nat} {vp : Value} {au : BA} {ti : Int} {ms : BA} {W : World} (h : Rx w r k d ve t1 t2 vp au ti ms W) (x : Nat) : Rx w r k d ve x t2 vp au ti ms (W.setCell ⟨w.heap.size + 1 + 1, 3, none⟩ (.int .u64 x)) := by
  refine ⟨(Below.heap_setCell W ⟨w.heap.size + 1 + 1, 3, none⟩ _ _ (by show w.heap.size + 1 ≠ w.heap.size + 1 + 1; omega)).trans h.rd, ?_, (Below.heap_setCell W ⟨w.heap.size + 1 + 1, 3, none⟩ _ _ (by show w.heap.size ≠ w.heap.size + 1 + 1; omega)).trans h.xd, h.b.setCell (p := ⟨w.heap.size + 1 + 1, 3, none⟩) (by show w.heap.size ≤ w.heap.size + 1 + 1; omega) _⟩
  have e := h.ob
  unfold oM at e ⊢
  simp [World.setCell, Array.getElem?_modify, e]
theorem Rx.setT2 {w : World} {r : Rd} {k : Int} {d : BA} {ve : Value} {t1 t2 : Nat} {vp : Value} {au : BA} {ti : Int} {ms : BA} {W : World} (h : Rx w r k d ve t1 t2 vp au ti ms W) (x : Nat) : Rx w r k d ve t1 x vp au ti ms (W.setCell ⟨w.heap.size + 1 + 1, 4, none⟩ (.int .u64 x)) := by
  refine ⟨(Below.heap_setCell W ⟨w.heap.size + 1 + 1, 4, none⟩ _ _ (by show w.heap.size + 1 ≠ w.heap.size + 1 + 1; omega)).trans h.rd, ?_, (Below.heap_setCell W ⟨w.heap.size + 1 + 1, 4, none⟩ _ _ (by show w.heap.size ≠ w.heap.size + 1 + 1; omega)).trans h.xd, h.b.setCell (p := ⟨w.heap.size + 1 + 1, 4, none⟩) (by show w.heap.size ≤ w.heap.size + 1 + 1; omega) _⟩
  have e := h.ob
  unfold oM at e ⊢
  simp [World.setCell, Array.getElem?_modify, e]
theorem Rx.setP {w : World} {r : Rd} {k : Int} {d : BA} {ve : Value} {t1 t2 : Nat} {vp : Value} {au : BA} {ti : Int} {ms : BA} {W : World} (h : Rx w r k d ve t1 t2 vp au ti ms W) (x : Value) : Rx w r k d ve t1 t2 x au ti ms (W.setCell ⟨w.heap.size + 1 + 1, 5, none⟩ (x)) := by
  refine ⟨(Below.heap_setCell W ⟨w.heap.size + 1 + 1, 5, none⟩ _ _ (by show w.heap.size + 1 ≠ w.heap.size + 1 + 1; omega)).trans h.rd, ?_, (Below.heap_setCell W ⟨w.heap.size + 1 + 1, 5, none⟩ _ _ (by show w.heap.size ≠ w.heap.size + 1 + 1; omega)).trans h.xd, h.b.setCell (p := ⟨w.heap.size + 1 + 1, 5, none⟩) (by show w.heap.size ≤ w.heap.size + 1 + 1; omega) _⟩
  have e := h.ob
  unfold oM at e ⊢
  simp [World.setCell, Array.getElem?_modify, e]
theorem Rx.setA {w : World} {r : Rd} {k : Int} {d : BA} {ve : Value} {t1 t2 : Nat} {vp : Value} {au : BA} {ti : Int} {ms : BA} {W : World} (h : Rx w r k d ve t1 t2 vp au ti ms W) (x : BA) : Rx w r k d ve t1 t2 vp x ti ms (W.setCell ⟨w.heap.size + 1 + 1, 6, none⟩ (.string x)) := by
  refine ⟨(Below.heap_setCell W ⟨w.heap.size + 1 + 1, 6, none⟩ _ _ (by show w.heap.size + 1 ≠ w.heap.size + 1 + 1; omega)).trans h.rd, ?_, (Below.heap_setCell W ⟨w.heap.size + 1 + 1, 6, none⟩ _ _ (by show w.heap.size ≠ w.heap.size + 1 + 1; omega)).trans h.xd, h.b.setCell (p := ⟨w.heap.size + 1 + 1, 6, none⟩) (by show w.heap.size ≤ w.heap.size + 1 + 1; omega) _⟩
  have e := h.ob
  unfold oM at e ⊢
  simp [World.setCell, Array.getElem?_modify, e]
theorem Rx.setI {w : World} {r : Rd} {k : Int} {d : BA} {ve : Value} {t1 t2 : Nat} {vp : Value} {au : BA} {ti : Int} {ms : BA} {W : World} (h : Rx w r k d ve t1 t2 vp au ti ms W) (x : Int) : Rx w r k d ve t1 t2 vp au x ms (W.setCell ⟨w.heap.size + 1 + 1, 7, none⟩ (.int .i64 x)) := by
  refine ⟨(Below.heap_setCell W ⟨w.heap.size + 1 + 1, 7, none⟩ _ _ (by show w.heap.size + 1 ≠ w.heap.size + 1 + 1; omega)).trans h.rd, ?_, (Below.heap_setCell W ⟨w.heap.size + 1 + 1, 7, none⟩ _ _ (by show w.heap.size ≠ w.heap.size + 1 + 1; omega)).trans h.xd, h.b.setCell (p := ⟨w.heap.size + 1 + 1, 7, none⟩) (by show w.heap.size ≤ w.heap.size + 1 + 1; omega) _⟩
  have e := h.ob
  unfold oM at e ⊢
  simp [World.setCell, Array.getElem?_modify, e]
theorem Rx.setM {w : World} {r : Rd} {k : Int} {d : BA} {ve : Value} {t1 t2 : Nat} {vp : Value} {au : BA} {ti : Int} {ms : BA} {W : World} (h : Rx w r k d ve t1 t2 vp au ti ms W) (x : BA) : Rx w r k d ve t1 t2 vp au ti x (W.setCell ⟨w.heap.size + 1 + 1, 8, none⟩ (.string x)) := by
  refine ⟨(Below.heap_setCell W ⟨w.heap.size + 1 + 1, 8, none⟩ _ _ (by show w.heap.size + 1 ≠ w.heap.size + 1 + 1; omega)).trans h.rd, ?_, (Below.heap_setCell W ⟨w.heap.size + 1 + 1, 8, none⟩ _ _ (by show w.heap.size ≠ w.heap.size + 1 + 1; omega)).trans h.xd, h.b.setCell (p := ⟨w.heap.size + 1 + 1, 8, none⟩) (by show w.heap.size ≤ w.heap.size + 1 + 1; omega) _⟩
  have e := h.ob
  unfold oM at e ⊢
  simp [World.setCell, Array.getElem?_modify, e]
/-- Where the reference begins to read. -/
theorem rx_fresh (w : World) (s : BA) : Rx w (s, false) 0 ⟨#[]⟩ (.slice none 0 0) 0 0 (.slice none 0 0) ⟨#[]⟩ 0 ⟨#[]⟩ (((w.alloc (.cells #[.int .i64 0, .string ⟨#[]⟩, .slice none 0 0, .int .u64 0, .int .u64 0, .slice none 0 0, .string ⟨#[]⟩, .int .i64 0, .string ⟨#[]⟩] 28)).alloc (.cells #[.string s, .bool false] 58)).alloc (.cells #[.int .i64 0, .string ⟨#[]⟩, .slice none 0 0, .int .u64 0, .int .u64 0, .slice none 0 0, .string ⟨#[]⟩, .int .i64 0, .string ⟨#[]⟩] 28)) := by
  have a0 := World.alloc_heap_new w (.cells #[.int .i64 0, .string ⟨#[]⟩, .slice none 0 0, .int .u64 0, .int .u64 0, .slice none 0 0, .string ⟨#[]⟩, .int .i64 0, .string ⟨#[]⟩] 28)
  have a1 := World.alloc_heap_new (w.alloc (.cells #[.int .i64 0, .string ⟨#[]⟩, .slice none 0 0, .int .u64 0, .int .u64 0, .slice none 0 0, .string ⟨#[]⟩, .int .i64 0, .string ⟨#[]⟩] 28)) (.cells #[.string s, .bool false] 58)
  have a2 := World.alloc_heap_new ((w.alloc (.cells #[.int .i64 0, .string ⟨#[]⟩, .slice none 0 0, .int .u64 0, .int .u64 0, .slice none 0 0, .string ⟨#[]⟩, .int .i64 0, .string ⟨#[]⟩] 28)).alloc (.cells #[.string s, .bool false] 58)) (.cells #[.int .i64 0, .string ⟨#[]⟩, .slice none 0 0, .int .u64 0, .int .u64 0, .slice none 0 0, .string ⟨#[]⟩, .int .i64 0, .string ⟨#[]⟩] 28)
  rw [World.size_alloc] at a1
  rw [World.size_alloc, World.size_alloc] at a2
  exact ⟨(Below.heap_alloc _ _ _ (by simp)).trans a1, a2, (Below.heap_alloc _ _ _ (by simp; omega)).trans ((Below.heap_alloc _ _ _ (by simp)).trans a0), (((Below.refl _ _).alloc (Nat.le_refl _) _).alloc (by simp) _).alloc (by simp; omega) _⟩
end Go.Proofs.Ytiaahjoldahlnaa
