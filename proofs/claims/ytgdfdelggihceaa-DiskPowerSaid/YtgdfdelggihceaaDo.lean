/- Acts that came in; the law's own short and do. -/
import Derived.Test.YtgdfdelggihceaaLawBegin
namespace Go.Proofs.Ytgdfdelggihceaa
open Go.ChangeShapes Go.WideShapes Go.ChangeAt Go.RowKit

theorem strs_out {lo hi : Nat} {w : World} {b off cap : Nat} {vp : Value} {D : Dk} (h : FreeD lo hi w (dv D.size (.slice (some ⟨b, off, none⟩) D.secs.length cap) vp D.left) D) (h0 : 0 < D.secs.length) : b < lo ∨ hi ≤ b := by
  by_cases hb : b < lo ∨ hi ≤ b
  · exact hb
  · exfalso
    obtain ⟨_, _, e, ⟨_, _, rfl, _, _, hc⟩, _⟩ := h.disk
    cases e
    obtain ⟨b1, o1, e1, _, hcell⟩ := hc.resolve_left (by intro e; rw [e] at h0; simp at h0)
    cases e1
    have c0 := hcell 0 h0
    obtain ⟨_, _, e, ⟨_, _, rfl, _, _, hc2⟩, _⟩ := h (w.setCell ⟨b, off, none⟩ (.bool true)) (by simp [World.setCell]) (fun k _ ho => Below.heap_setCell w ⟨b, off, none⟩ (.bool true) k (by show k ≠ b; omega))
    cases e
    obtain ⟨b1, o1, e1, _, hcell2⟩ := hc2.resolve_left (by intro e; rw [e] at h0; simp at h0)
    cases e1
    have c1 := hcell2 0 h0
    rw [Nat.add_zero] at c0 c1
    simp [World.cell?_setCell_same', c0] at c1
theorem ws_out {lo hi : Nat} {w : World} {b off cap : Nat} {vs : Value} {D : Dk} (h : FreeD lo hi w (dv D.size vs (.slice (some ⟨b, off, none⟩) D.pend.length cap) D.left) D) (h0 : 0 < D.pend.length) : b < lo ∨ hi ≤ b := by
  by_cases hb : b < lo ∨ hi ≤ b
  · exact hb
  · exfalso
    obtain ⟨_, _, e, _, ⟨_, _, rfl, _, _, hc⟩⟩ := h.disk
    cases e
    obtain ⟨b1, o1, e1, _, hcell⟩ := hc.resolve_left (by intro e; rw [e] at h0; simp at h0)
    cases e1
    have c0 := (hcell 0 h0).1
    obtain ⟨_, _, e, _, ⟨_, _, rfl, _, _, hc2⟩⟩ := h (w.setCell ⟨b, off, none⟩ (.bool true)) (by simp [World.setCell]) (fun k _ ho => Below.heap_setCell w ⟨b, off, none⟩ (.bool true) k (by show k ≠ b; omega))
    cases e
    obtain ⟨b1, o1, e1, _, hcell2⟩ := hc2.resolve_left (by intro e; rw [e] at h0; simp at h0)
    cases e1
    have c1 := (hcell2 0 h0).1
    rw [Nat.zero_mul, Nat.add_zero] at c0 c1
    simp [World.cell?_setCell_same', c0] at c1
/-- Data that lies apart from two ranges of blocks still lies apart from the one when a cell of the other was written. -/
theorem FreeD.both {lo hi lo2 hi2 : Nat} {w : World} {v : Value} {D : Dk} (h : FreeD lo hi w v D) (h2 : FreeD lo2 hi2 w v D) {N : Nat} (n1 : lo2 ≤ N) (n2 : N < hi2) (o : Nat) (u : Value) : FreeD lo hi (w.setCell ⟨N, o, none⟩ u) v D := by
  intro W' s1 s2
  have hs : (w.setCell ⟨N, o, none⟩ u).heap.size = w.heap.size := by simp [World.setCell]
  obtain ⟨_, _, rfl, ⟨a, cap, rfl, m1, m2, hc⟩, ⟨a2, cap2, rfl, m3, m4, hc2⟩⟩ := h.disk
  have same : ∀ b, b < w.heap.size → (b < lo ∨ hi ≤ b) → (b < lo2 ∨ hi2 ≤ b) → W'.heap[b]? = w.heap[b]? := fun b hb o1 o2 =>
    (s2 b (by rw [hs]; exact hb) o1).trans (Below.heap_setCell w ⟨N, o, none⟩ u b (by show b ≠ N; omega))
  refine ⟨_, _, rfl, ⟨a, cap, rfl, m1, m2, ?_⟩, ⟨a2, cap2, rfl, m3, m4, ?_⟩⟩
  · rcases hc with e | ⟨b, off, rfl, hb, hcell⟩
    · exact .inl e
    · by_cases h0 : D.secs = []
      · exact .inl h0
      · have h0' : 0 < D.secs.length := List.length_pos_iff.2 h0
        refine .inr ⟨b, off, rfl, by omega, fun j hj => ?_⟩
        rw [World.cell?_of_block (a := ⟨b, off + j, none⟩) (same b hb (strs_out h h0') (strs_out h2 h0'))]
        exact hcell j hj
  · rcases hc2 with e | ⟨b, off, rfl, hb, hcell⟩
    · exact .inl e
    · by_cases h0 : D.pend = []
      · exact .inl h0
      · have h0' : 0 < D.pend.length := List.length_pos_iff.2 h0
        have k := same b hb (ws_out h h0') (ws_out h2 h0')
        refine .inr ⟨b, off, rfl, by omega, fun j hj => ?_⟩
        rw [World.cell?_of_block (a := ⟨b, off + j * 2, none⟩) k, World.cell?_of_block (a := ⟨b, off + j * 2 + 1, none⟩) k]
        exact hcell j hj
theorem FreeD.both4 {lo hi lo2 hi2 : Nat} {w : World} {v : Value} {D : Dk} (h : FreeD lo hi w v D) (h2 : FreeD lo2 hi2 w v D) {N : Nat} (n1 : lo2 ≤ N) (n2 : N < hi2) (x0 x1 x2 x3 : Value) : FreeD lo hi (Go.Proofs.Ytgdfdelggihceaa.set4 w N x0 x1 x2 x3) v D := by
  have a1 := h.both h2 n1 n2 0 x0
  have b1 := h2.set n1 n2 0 x0
  have a2 := a1.both b1 n1 n2 1 x1
  have b2 := b1.set n1 n2 1 x1
  have a3 := a2.both b2 n1 n2 2 x2
  exact a3.both (b2.set n1 n2 2 x2) n1 n2 3 x3
theorem FreeD.mono {lo hi lo2 hi2 : Nat} {w : World} {v : Value} {D : Dk} (h : FreeD lo hi w v D) (h1 : lo ≤ lo2) (h2 : hi2 ≤ hi) : FreeD lo2 hi2 w v D :=
  fun W' s1 s2 => h W' s1 fun k hk ho => s2 k hk (by omega)

/-- A slice whose cells are these acts. -/
def IsActs (w : World) (v : Value) (L : List (Bool × Int × ByteArray)) : Prop :=
  ∃ a cap, v = .slice a L.length cap ∧ L.length ≤ maxLen ∧ L.length ≤ cap ∧ (L = [] ∨ ∃ b off, a = some ⟨b, off, none⟩ ∧ b < w.heap.size ∧
    ∀ j (h : j < L.length), w.cell? ⟨b, off + j * 3, none⟩ = some (.bool L[j].1) ∧ w.cell? ⟨b, off + j * 3 + 1, none⟩ = some (.int .i64 L[j].2.1) ∧ w.cell? ⟨b, off + j * 3 + 2, none⟩ = some (.string L[j].2.2))
theorem isActs_nil (w : World) : IsActs w (.slice none 0 0) [] := ⟨none, 0, rfl, Nat.zero_le _, Nat.zero_le _, .inl rfl⟩
theorem info49 : (Try.prog.info? 49).map (fun i => (i.size)) = some 3 := by kernel_rfl
theorem cells49 : Try.prog.cellsOf 49 = 3 := by kernel_rfl
theorem cells4 : Try.prog.cellsOf 4 = 1 := by kernel_rfl

set_option maxHeartbeats 1000000 in
theorem short_any (v : Value) (L : List (Bool × Int × ByteArray)) (w : World) (hv : IsActs w v L) (hs : ∀ p ∈ L, p.2.2.size ≤ maxLen) :
    Calls Try.prog 26 #[v] w fun e w' => ∃ b, e = .returned (.bool b) ∧ (b = true → L.length ≤ 12) ∧ Below w.heap.size w w' := by
  obtain ⟨a, cap, rfl, hl, _, hc⟩ := hv
  have HC := Lib.hid hc
  have HSZ := Lib.hid hs
  unfold maxLen at hl
  clear hc hs
  by_cases h12 : 12 < L.length
  · have g : (12 : Int) < L.length := by omega
    go_enter Try.func26, Try.ntmps26
    go_wp2
    go_ret
    exact ⟨false, rfl, by simp, Below.refl _ _⟩
  · have g : ¬ (12 : Int) < L.length := by omega
    go_enter Try.func26, Try.ntmps26
    go_wp2
    go_loopw [4, 10] (fun _ s10 wr => ∃ j : Nat, j ≤ L.length ∧ s10 = .int .i64 j ∧ Below w.heap.size w wr) (fun _ i _ => L.length - (intOf i).toNat)
    case atStart => exact ⟨0, Nat.zero_le _, rfl, Below.refl _ _⟩
    case round =>
      obtain ⟨j, hj, rfl, hBr⟩ := hrel
      by_cases hlt : j < L.length
      · obtain ⟨b1, o1, rfl, hb1, hcell⟩ := HC.out.resolve_left (by intro e; rw [e] at hlt; simp at hlt)
        obtain ⟨e0, e1, e2⟩ := hcell j hlt
        have p0 := (hBr.cell (p := ⟨b1, o1 + j * 3, none⟩) hb1).trans e0
        have p1 := (hBr.cell (p := ⟨b1, o1 + j * 3 + 1, none⟩) hb1).trans e1
        have p2 := (hBr.cell (p := ⟨b1, o1 + j * 3 + 2, none⟩) hb1).trans e2
        have xm := HSZ.out _ (List.getElem_mem hlt)
        unfold maxLen at xm
        generalize L[j] = q at p0 p1 p2 xm
        obtain ⟨q0, q1, q2⟩ := q
        simp only at p0 p1 p2 xm
        clear hcell e0 e1 e2
        have Ba := hBr.alloc hBr.size (.cells #[.bool q0, .int .i64 q1, .string q2] 49)
        by_cases hz : (60 : Int) < q2.size
        · go_wp2
          go_ret
          exact ⟨false, rfl, by simp, Ba⟩
        · go_wp2
          go_roundw
          case rel => exact ⟨j + 1, by omega, by go_num, Ba⟩
          case measure => simp [intOf]; omega
      · go_wp2
        go_ret
        exact ⟨true, rfl, fun _ => by omega, hBr⟩

/-- What an operation of the law's own answers. -/
def Did (D : Dk) (w : World) (v : Value) (e : Ending) (w' : World) : Prop :=
  ∃ (v' : Value) (D' : Dk) (c : Int), e = .returned (.tuple #[v', .int .i64 c]) ∧ Keeps w v D w' v' D' ∧ IsDisk w' v' D' ∧ Below w.heap.size w w' ∧
    ((c = 0 ∧ D.left ≠ 0 ∧ D'.Ok ∧ D'.size = D.size ∧ D'.secs.length = D.secs.length ∧ D'.left = lessI D.left ∧ D'.pend.length ≤ D.pend.length + 1) ∨ (c = 20 ∧ D.left = 0 ∧ D' = D) ∨ c = 2 ∨ c = 11)

theorem sync_did (D : Dk) (hok : D.Ok) (hhi : D.left ≤ 9223372036854775807) (v : Value) (w : World) (hv : IsDisk w v D) : Calls Try.prog 20 #[v] w (Did D w v) := by
  by_cases h0 : D.left = 0
  · refine (sync_lost D hok.fit hok v w hv h0).mono ?_
    rintro e w' ⟨v', he, d, kp, hb⟩
    exact ⟨v', D, 20, he, kp, d, hb, .inr (.inl ⟨rfl, h0, rfl⟩)⟩
  · obtain ⟨z, hz⟩ : ∃ z : Nat, (z : Int) = D.size := ⟨D.size.toNat, by have := hok.s1; omega⟩
    refine (sync_ok D hok.fit hok v w hv h0 hhi _ rfl z hz).mono ?_
    rintro e w' ⟨v', he, f, hb⟩
    refine ⟨v', _, 0, he, f.keeps, f.disk, hb, .inl ⟨rfl, h0, ok_settle hok (fun _ => by omega) (by have := hok.left; unfold lessI; split <;> omega), rfl, settleL_length _ _ _ _, rfl, Nat.zero_le _⟩⟩
theorem write_did (D : Dk) (hok : D.Ok) (hhi : D.left ≤ 9223372036854775807) (hp : D.pend.length ≤ 100000) (v : Value) (w : World) (hv : IsDisk w v D) (s : Int) (x : ByteArray) (hx : x.size ≤ maxLen) : Calls Try.prog 18 #[v, .int .i64 s, .string x] w (Did D w v) := by
  by_cases hc : cw D s x = 0
  · by_cases h0 : D.left = 0
    · refine (write_lost D hok.fit hok v w hv s x hx hc h0).mono ?_
      rintro e w' ⟨v', he, d, kp, hb⟩
      exact ⟨v', D, 20, he, kp, d, hb, .inr (.inl ⟨rfl, h0, rfl⟩)⟩
    · refine (write_ok D hok.fit hok v w hv s x hx hc h0 hhi hp _ rfl).mono ?_
      rintro e w' ⟨v', he, d, kp, hb⟩
      refine ⟨v', _, 0, he, kp, d, hb, .inl ⟨rfl, h0, ok_write hok hc (by have := hok.left; unfold lessI; split <;> omega), rfl, rfl, rfl, by simp⟩⟩
  · refine (write_cw D hok.fit hok v w hv s x hx _ rfl hc).mono ?_
    rintro e w' ⟨v', he, d, kp, hb⟩
    refine ⟨v', _, _, he, kp, d, hb, .inr (.inr ?_)⟩
    unfold cw at hc ⊢
    split
    · exact .inl rfl
    · split
      · rename_i h1 h2; rw [if_neg h1, if_pos h2] at hc; exact absurd rfl hc
      · exact .inr rfl

set_option maxHeartbeats 4000000 in
theorem do_any (D : Dk) (hok : D.Ok) (hhi : D.left ≤ 9223372036854775807) (hp : D.pend.length ≤ 100000) (v : Value) (w : World) (hv : IsDisk w v D) (sy : Bool) (s : Int) (x : ByteArray) (hx : x.size ≤ maxLen) :
    Calls Try.prog 27 #[v, .agg #[.bool sy, .int .i64 s, .string x]] w (Did D w v) := by
  have hf := hok.fit
  have hv0 := Lib.hid hv
  obtain ⟨_, _, rfl, ⟨a, cap, rfl, hln, hcap, _⟩, ⟨b, cap2, rfl, hm, hcap2, _⟩⟩ := hv
  have hB := (((Below.refl w.heap.size w).alloc (Nat.le_refl _) (.cells #[.int .i64 D.size, .slice a D.secs.length cap, .slice b D.pend.length cap2, .int .i64 D.left] 26)).alloc (by simp) (.cells #[.bool sy, .int .i64 s, .string x] 49)).alloc (by simp; omega) (.cells #[.int .i64 0, .slice none 0 0, .slice none 0 0, .int .i64 0] 26)
  have x1 := Bx.fresh 0 (.slice none 0 0) (.slice none 0 0) 0 ((w.alloc (.cells #[.int .i64 D.size, .slice a D.secs.length cap, .slice b D.pend.length cap2, .int .i64 D.left] 26)).alloc (.cells #[.bool sy, .int .i64 s, .string x] 49))
  rw [World.size_alloc, World.size_alloc] at x1
  have X1 := Lib.hid x1
  have sz : (((w.alloc (.cells #[.int .i64 D.size, .slice a D.secs.length cap, .slice b D.pend.length cap2, .int .i64 D.left] 26)).alloc (.cells #[.bool sy, .int .i64 s, .string x] 49)).alloc (.cells #[.int .i64 0, .slice none 0 0, .slice none 0 0, .int .i64 0] 26)).heap.size = w.heap.size + 1 + 1 + 1 := by simp
  have SZ := Lib.hid sz
  have HHI := Lib.hid hhi
  have FO := Lib.hid ((free_old hv0.out (w.heap.size + 1 + 1 + 1)).below hB (Nat.le_refl _))
  have DV := Lib.hid (hv0.out.below hB (Nat.le_refl _))
  clear x1 sz hhi
  have fin : ∀ (w4 : World) (v4 : Value) (D' : Dk) (g : Nat), g = w.heap.size + 1 + 1 → Keeps (((w.alloc (.cells #[.int .i64 D.size, .slice a D.secs.length cap, .slice b D.pend.length cap2, .int .i64 D.left] 26)).alloc (.cells #[.bool sy, .int .i64 s, .string x] 49)).alloc (.cells #[.int .i64 0, .slice none 0 0, .slice none 0 0, .int .i64 0] 26)) (dv D.size (.slice a D.secs.length cap) (.slice b D.pend.length cap2) D.left) D w4 v4 D' →
      ∀ x0 x1 x2 x3, Keeps w (dv D.size (.slice a D.secs.length cap) (.slice b D.pend.length cap2) D.left) D (set4 w4 g x0 x1 x2 x3) v4 D' ∧ IsDisk (set4 w4 g x0 x1 x2 x3) v4 D' := by
    rintro w4 v4 D' _ rfl kp x0 x1 x2 x3
    have F2 := kp _ _ (by rw [SZ.out]; exact Nat.le_refl _) FO.out
    exact ⟨fun lo hi hh h => (kp lo hi (by rw [SZ.out]; omega) (h.below hB (Nat.le_refl _))).both4 F2 (by omega) (by omega) x0 x1 x2 x3, (F2.set4 (N := w.heap.size + 1 + 1) (by omega) (by omega) x0 x1 x2 x3).disk⟩
  have FIN := Lib.hid fin
  clear fin
  cases sy with
  | true =>
    go_enter Try.func27, Try.ntmps27
    go_wp2_with fail
    ((with_reducible refine (sync_did D hok HHI.out _ _ DV.out).mono ?_); rintro e w4 ⟨v4, D', c, rfl, kp, d4, hb4, hc⟩)
    obtain ⟨_, _, rfl, ⟨a4, cap4, rfl, _, _, _⟩, ⟨b4, cap4', rfl, _, _, _⟩⟩ := d4
    have HC := Lib.hid hc
    have B4 := hB.trans (hb4.mono hB.size)
    have FF := Lib.hid (FIN.out w4 _ D' _ rfl kp (.int .i64 D'.size) (.slice a4 D'.secs.length cap4) (.slice b4 D'.pend.length cap4') (.int .i64 D'.left))
    have SB := below_set4 B4 (g := w.heap.size + 1 + 1) (by omega) (.int .i64 D'.size) (.slice a4 D'.secs.length cap4) (.slice b4 D'.pend.length cap4') (.int .i64 D'.left)
    obtain ⟨q0, q1, q2, q3, g0, g1, g2, g3, qlt⟩ := X1.out.below hb4 X1.out.lt
    clear hc kp hb4
    go_wp2
    exact bodyPost_ret (v := .tuple #[dv D'.size (.slice a4 D'.secs.length cap4) (.slice b4 D'.pend.length cap4') D'.left, .int .i64 c]) (by simp [results, Try.results27, go_sem, q0, q1, q2, q3, World.cell?_setCell_other, World.cell?_setCell_same']) rfl ⟨_, D', c, rfl, FF.out.1, FF.out.2, SB, HC.out⟩
  | false =>
    go_enter Try.func27, Try.ntmps27
    go_wp2_with fail
    ((with_reducible refine (write_did D hok HHI.out hp _ _ DV.out s x hx).mono ?_); rintro e w4 ⟨v4, D', c, rfl, kp, d4, hb4, hc⟩)
    obtain ⟨_, _, rfl, ⟨a4, cap4, rfl, _, _, _⟩, ⟨b4, cap4', rfl, _, _, _⟩⟩ := d4
    have HC := Lib.hid hc
    have B4 := hB.trans (hb4.mono hB.size)
    have FF := Lib.hid (FIN.out w4 _ D' _ rfl kp (.int .i64 D'.size) (.slice a4 D'.secs.length cap4) (.slice b4 D'.pend.length cap4') (.int .i64 D'.left))
    have SB := below_set4 B4 (g := w.heap.size + 1 + 1) (by omega) (.int .i64 D'.size) (.slice a4 D'.secs.length cap4) (.slice b4 D'.pend.length cap4') (.int .i64 D'.left)
    obtain ⟨q0, q1, q2, q3, g0, g1, g2, g3, qlt⟩ := X1.out.below hb4 X1.out.lt
    clear hc kp hb4
    go_wp2
    exact bodyPost_ret (v := .tuple #[dv D'.size (.slice a4 D'.secs.length cap4) (.slice b4 D'.pend.length cap4') D'.left, .int .i64 c]) (by simp [results, Try.results27, go_sem, q0, q1, q2, q3, World.cell?_setCell_other, World.cell?_setCell_same']) rfl ⟨_, D', c, rfl, FF.out.1, FF.out.2, SB, HC.out⟩
end Go.Proofs.Ytgdfdelggihceaa
