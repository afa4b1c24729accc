/- For every size, list of data and picks DiskBeginnings returns true and leaves its arguments as they were: after a loss of power each byte is zero or a byte of some data that was written. No condition. -/
import Derived.Test.YtgdfdelggihceaaLawTorn
namespace Go.Proofs.Ytgdfdelggihceaa
open Go.ChangeShapes Go.WideShapes Go.ChangeAt Go.RowKit

/-- A byte of a text, as a number. -/
def bt (s : ByteArray) (i : Nat) : Nat := (s.data.getD i 0).toNat
theorem bt_zeros (n i : Nat) : bt (zeros n) i = 0 := by
  unfold bt zeros
  rw [Array.getD_eq_getD_getElem?]
  by_cases h : i < n <;> simp [h]
theorem bt_tear (n : Nat) (x y : ByteArray) (i : Nat) (hn : n ≤ x.size) (_h : x.size = y.size) (hi : i < y.size) : bt (tear n x y) i = if i < n then bt x i else bt y i := by
  have hy : y.data.size = y.size := rfl
  have hx : x.data.size = x.size := rfl
  unfold bt tear
  simp only [Array.getD_eq_getD_getElem?, ByteArray.data_append, ByteArray.data_extract]
  by_cases h : i < n
  · rw [if_pos h, Array.getElem?_append_left (by simp; omega), Array.getElem?_extract, if_pos (by simp; omega)]
    simp
  · rw [if_neg h, Array.getElem?_append_right (by simp; omega), Array.getElem?_extract, if_pos (by simp; omega)]
    congr 3
    simp; omega
/-- What a loss of power leaves of one sector: each byte is as it was, or a byte of some data that was written. -/
theorem settle_bt (kept : Nat → Nat) (Z : Nat) (hk : ∀ i, kept i ≤ Z) (l : List (Int × ByteArray)) : ∀ (i : Nat) (y : ByteArray), y.size = Z → (∀ p ∈ l, p.1 = 0 ∧ p.2.size = Z) → ∃ y', settleL kept i l [y] = [y'] ∧ y'.size = Z ∧ ∀ t, t < Z → bt y' t = bt y t ∨ ∃ p ∈ l, bt p.2 t = bt y' t := by
  induction l with
  | nil => intro i y hy _; exact ⟨y, rfl, hy, fun t _ => .inl rfl⟩
  | cons p l ih =>
    intro i y hy hp
    obtain ⟨p0, pz⟩ := hp p List.mem_cons_self
    have ts : (tear (kept i) p.2 y).size = Z := by rw [tear_size _ _ _ (by rw [pz]; exact hk i) (by rw [pz, hy]), pz]
    obtain ⟨y', e, hs, ht⟩ := ih (i + 1) (tear (kept i) p.2 y) ts (fun q hq => hp q (List.mem_cons_of_mem _ hq))
    refine ⟨y', ?_, hs, fun t htl => ?_⟩
    · rw [settleL, p0]; exact e
    · rcases ht t htl with h | ⟨q, hq, h⟩
      · rw [bt_tear _ _ _ _ (by rw [pz]; exact hk i) (by rw [pz, hy]) (by omega)] at h
        split at h
        · exact .inr ⟨p, List.mem_cons_self, h.symm⟩
        · exact .inl h
      · exact .inr ⟨q, List.mem_cons_of_mem _ hq, h⟩
/-- The writes of these data that are taken. -/
def acc (Z : Nat) (L : List ByteArray) : List (Int × ByteArray) := (L.filter fun x => decide (x.size = Z)).map fun x => ((0 : Int), x)
theorem acc_in {Z : Nat} {L : List ByteArray} {p : Int × ByteArray} (h : p ∈ acc Z L) : p.1 = 0 ∧ p.2.size = Z ∧ p.2 ∈ L := by
  obtain ⟨x, hx, rfl⟩ := List.mem_map.1 h
  obtain ⟨h1, h2⟩ := List.mem_filter.1 hx
  exact ⟨rfl, by simpa using h2, h1⟩
theorem acc_length (Z : Nat) (L : List ByteArray) : (acc Z L).length ≤ L.length := by
  unfold acc; rw [List.length_map]; exact List.length_filter_le _ _
theorem acc_yes (Z : Nat) (L : List ByteArray) (j : Nat) (h : j < L.length) (hz : L[j].size = Z) : acc Z (L.take (j + 1)) = acc Z (L.take j) ++ [((0 : Int), L[j])] := by
  unfold acc
  rw [List.take_succ_eq_append_getElem h, List.filter_append, List.map_append]
  simp [hz]
theorem acc_no (Z : Nat) (L : List ByteArray) (j : Nat) (h : j < L.length) (hz : L[j].size ≠ Z) : acc Z (L.take (j + 1)) = acc Z (L.take j) := by
  unfold acc
  rw [List.take_succ_eq_append_getElem h, List.filter_append, List.map_append]
  simp [hz]
/-- The disk when these data were written. -/
def Db (Z : Nat) (L : List ByteArray) : Dk := ⟨Z, [zeros Z], acc Z L, -1⟩
theorem Db_ok (Z : Nat) (L : List ByteArray) (h1 : 1 ≤ Z) (h2 : Z ≤ 512) : (Db Z L).Ok :=
  ⟨by show (1 : Int) ≤ (Z : Int); omega, by show (Z : Int) ≤ 512; omega, by show 1 ≤ 1; omega, by show 1 ≤ 1000; omega,
    fun x hx => by
      have : x = zeros Z := by simpa [Db] using hx
      rw [this, zeros_size]; rfl,
    fun p hp => by
      obtain ⟨a, b, _⟩ := acc_in (show p ∈ acc Z L from hp)
      refine ⟨by omega, ?_, ?_⟩
      · rw [a]; show (0 : Int) < ((1 : Nat) : Int); omega
      · rw [b]; rfl,
    by show (-1 : Int) ≤ -1; omega⟩
theorem Db_cw (Z : Nat) (L : List ByteArray) (x : ByteArray) (h : x.size ≠ Z) : cw (Db Z L) 0 x = 11 := by
  unfold cw
  have h1 : ¬ ((0 : Int) < 0 ∨ (((Db Z L).secs.length : Nat) : Int) ≤ 0) := by
    show ¬ ((0 : Int) < 0 ∨ ((1 : Nat) : Int) ≤ 0)
    omega
  have h2 : ¬ (x.size : Int) = (Db Z L).size := by
    show ¬ (x.size : Int) = (Z : Int)
    omega
  rw [if_neg h1, if_neg h2]
theorem idx9 (s : ByteArray) (j : Nat) (hj : j < s.size) (m : Nat) (hm : bt s j = m) (w : World) : (Instr.index 9 (.string s) (.int .i64 j)).run Try.prog w = .ok (.int .u8 m) w := by
  rw [run_index_string w 9 s .i64 j Try.underlying9, dif_pos ⟨by omega, by omega⟩]
  have hd : j < s.data.size := hj
  have e : ((j : Int)).toNat = j := by omega
  have e2 : (s[((j : Int)).toNat]'(by rw [e]; exact hj)).toNat = m := by
    simp only [e]
    rw [← hm, bt, Array.getD_eq_getD_getElem?, Array.getElem?_eq_getElem hd]
    rfl
  rw [e2]
theorem open_texts {H : Type} {enc : TypeId × Value → H} {W : World} {b0 : Nat} {held : Bool} {v : Value} {d : DataW H} {p : List MemPlace} {r : Reach} {base : Nat} (hv : Value.okWide Try.prog W r base 23 v)
    (h : DataW.Trod enc Try.prog W b0 (fun _ => true) held 23 v d p) : ∃ L, IsStrs W v L ∧ ∀ s ∈ L, s.size ≤ maxLen := by
  obtain ⟨a0, len0, cap0, rfl⟩ := okWide_slice Try.underlying23 hv
  obtain ⟨fuel, hf⟩ := h
  obtain ⟨v, L, e, h1, h2⟩ := open_strs hf
  simp [Value.cells] at e
  subst e
  exact ⟨L, h1, h2⟩

theorem begin_out (a : Nat) (vL vP : Value) (L : List ByteArray) (P : List Int) (w : World) (hL : IsStrs w vL L) (hP : IsInts w vP P) (h : 12 < L.length ∨ (L.length ≤ 12 ∧ 20 < P.length)) :
    Calls Try.prog 10 #[.int .u8 a, vL, vP] w fun e w' => e = .returned (.bool true) ∧ Below w.heap.size w w' := by
  obtain ⟨aL, capL, rfl, hlL, _, _⟩ := hL
  obtain ⟨aP, capP, rfl, hlP, _, _⟩ := hP
  unfold maxLen at hlL hlP
  have hm := Nat.mod_lt a (show 0 < 40 by omega)
  obtain ⟨r, hr⟩ : ∃ r, a % 40 = r := ⟨_, rfl⟩
  rw [hr] at hm
  have t1 : (a : Int).tmod 40 = (r : Int) := by rw [← hr]; exact (Int.ofNat_tmod a 40).symm
  clear hr
  rcases h with h | ⟨h, h'⟩
  · have g1 : (12 : Int) < L.length := by omega
    go_enter Try.func10, Try.ntmps10
    go_wp2_with fail
    ((with_reducible refine (awake_any _).mono ?_); rintro e w2 ⟨rfl, hb2⟩)
    go_wp2
    go_ret
    exact ⟨rfl, hb2⟩
  · have g1 : ¬ (12 : Int) < L.length := by omega
    have g2 : (20 : Int) < P.length := by omega
    go_enter Try.func10, Try.ntmps10
    go_wp2_with fail
    ((with_reducible refine (awake_any _).mono ?_); rintro e w2 ⟨rfl, hb2⟩)
    go_wp2
    go_ret
    exact ⟨rfl, hb2⟩

set_option maxRecDepth 100000 in
set_option maxHeartbeats 8000000 in
theorem begin_main (a : Nat) (ha : a < 256) (vL vP : Value) (L : List ByteArray) (P : List Int) (w : World) (hL : IsStrs w vL L) (hP : IsInts w vP P) (hs : ∀ s ∈ L, s.size ≤ maxLen) (l1 : L.length ≤ 12) (l2 : P.length ≤ 20) :
    Calls Try.prog 10 #[.int .u8 a, vL, vP] w fun e w' => e = .returned (.bool true) ∧ Below w.heap.size w w' := by
  have HP := Lib.hid hP
  have HSZ := Lib.hid hs
  obtain ⟨aL, capL, rfl, _, _, hcL⟩ := hL
  obtain ⟨aP, capP, rfl, _, _, _⟩ := hP
  have HL := Lib.hid hcL
  clear hcL hs
  have hm := Nat.mod_lt a (show 0 < 40 by omega)
  obtain ⟨r, hr⟩ : ∃ r, a % 40 = r := ⟨_, rfl⟩
  rw [hr] at hm
  have t1 : (a : Int).tmod 40 = (r : Int) := by rw [← hr]; exact (Int.ofNat_tmod a 40).symm
  obtain ⟨Z, hZ⟩ : ∃ Z : Nat, 1 + r = Z := ⟨_, rfl⟩
  have eZ : (1 : Int) + (r : Int) = (Z : Int) := by omega
  have z1 : 1 ≤ Z := by omega
  have z2 : Z ≤ 40 := by omega
  have g1 : ¬ (12 : Int) < L.length := by omega
  have g2 : ¬ (20 : Int) < P.length := by omega
  have okL := Db_ok Z L z1 (by omega)
  have pL : (Db Z L).pend.length ≤ 100000 := by show (acc Z L).length ≤ _; have := acc_length Z L; omega
  obtain ⟨y, hy, ys, yp⟩ := settle_bt (pk P Z) Z (fun i => by have := pk_le P Z (by omega) i; omega) (acc Z L) 0 (zeros Z) (zeros_size Z) (fun p hp => ⟨(acc_in hp).1, (acc_in hp).2.1⟩)
  have e10 : (⟨(Db Z L).size, settleL (pk P (Db Z L).size) 0 (Db Z L).pend (Db Z L).secs, [], -1⟩ : Dk) = ⟨Z, [y], [], -1⟩ := by
    show (⟨(Z : Int), settleL (pk P (Z : Int)) 0 (acc Z L) [zeros Z], [], -1⟩ : Dk) = _
    rw [hy]
  have ok10 : (⟨(Z : Int), [y], [], -1⟩ : Dk).Ok := by rw [← e10]; exact ok_settle okL (pk_le P _ okL.s1) (by omega)
  have yq : ∀ t, t < Z → bt y t = 0 ∨ ∃ x ∈ L, x.size = Z ∧ bt x t = bt y t := fun t ht => by
    rcases yp t ht with h | ⟨p, hp, h⟩
    · left; rw [h, bt_zeros]
    · right; exact ⟨p.2, (acc_in hp).2.2, (acc_in hp).2.1, h⟩
  have E10 := Lib.hid e10
  have YQ := Lib.hid yq
  have YS := Lib.hid ys
  clear hr hZ hy yp yq e10 ys
  go_enter Try.func10, Try.ntmps10
  go_wp2_with fail
  refine (new_ok 1 Z (by omega) (by omega) z1 (by omega) _).mono ?_
  rintro e w1 ⟨v1, rfl, f1, hb1⟩
  have d1 : IsDisk w1 v1 (Db Z []) := f1.disk
  have F1 := free_old d1 (w1.heap.size + 1)
  obtain ⟨_, _, rfl, ⟨a1, cap1, rfl, _, _, _⟩, ⟨b1, cap1', rfl, _, _, _⟩⟩ := d1
  have al := (Below.refl w1.heap.size w1).alloc (Nat.le_refl _) (.cells #[.int .i64 (Db Z []).size, .slice a1 (Db Z []).secs.length cap1, .slice b1 (Db Z []).pend.length cap1', .int .i64 (Db Z []).left] 26)
  have B2 := hb1.alloc hb1.size (.cells #[.int .i64 (Db Z []).size, .slice a1 (Db Z []).secs.length cap1, .slice b1 (Db Z []).pend.length cap1', .int .i64 (Db Z []).left] 26)
  have K2 := Lib.hid (Bx.fresh (Db Z []).size (.slice a1 (Db Z []).secs.length cap1) (.slice b1 (Db Z []).pend.length cap1') (Db Z []).left w1)
  have F2 := Lib.hid (F1.below al (Nat.le_refl _))
  have lt1 := hb1.size
  clear f1 hb1 F1 al t1 eZ
  go_upto_region 7 with fail
  generalize w1.alloc (.cells #[.int .i64 (Db Z []).size, .slice a1 (Db Z []).secs.length cap1, .slice b1 (Db Z []).pend.length cap1', .int .i64 (Db Z []).left] 26) = w2 at B2 K2 F2 ⊢
  go_wp2
  go_loopw [11, 12, 13, 42] (fun _ _ _ s42 wr => ∃ (j : Nat) (D : Dk) (aS : Option Addr) (cS : Nat) (aW : Option Addr) (cW : Nat), j ≤ L.length ∧ s42 = .int .i64 j ∧ Hid (Db Z (L.take j) = D) ∧ Hid (Bx w1.heap.size D.size (.slice aS D.secs.length cS) (.slice aW D.pend.length cW) D.left wr) ∧
    Hid (FreeD w1.heap.size (w1.heap.size + 1) wr (dv D.size (.slice aS D.secs.length cS) (.slice aW D.pend.length cW) D.left) D) ∧ Below w.heap.size w wr) (fun _ _ _ i _ => L.length - (intOf i).toNat)
  case atStart => exact ⟨0, Db Z [], a1, cap1, b1, cap1', Nat.zero_le _, rfl, Lib.hid rfl, K2, F2, B2⟩
  case round =>
    obtain ⟨j, D, aS, cS, aW, cW, hj, rfl, hD, hK, hF, hBr⟩ := hrel
    have ltN := hK.out.lt
    by_cases hlt : j < L.length
    · obtain ⟨b1, o1, rfl, hb1, hcell⟩ := HL.out.resolve_left (by intro e; rw [e] at hlt; simp at hlt)
      have p0 := (hBr.cell (p := ⟨b1, o1 + j, none⟩) hb1).trans (hcell j hlt)
      have xm := HSZ.out _ (List.getElem_mem hlt)
      have yes := acc_yes Z L j hlt
      have no := acc_no Z L j hlt
      have YES := Lib.hid yes
      have NO := Lib.hid no
      clear yes no
      generalize L[j] = x at p0 xm YES NO
      have HX := Lib.hid xm
      clear hcell xm
      have okj : D.Ok := by rw [← hD.out]; exact Db_ok Z (L.take j) z1 (by omega)
      have pj : D.pend.length ≤ 100000 := by rw [← hD.out]; show (acc Z (L.take j)).length ≤ _; have := acc_length Z (L.take j); rw [List.length_take] at this; omega
      have lj : D.left = -1 := by rw [← hD.out]; rfl
      have LJ := Lib.hid lj
      clear lj
      by_cases hz : x.size = Z
      · have hcw : cw D 0 x = 0 := by rw [← hD.out]; exact (cw_zero _ _ _).2 ⟨by omega, by show (0 : Int) < ((1 : Nat) : Int); omega, by rw [hz]; rfl⟩
        obtain ⟨D', hD'⟩ : ∃ D' : Dk, (⟨D.size, D.secs, D.pend ++ [((0 : Int), x)], -1⟩ : Dk) = D' := ⟨_, rfl⟩
        have e' : Hid (Db Z (L.take (j + 1)) = D') := Lib.hid (by rw [← hD', ← hD.out]; show (⟨(Z : Int), [zeros Z], acc Z (L.take (j + 1)), -1⟩ : Dk) = _; rw [YES.out hz]; rfl)
        have HD' := Lib.hid hD'
        have HCW := Lib.hid hcw
        clear hz hD' hcw
        obtain ⟨q0, q1, q2, q3, f0, f1, f2, f3, qlt⟩ := hK.out
        go_wp2_with fail
        ((with_reducible refine (write_ok D okj.fit okj _ _ hF.out.disk 0 x HX.out HCW.out (by rw [LJ.out]; decide) (by rw [LJ.out]; decide) pj (-1) (by rw [LJ.out]; decide)).mono ?_); rintro e w3 ⟨v3, rfl, d3, kp, hb3⟩)
        have F3 := kp _ _ ltN hF.out
        rw [HD'.out] at F3
        obtain ⟨_, _, rfl, ⟨a3, cap3, rfl, _, _, _⟩, ⟨b3, cap3', rfl, _, _, _⟩⟩ := F3.disk
        have al3 := (Below.refl w3.heap.size w3).alloc (Nat.le_refl _) (.cells #[.int .i64 D'.size, .slice a3 D'.secs.length cap3, .slice b3 D'.pend.length cap3', .int .i64 D'.left] 26)
        have B3 := hBr.trans (hb3.mono hBr.size)
        have B4 := B3.alloc B3.size (.cells #[.int .i64 D'.size, .slice a3 D'.secs.length cap3, .slice b3 D'.pend.length cap3', .int .i64 D'.left] 26)
        have K4 := Lib.hid ((hK.out.below hb3 ltN).alloc (.cells #[.int .i64 D'.size, .slice a3 D'.secs.length cap3, .slice b3 D'.pend.length cap3', .int .i64 D'.left] 26))
        have X4 := Lib.hid (Bx.fresh D'.size (.slice a3 D'.secs.length cap3) (.slice b3 D'.pend.length cap3') D'.left w3)
        have F4 := Lib.hid (F3.below al3 (Nat.le_refl _))
        clear q0 q1 q2 q3 f0 f1 f2 f3 qlt kp d3 hb3 F3 al3 B3
        go_upto_region 12 with fail
        generalize w3.alloc (.cells #[.int .i64 D'.size, .slice a3 D'.secs.length cap3, .slice b3 D'.pend.length cap3', .int .i64 D'.left] 26) = w4 at B4 K4 X4 F4 ⊢
        obtain ⟨q0, q1, q2, q3, f0, f1, f2, f3, qlt⟩ := K4.out
        obtain ⟨r0, r1, r2, r3, j0, j1, j2, j3, rlt⟩ := X4.out
        have K5 := Lib.hid (K4.out.set4 D'.size (.slice a3 D'.secs.length cap3) (.slice b3 D'.pend.length cap3') D'.left)
        have F5 := Lib.hid (F4.out.set4 (N := w1.heap.size) (Nat.le_refl _) (Nat.lt_succ_self _) (.int .i64 D'.size) (.slice a3 D'.secs.length cap3) (.slice b3 D'.pend.length cap3') (.int .i64 D'.left))
        have B5 := below_set4 B4 (g := w1.heap.size) lt1 (.int .i64 D'.size) (.slice a3 D'.secs.length cap3) (.slice b3 D'.pend.length cap3') (.int .i64 D'.left)
        go_wp2
        go_roundw
        case rel => exact ⟨j + 1, D', a3, cap3, b3, cap3', by omega, by go_num, e', K5, F5, B5⟩
        case measure => simp [intOf]; omega
      · have hcw : cw D 0 x = 11 := by
          rw [← hD.out]; exact Db_cw Z _ x hz
        have e' : Hid (Db Z (L.take (j + 1)) = D) := Lib.hid (by rw [← hD.out]; unfold Db; rw [NO.out hz])
        have HCW := Lib.hid hcw
        clear hz hcw
        obtain ⟨q0, q1, q2, q3, f0, f1, f2, f3, qlt⟩ := hK.out
        go_wp2_with fail
        ((with_reducible refine (write_cw D okj.fit okj _ _ hF.out.disk 0 x HX.out 11 HCW.out (by decide)).mono ?_); rintro e w3 ⟨v3, rfl, d3, _, hb3⟩)
        obtain ⟨_, _, rfl, ⟨a3, cap3, rfl, _, _, _⟩, ⟨b3, cap3', rfl, _, _, _⟩⟩ := d3
        have al3 := (Below.refl w3.heap.size w3).alloc (Nat.le_refl _) (.cells #[.int .i64 Dk.zero.size, .slice a3 Dk.zero.secs.length cap3, .slice b3 Dk.zero.pend.length cap3', .int .i64 Dk.zero.left] 26)
        have B3 := hBr.trans (hb3.mono hBr.size)
        have B4 := B3.alloc B3.size (.cells #[.int .i64 Dk.zero.size, .slice a3 Dk.zero.secs.length cap3, .slice b3 Dk.zero.pend.length cap3', .int .i64 Dk.zero.left] 26)
        have K4 := Lib.hid ((hK.out.below hb3 ltN).alloc (.cells #[.int .i64 Dk.zero.size, .slice a3 Dk.zero.secs.length cap3, .slice b3 Dk.zero.pend.length cap3', .int .i64 Dk.zero.left] 26))
        have F4 := Lib.hid ((hF.out.below hb3 (Nat.le_refl _)).below al3 (Nat.le_refl _))
        clear q0 q1 q2 q3 f0 f1 f2 f3 qlt hb3 al3 B3
        go_wp2
        go_roundw
        case rel => exact ⟨j + 1, D, aS, cS, aW, cW, by omega, by go_num, e', K4, F4, B4⟩
        case measure => simp [intOf]; omega
    · obtain rfl : j = L.length := by omega
      have hD2 := hD.out
      rw [List.take_length] at hD2
      have okD : D.Ok := by rw [← hD2]; exact okL
      have pD : D.pend.length ≤ 100000 := by rw [← hD2]; exact pL
      have e11 := E10.out
      rw [hD2] at e11
      have E11 := Lib.hid e11
      clear hD2 e11 E10
      have k10 : 0 < (⟨(Z : Int), [y], [], -1⟩ : Dk).secs.length := Nat.zero_lt_one
      have r10 : curAt (0 : Nat) ((⟨(Z : Int), [y], [], -1⟩ : Dk).secs[0]'k10) (⟨(Z : Int), [y], [], -1⟩ : Dk).pend = y := rfl
      have HPr := Lib.hid (HP.out.below hBr (Nat.le_refl _))
      obtain ⟨q0, q1, q2, q3, f0, f1, f2, f3, qlt⟩ := hK.out
      go_wp2_with fail
      ((with_reducible refine (cut_ok D okD.fit okD pD _ _ P _ hF.out.disk HPr.out).mono ?_); rintro e w3 ⟨v3, rfl, d3, hb3⟩)
      rw [E11.out] at d3
      have B3 := hBr.trans (hb3.mono hBr.size)
      have D3 := Lib.hid d3.disk
      clear q0 q1 q2 q3 f0 f1 f2 f3 qlt d3 hb3 HPr
      go_wp2_with fail
      ((with_reducible refine (read_good ⟨(Z : Int), [y], [], -1⟩ ok10.fit ok10 _ _ D3.out 0 0 rfl k10 y r10).mono ?_); rintro e w4 ⟨rfl, hb4⟩)
      have B4 := B3.trans (hb4.mono B3.size)
      have gy : (((y.size : Nat) : Int) != (Z : Int)) = false := by rw [YS.out]; simp
      clear hb4 D3 B3
      go_wp2
      clear gy
      go_loopw [16, 17, 19, 72] (fun _ _ _ s72 wr => ∃ i : Nat, i ≤ Z ∧ s72 = .int .i64 i ∧ Below w4.heap.size w4 wr) (fun _ _ _ i _ => Z - (intOf i).toNat)
      case atStart => exact ⟨0, Nat.zero_le _, rfl, Below.refl _ _⟩
      case round =>
        obtain ⟨i, hi, rfl, hBi⟩ := hrel
        by_cases hlt2 : i < Z
        · obtain ⟨m, hm⟩ : ∃ m, bt y i = m := ⟨_, rfl⟩
          have ix := fun w => idx9 y i (by rw [YS.out]; exact hlt2) m hm w
          have HM := Lib.hid hm
          obtain ⟨c0, hc0⟩ : ∃ c, ((m : Int) == 0) = c := ⟨_, rfl⟩
          have HC0 := Lib.hid hc0
          have c0m : Hid (c0 = false → bt y i ≠ 0) := Lib.hid (by
            intro h; rw [HM.out]; rintro rfl; rw [h] at hc0; simp at hc0)
          clear hm
          go_upto_region 21 with fail
          clear ix hc0
          go_wp2
          go_loopw [17, 19, 81] (fun s17 _ s81 wr => ∃ (k : Nat) (b : Bool), k ≤ L.length ∧ s81 = .int .i64 k ∧ s17 = .bool b ∧ Hid (b = false → bt y i ≠ 0 ∧ ∀ x ∈ L.take k, x.size = Z → bt x i ≠ bt y i) ∧ Below w4.heap.size w4 wr) (fun _ _ i _ => L.length - (intOf i).toNat)
          case atStart => exact ⟨0, c0, Nat.zero_le _, rfl, rfl, Lib.hid (fun h => ⟨c0m.out h, by simp⟩), hBi⟩
          case round =>
            obtain ⟨k, b, hk, rfl, rfl, hQ, hBk⟩ := hrel
            by_cases hlt3 : k < L.length
            · obtain ⟨b1, o1, rfl, hb1, hcell⟩ := HL.out.resolve_left (by intro e; rw [e] at hlt3; simp at hlt3)
              have p0 := ((B4.trans (hBk.mono B4.size)).cell (p := ⟨b1, o1 + k, none⟩) hb1).trans (hcell k hlt3)
              have xm := HSZ.out _ (List.getElem_mem hlt3)
              have tk := List.take_succ_eq_append_getElem hlt3
              have TK := Lib.hid tk
              clear hcell tk
              generalize L[k] = x at p0 xm TK
              unfold maxLen at xm
              have next : ∀ (b' : Bool), (b' = false → b = false) → (b' = false → x.size = Z → bt x i ≠ bt y i) → Hid (b' = false → bt y i ≠ 0 ∧ ∀ x ∈ L.take (k + 1), x.size = Z → bt x i ≠ bt y i) := fun b' h1 h2 => Lib.hid (fun h => by
                obtain ⟨u, v⟩ := hQ.out (h1 h)
                refine ⟨u, fun q hq hz => ?_⟩
                rw [TK.out] at hq
                rcases List.mem_append.1 hq with hq | hq
                · exact v q hq hz
                · simp at hq; subst hq; exact h2 h hz)
              have NX := Lib.hid next
              clear next
              cases b with
              | true =>
                go_upto_region 24 with fail
                go_quiet (fail)
                have Br := below_drewN hBk nq
                clear p0 xm
                go_wp2
                go_roundw
                case rel => exact ⟨k + 1, true, by omega, by go_num, rfl, NX.out true (fun h => h) (fun h => by cases h), Br⟩
                case measure => simp [intOf]; omega
              | false =>
                by_cases hz : x.size = Z
                · obtain ⟨m2, hm2⟩ : ∃ m, bt x i = m := ⟨_, rfl⟩
                  have ix := fun w => idx9 y i (by rw [YS.out]; exact hlt2) m HM.out w
                  have ix2 := fun w => idx9 x i (by rw [hz]; exact hlt2) m2 hm2 w
                  have hzb : (((x.size : Nat) : Int) == (Z : Int)) = true := by rw [hz]; simp
                  obtain ⟨c, hc⟩ : ∃ c, ((m2 : Int) == (m : Int)) = c := ⟨_, rfl⟩
                  have cm : Hid (c = false → bt x i ≠ bt y i) := Lib.hid (by
                    intro h; rw [hm2, HM.out]; rintro rfl; rw [h] at hc; simp at hc)
                  clear hm2 hz
                  go_upto_region 24 with fail
                  go_quiet (fail)
                  have Br := below_drewN hBk nq
                  clear p0 xm ix ix2 hzb hc
                  go_wp2
                  go_roundw
                  case rel => exact ⟨k + 1, c, by omega, by go_num, rfl, NX.out c (fun _ => rfl) (fun h _ => cm.out h), Br⟩
                  case measure => simp [intOf]; omega
                · have hzb : (((x.size : Nat) : Int) == (Z : Int)) = false := by simp; omega
                  have HZ := Lib.hid hz
                  clear hz
                  go_upto_region 24 with fail
                  go_quiet (fail)
                  have Br := below_drewN hBk nq
                  clear p0 xm hzb
                  go_wp2
                  go_roundw
                  case rel => exact ⟨k + 1, false, by omega, by go_num, rfl, NX.out false (fun _ => rfl) (fun _ h => absurd h HZ.out), Br⟩
                  case measure => simp [intOf]; omega
            · obtain rfl : k = L.length := by omega
              cases b with
              | true =>
                go_wp2
                go_roundw
                case rel => exact ⟨i + 1, by omega, by go_num, hBk⟩
                case measure => simp [intOf]; omega
              | false =>
                obtain ⟨u, v⟩ := hQ.out rfl
                rw [List.take_length] at v
                rcases YQ.out i hlt2 with h | ⟨x, hx, hz, h⟩
                · exact absurd h u
                · exact absurd h (v x hx hz)
        · have Bz := B4.trans (hBi.mono B4.size)
          go_wp2_with fail
          ((with_reducible refine (awake_any _).mono ?_); rintro e wz ⟨rfl, hbz⟩)
          go_wp2
          go_ret
          exact ⟨rfl, Bz.trans (hbz.mono Bz.size)⟩

theorem begin_any (a : Nat) (ha : a < 256) (vL vP : Value) (L : List ByteArray) (P : List Int) (w : World) (hL : IsStrs w vL L) (hP : IsInts w vP P) (hs : ∀ s ∈ L, s.size ≤ maxLen) :
    Calls Try.prog 10 #[.int .u8 a, vL, vP] w fun e w' => e = .returned (.bool true) ∧ Below w.heap.size w w' := by
  by_cases l1 : 12 < L.length
  · exact begin_out a vL vP L P w hL hP (.inl l1)
  by_cases l2 : 20 < P.length
  · exact begin_out a vL vP L P w hL hP (.inr ⟨by omega, l2⟩)
  exact begin_main a ha vL vP L P w hL hP hs (by omega) (by omega)

set_option maxRecDepth 100000 in
theorem begin_lifted (os : Os) (started : os.Started) (H : Type) (enc : TypeId × Value → H) :
    ReturnsInHanded {} Try.checked os 10 .any (Rows.diskBeginningsSpec.pre6 enc Try.prog Try.f10 Rows.diskBeginningsRow.domain false) (Rows.diskBeginningsSpec.post enc Try.prog Try.f10 false true false false) := by
  refine returnsInHanded_of_change (C := Try.checked) ownK started (by kernel_rfl) Try.func10
    (ChangeSpec.witness6 (enc := enc) (C := Try.checked) false ⟨#[], #[.int .u8 0, .slice none 0 0, .slice none 0 0], []⟩ 8 (by kernel_rfl) (by kernel_rfl) (by kernel_rfl) (by kernel_rfl)) ?_
  intro W base args ds gs before hval0 hW hcnd _
  have hval : ∀ (j : Nat) t v, Try.f10.params[j]? = some t → args[j]? = some v → Value.okWide Try.prog W .any base t v := hval0
  have hW' := hW
  obtain ⟨p, q, hA0, hV, rfl, hfz, hnd⟩ := hW
  have hA : DataW.TrodAll enc Try.prog W 0 (fun _ => true) true Try.f10.params.toList args.toList ds p := hA0
  rw [Try.params10] at hA hval
  obtain ⟨v0, v1, v2, d0, d1, d2, p0, p1, p2, rfl, rfl, rfl, h0, h1, h2⟩ := trodAll_three hA
  obtain ⟨rfl, rfl⟩ := trodVars_none hV
  have k1 := h1
  have k2 := h2
  have lt1 : ∀ x ∈ p1, x.block < W.heap.size := by obtain ⟨m, hm⟩ := k1; exact DataW.trod_lt m _ _ _ hm
  have lt2 : ∀ x ∈ p2, x.block < W.heap.size := by obtain ⟨m, hm⟩ := k2; exact DataW.trod_lt m _ _ _ hm
  obtain ⟨z0, rfl, rfl, rfl, w0⟩ := open_int Try.underlying5 (hval 0 5 v0 rfl rfl) h0
  obtain ⟨L, hL, hs⟩ := open_texts (hval 1 23 v1 rfl rfl) h1
  obtain ⟨P, hP⟩ := open_numbers (hval 2 39 v2 rfl rfl) h2
  have b1 := u8_in w0
  obtain ⟨a, rfl⟩ := Int.eq_ofNat_of_zero_le b1.1
  clear hA0 hval0
  refine (begin_any a (by omega) v1 v2 L P W hL hP hs).mono fun e W' ⟨he, bel⟩ => ?_
  subst he
  exact ⟨_, rfl, _, _, _, [], _, [], hW', trodAll_mk1 (shut_bool Try.underlying4 _), (trodAll_cons_mk (shut_int Try.underlying5 w0) (trodAll_cons_mk (Below.trod laidOut (by kernel_rfl) (of_decide_eq_true (by kernel_rfl)) k1 bel lt1) (trodAll_cons_mk (Below.trod laidOut (by kernel_rfl) (of_decide_eq_true (by kernel_rfl)) k2 bel lt2) trodAll_mk0))), rfl, bel.frame _, fun h => by cases h⟩

theorem begin_holds : Rows.DiskBeginningsSaid :=
  OpenClaim.holds_of_wide 10 Try.f10 rfl rfl rfl rfl rfl rfl rfl ⟨rfl, rfl, rfl, rfl, rfl⟩ rfl rfl rfl rfl rfl (by kernel_rfl) Try.func10 (by kernel_rfl)
    (of_decide_eq_true (by kernel_rfl)) (by unfold Func.isWrapper; rw [if_neg (of_decide_eq_false (by kernel_rfl))]; exact ⟨rfl, rfl⟩)
    (fun os started H enc _ => begin_lifted os started H enc)
#print axioms begin_holds
end Go.Proofs.Ytgdfdelggihceaa
