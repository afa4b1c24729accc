/- The reference's Split and Fresh, at this translation. -/
import Derived.Test.YtcdnhnbigincpaaRef2
namespace Go.Proofs.Ytcdnhnbigincpaa
open Go.RowKit

set_option maxHeartbeats 4000000 in
theorem refSplit_err (a b c d : Int) (s : ByteArray) (hs : s.size ≤ maxLen) (w : World) (r : Int) (hr : chkA a b c d [s] = r) (h0 : r ≠ 0) :
    Calls Try.prog 11 #[.string s, pv a b c d] w fun e w' => ∃ v, e = .returned (.tuple #[v, .int .i64 r]) ∧ IsStrs w' v [] ∧ Below w.heap.size w w' := by
  unfold maxLen at hs
  have hB := (Below.refl w.heap.size w).alloc (Nat.le_refl _) (.cells #[.int .i64 a, .int .i64 b, .int .i64 c, .int .i64 d] 23)
  have x := PBox.new w a b c d
  have c0 := x.c0
  have c1 := x.c1
  have c2 := x.c2
  have c3 := x.c3
  obtain ⟨r0, hr0⟩ : ∃ r0, chkP a b c d = r0 := ⟨_, rfl⟩
  rw [chkA, hr0] at hr
  have HR0 := Lib.hid hr0
  clear hr0 x
  go_enter Try.func11, Try.ntmps11
  go_wp2_with fail
  ((with_reducible refine (refCheck_any a b c d r0 HR0.out _).mono ?_); rintro e w1 ⟨rfl, hb1⟩)
  have B1 := hB.trans (hb1.mono hB.size)
  clear c0 c1 c2 c3 hb1
  by_cases hz : r0 = 0
  · subst hz
    rw [if_neg (by simp)] at hr
    have hl : (65536 : Int) < s.size := by
      rcases Nat.lt_or_ge 65536 s.size with h | h
      · omega
      · rw [if_neg (by rintro ⟨y, hy, h2⟩; simp at hy; subst hy; omega)] at hr
        exact absurd hr.symm h0
    rw [if_pos ⟨s, by simp, by omega⟩] at hr
    subst hr
    clear h0
    go_wp2
    exact bodyPost_ret (v := .tuple #[.slice (some ⟨w1.heap.size, 0, none⟩) 0 0, .int .i64 4]) (by simp [results, Try.results11, go_sem]) rfl ⟨_, rfl, strs_none _ _ _, B1.alloc B1.size _⟩
  · rw [if_pos hz] at hr
    subst hr
    have hne : (r0 != 0) = true := by simpa using hz
    go_wp2
    exact bodyPost_ret (v := .tuple #[.slice (some ⟨w1.heap.size, 0, none⟩) 0 0, .int .i64 r0]) (by simp [results, Try.results11, go_sem]) rfl ⟨_, rfl, strs_none _ _ _, B1.alloc B1.size _⟩

theorem pieces_step {p : Pm} (hp : p.Ok) (s : ByteArray) (h : 0 < s.size) : ∃ f, 0 < f ∧ f ≤ s.size ∧ stops tst p (nats s) 0 f ∧ (∀ e, 0 < e → e < f → ¬ stops tst p (nats s) 0 e) ∧
    pieces s 0 (ends tst p (nats s)) = s.extract 0 f :: pieces (s.extract f s.size) 0 (ends tst p (nats (s.extract f s.size))) := by
  obtain ⟨f, f1, f2, f3, f4, f5⟩ := ends_cons (tst := tst) hp (nats s) (by rw [nats_length]; exact h)
  rw [nats_length] at f2
  refine ⟨f, f1, f2, f3, f4, ?_⟩
  have g := ends_good (tst := tst) hp (nats (s.extract f s.size))
  rw [nats_from] at g ⊢
  rw [f5, pieces, pieces_from _ _ _ _ (fun x hx => by
    have := good_le _ _ g x hx
    rw [List.length_drop, nats_length] at this
    omega), Nat.zero_add]

set_option maxHeartbeats 8000000 in
theorem refSplit_ok (p : Pm) (hp : p.Ok) (s : ByteArray) (hs : s.size ≤ 65536) (w : World) :
    Calls Try.prog 11 #[.string s, pv p.least p.most p.window p.bits] w fun e w' => ∃ v, e = .returned (.tuple #[v, .int .i64 0]) ∧ IsStrs w' v (pieces s 0 (ends tst p (nats s))) ∧ Below w.heap.size w w' := by
  have hB := (Below.refl w.heap.size w).alloc (Nat.le_refl _) (.cells #[.int .i64 p.least, .int .i64 p.most, .int .i64 p.window, .int .i64 p.bits] 23)
  have x := PBox.new w p.least p.most p.window p.bits
  have c0 := x.c0
  have c1 := x.c1
  have c2 := x.c2
  have c3 := x.c3
  have hsi : ¬ (65536 : Int) < s.size := by omega
  have len0 : (pieces s 0 (ends tst p (nats s))).length ≤ s.size := by
    have := ends_len hp (nats s)
    rw [nats_length] at this
    rw [pieces_length]; exact this
  obtain ⟨L, hL⟩ : ∃ L, pieces s 0 (ends tst p (nats s)) = L := ⟨_, rfl⟩
  rw [hL] at len0 ⊢
  have HL := Lib.hid hL
  clear hL
  obtain ⟨i0, hi, hz0, hz1, hz2⟩ := info_parts info9
  go_enter Try.func11, Try.ntmps11
  go_wp2_with fail
  ((with_reducible refine (refCheck_any _ _ _ _ 0 (chkP_ok hp) _).mono ?_); rintro e w1 ⟨rfl, hb1⟩)
  have B1 := hB.trans (hb1.mono hB.size)
  have x1 : PBox w1 w.heap.size p.least p.most p.window p.bits := (hb1.block _ x.lt).trans x
  have lt1 : w.heap.size < w1.heap.size := x1.lt
  clear c0 c1 c2 c3 hb1 hB x
  go_wp2
  go_loopw [0, 7] (fun s0 s7 wr => ∃ (y : ByteArray) (P : List ByteArray), s0 = .string y ∧ y.size ≤ 65536 ∧ Hid (P ++ pieces y 0 (ends tst p (nats y)) = L) ∧ Hid (wr.ownsRow w1.heap.size 9 1 s7 P.length (rowS P)) ∧ Below w1.heap.size w1 wr) (fun s0 _ _ => match s0 with | .string y => y.size | _ => 0)
  case atStart => exact ⟨s, [], rfl, hs, HL, Lib.hid (World.ownsRow_lit w1 #[] 0 (Nat.le_refl _) (Nat.zero_le _) rfl), (Below.refl _ _).alloc (Nat.le_refl _) _⟩
  case round =>
    obtain ⟨y, P, rfl, hy, hP, ho, hBr⟩ := hrel
    by_cases hlt : 0 < y.size
    · have hli : (0 : Int) < y.size := by omega
      obtain ⟨f, f1, f2, f3, f4, f5⟩ := pieces_step hp y hlt
      have hP2 := hP.out
      rw [f5] at hP2
      have HP2 : Hid ((P ++ [y.extract 0 f]) ++ pieces (y.extract f y.size) 0 (ends tst p (nats (y.extract f y.size))) = L) := Lib.hid (by rw [List.append_assoc]; exact hP2)
      have pl : P.length < 65536 := by
        have := congrArg List.length hP2
        simp only [List.length_append, List.length_cons] at this
        omega
      have xr : PBox wr w.heap.size p.least p.most p.window p.bits := (hBr.block _ lt1).trans x1
      have c0 := xr.c0
      have c1 := xr.c1
      have c2 := xr.c2
      have c3 := xr.c3
      have hfi : (f : Int) ≤ y.size := by omega
      clear hP hP2 f5
      go_wp2_with fail
      ((with_reducible refine (end_any p hp y hy f f1 f2 f3 f4 _).mono ?_); rintro e w4 ⟨rfl, hb4⟩)
      have B4 := hBr.trans (hb4.mono hBr.size)
      have OW4 : Hid (w4.ownsRow w1.heap.size 9 1 u7 P.length (rowS P)) := Lib.hid (own_move ho.out fun k _ h2 => hb4.block k h2)
      have sz4 := B4.size
      clear c0 c1 c2 c3 hb4 ho
      go_wp2_with (at_builtin; refine wpList_append_own _ rfl _ _ 25 rfl w1.heap.size 9 i0 (.string ⟨#[]⟩) 1 16 Try.underlying25 hi hz0 hz1 hz2 rfl (by decide) _ P.length (rowS P) rfl (OW4.out.alloc _) ⟨w4.heap.size, 0, none⟩ 1 1 [.string (y.extract 0 f)] rfl rfl (cell_one_new w4 _ _) (by simp [Value.oneCell']) (by unfold maxLen; omega) (by omega) (by simp; omega) ?_)
      intro v' w5 hown hgrow _
      have B5 := (B4.alloc sz4 (.cells #[.string (y.extract 0 f)] 9)).trans ((Below.refl w1.heap.size (w4.alloc (.cells #[.string (y.extract 0 f)] 9))).grown hgrow (by simp; omega) (fun k e => (OW4.out.lt k e).1))
      have OW := Lib.hid hown
      clear hown hgrow
      go_wp2
      go_roundw
      case rel => exact ⟨y.extract f y.size, P ++ [y.extract 0 f], rfl, by simp [ByteArray.size_extract]; omega, HP2, Lib.hid (by simpa [rowS] using OW.out), B5⟩
      case measure => simp [ByteArray.size_extract]; omega
    · have hP2 := hP.out
      have hn : nats y = [] := List.eq_nil_of_length_eq_zero (by rw [nats_length]; omega)
      rw [hn, ends_nil, pieces, List.append_nil] at hP2
      subst hP2
      have hli : ¬ (0 : Int) < y.size := by omega
      have OW := Lib.hid (own_strs ho.out rfl (by unfold maxLen; omega))
      clear ho hP
      go_wp2
      exact bodyPost_ret (v := .tuple #[u7, .int .i64 0]) (by simp [results, Try.results11, go_sem]) rfl ⟨_, rfl, OW.out, B1.trans (hBr.mono B1.size)⟩
end Go.Proofs.Ytcdnhnbigincpaa
