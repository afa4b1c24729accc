/- The law's ends: the bytes from each end on; where two data with the same rest meet, they stay together. -/
import Derived.Test.YtcdnhnbigincpaaLocMath
import Derived.Deep.Cut
namespace Go.Proofs.Ytcdnhnbigincpaa
open Go.RowKit

/-- How many bytes lie behind each end. -/
def rems (p : Pm) (l : List Nat) : List Nat := (ends tst p l).map (l.length - ·)
theorem rems_length (p : Pm) (l : List Nat) : (rems p l).length = (ends tst p l).length := by simp [rems]
theorem rems_drop {p : Pm} (hp : p.Ok) (l A R : List Nat) (hl : l = A ++ R) (i : Nat) (hi : i < (rems p l).length) (m : Nat) (hm : (rems p l)[i] = m) (hR : m ≤ R.length) :
    (rems p l).drop i = m :: (ends tst p (R.drop (R.length - m))).map (m - ·) := by
  have hi' : i < (ends tst p l).length := by rw [← rems_length]; exact hi
  obtain ⟨_, i2⟩ := ends_split (tst := tst) hp _ l rfl i hi'
  have g := ends_good (tst := tst) hp l
  obtain ⟨_, g2, _, _, _⟩ := good_mid _ 0 g i hi'
  have hm' : l.length - (ends tst p l)[i] = m := by rw [← hm]; simp [rems]
  have e1 : l.drop (ends tst p l)[i] = R.drop (R.length - m) := by
    have hn : l.length = A.length + R.length := by rw [hl, List.length_append]
    have he : (ends tst p l)[i] = A.length + (R.length - m) := by omega
    rw [he, hl, ← List.drop_drop, List.drop_left]
  have e2 : (ends tst p l).drop (i + 1) = (ends tst p (R.drop (R.length - m))).map (· + (ends tst p l)[i]) := by
    have key : ∀ (A B C : List Nat), C = A ++ B → A.length = i + 1 → C.drop (i + 1) = B := by
      rintro A B _ rfl h
      rw [← h, List.drop_left]
    rw [← e1]
    exact key _ _ _ i2 (by rw [List.length_take]; omega)
  rw [List.drop_eq_getElem_cons hi, hm]
  congr 1
  rw [rems, ← List.map_drop, e2, List.map_map]
  apply List.map_congr_left
  intro f _
  simp
  omega
theorem rems_meet {p : Pm} (hp : p.Ok) (A B R : List Nat) (i k : Nat) (hi : i < (rems p (A ++ R)).length) (hk : k < (rems p (B ++ R)).length) (h : (rems p (A ++ R))[i] = (rems p (B ++ R))[k]) (hR : (rems p (A ++ R))[i] ≤ R.length) :
    (rems p (A ++ R)).drop i = (rems p (B ++ R)).drop k := by
  rw [rems_drop hp _ A R rfl i hi _ rfl hR, rems_drop hp _ B R rfl k hk _ h.symm hR]
theorem rems_last {p : Pm} (hp : p.Ok) (l : List Nat) (h : 0 < l.length) : ∃ i, ∃ hi : i < (rems p l).length, (rems p l)[i] = 0 := by
  have h0 := ends_pos hp l h
  have g := ends_good (tst := tst) hp l
  have hi : (ends tst p l).length - 1 < (ends tst p l).length := by omega
  obtain ⟨_, _, _, _, g5⟩ := good_mid _ 0 g _ hi
  have ge := good_end _ 0 g
  rw [show (ends tst p l).length - 1 + 1 = (ends tst p l).length by omega, List.take_length, ge] at g5
  refine ⟨(ends tst p l).length - 1, by rw [rems_length]; exact hi, ?_⟩
  simp only [rems, List.getElem_map]
  omega

theorem nats_append (s t : ByteArray) : nats (s ++ t) = nats s ++ nats t := by simp [nats, ByteArray.data_append]

set_option maxHeartbeats 4000000 in
theorem lends_ok (p : Pm) (hp : p.Ok) (s : ByteArray) (hs : s.size ≤ 65536) (w : World) :
    Calls Try.prog 23 #[.string s, pv p.least p.most p.window p.bits] w fun e w' => ∃ v, e = .returned v ∧ IsNats w' v (rems p (nats s)) ∧ Below w.heap.size w w' := by
  have hB := (Below.refl w.heap.size w).alloc (Nat.le_refl _) (.cells #[.int .i64 p.least, .int .i64 p.most, .int .i64 p.window, .int .i64 p.bits] 23)
  have x := PBox.new w p.least p.most p.window p.bits
  have c0 := x.c0
  have c1 := x.c1
  have c2 := x.c2
  have c3 := x.c3
  have g := ends_good (tst := tst) hp (nats s)
  have gl := ends_len hp (nats s)
  rw [nats_length] at g gl
  obtain ⟨E, hE⟩ : ∃ E, ends tst p (nats s) = E := ⟨_, rfl⟩
  have hR : rems p (nats s) = E.map (s.size - ·) := by rw [rems, hE, nats_length]
  rw [hE] at g gl
  rw [hR]
  have HE := Lib.hid hE
  have HG := Lib.hid g
  clear hE g hR
  obtain ⟨i0, hi, hz0, hz1, hz2⟩ := info_parts info3
  go_enter Try.func23, Try.ntmps23
  go_wp2_with fail
  ((with_reducible refine (bounds_ok p hp s (by omega) _).mono ?_); rintro e w1 ⟨v1, rfl, d1, hb1⟩)
  rw [HE.out] at d1
  have B1 := hB.trans (hb1.mono hB.size)
  obtain ⟨a, cap, rfl, _, _, hc⟩ := d1
  have HC := Lib.hid hc
  clear c0 c1 c2 c3 hb1 hB x hc
  go_wp2
  go_loopw [7, 19] (fun s7 s19 wr => ∃ (j : Nat), j ≤ E.length ∧ s19 = .int .i64 j ∧ Hid (wr.ownsRow w1.heap.size 3 1 s7 j (rowN ((E.take j).map (s.size - ·)))) ∧ Below w1.heap.size w1 wr) (fun _ i _ => E.length - (intOf i).toNat)
  case atStart => exact ⟨0, Nat.zero_le _, rfl, Lib.hid (World.ownsRow_lit w1 #[] 0 (Nat.le_refl _) (Nat.zero_le _) rfl), (Below.refl _ _).alloc (Nat.le_refl _) _⟩
  case round =>
    obtain ⟨j, hj, rfl, ho, hBr⟩ := hrel
    by_cases hlt : j < E.length
    · obtain ⟨g1, g2, g3, g4, g5⟩ := good_mid E 0 HG.out j hlt
      obtain ⟨b1, o1, rfl, hb1, hcell⟩ := HC.out.resolve_left (by intro e; rw [e] at hlt; simp at hlt)
      have q := (hBr.cell (p := ⟨b1, o1 + j, none⟩) hb1).trans (hcell j hlt)
      have hsn : (E.take (j + 1)).map (s.size - ·) = (E.take j).map (s.size - ·) ++ [s.size - E[j]] := by rw [List.take_succ_eq_append_getElem hlt, List.map_append]; rfl
      have HSN := Lib.hid hsn
      clear hsn g1 g3 g4 g5 hcell
      generalize E[j] = e0 at q g2 HSN
      obtain ⟨m, hm⟩ : ∃ m, s.size - e0 = m := ⟨_, rfl⟩
      have hm2 : (s.size : Int) - (e0 : Int) = (m : Int) := by omega
      rw [hm] at HSN
      clear hm
      have sz := hBr.size
      go_wp2_with (at_builtin; refine wpList_append_own _ rfl _ _ 29 rfl w1.heap.size 3 i0 (.int .i64 0) 1 8 Try.underlying29 hi hz0 hz1 hz2 rfl (by decide) _ j (rowN ((E.take j).map (s.size - ·))) rfl (ho.out.alloc _) ⟨wr.heap.size, 0, none⟩ 1 1 [.int .i64 (m : Int)] rfl rfl (cell_one_new wr _ _) (by simp [Value.oneCell']) (by unfold maxLen; omega) (by omega) (by simp; omega) ?_)
      intro v' w5 hown hgrow _
      have BG := (hBr.alloc sz (.cells #[.int .i64 (m : Int)] 3)).trans ((Below.refl w1.heap.size (wr.alloc (.cells #[.int .i64 (m : Int)] 3))).grown hgrow (by simp; omega) (fun k e => (ho.out.lt k e).1))
      have OW := Lib.hid hown
      clear hown hgrow q
      go_wp2
      go_roundw
      case rel => exact ⟨j + 1, by omega, by go_num, Lib.hid (by rw [HSN.out]; simpa [rowN] using OW.out), BG⟩
      case measure => simp [intOf]; omega
    · obtain rfl : j = E.length := by omega
      have OW := Lib.hid (own_nats (L := E.map (s.size - ·)) (by have := ho.out; rw [List.take_length] at this; exact this) (by simp) (by unfold maxLen; omega))
      clear ho
      go_wp2
      go_ret
      exact ⟨_, rfl, OW.out, B1.trans (hBr.mono B1.size)⟩
end Go.Proofs.Ytcdnhnbigincpaa
