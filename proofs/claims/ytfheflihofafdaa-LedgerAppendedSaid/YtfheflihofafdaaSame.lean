/- The reference's Same: two ledgers compared, at this translation. -/
import Derived.Test.YtfheflihofafdaaGreat
import Derived.Deep.QuietTactic
import Derived.BigQuiet
import Derived.Lib.Strings
namespace Go.Proofs.Ytfheflihofafdaa
open Go.RowKit Go.Great Pt Tr

deriving instance DecidableEq for Rec
theorem toList_injB {x y : BA} (h : x.toList = y.toList) : x = y := by
  rw [ByteArray.toList_eq, ByteArray.toList_eq] at h
  exact ByteArray.ext (Array.toList_inj.1 h)
theorem str_eqB (x y : BA) : (x.toList == y.toList) = decide (x = y) := by
  by_cases h : x = y
  · subst h; simp
  · rw [decide_eq_false h]
    exact beq_eq_false_iff_ne.2 fun e => h (toList_injB e)
theorem eq_rec (t u : Int) (a1 a2 b1 b2 c1 c2 : BA) (w : World) :
    (Op.equalIn 10000 26 (.agg #[.int .i64 t, .string a1, .string b1, .string c1]) (.agg #[.int .i64 u, .string a2, .string b2, .string c2])).run Try.prog w = .ok (t == u && a1.toList == a2.toList && b1.toList == b2.toList && c1.toList == c2.toList) w := by
  have hS : Try.prog.underlying 26 = some (.struct (Try.prog.fieldsOf 26)) := by kernel_rfl
  have hp : Try.prog.stoodInHeld 26 = false := by kernel_rfl
  rw [show (10000 : Nat) = 9999 + 1 from rfl, run_equalIn_agg w 9999 26 _ _ hS hp]
  simp only [Program.fieldsOf, Try.underlying26]
  simp [Op.eqFields, go_sem, Try.isAgg9, Try.isAgg3, Try.sizeOf9, Try.sizeOf3]
  by_cases h1 : t = u <;> by_cases h2 : a1.toList = a2.toList <;> by_cases h3 : b1.toList = b2.toList <;> by_cases h4 : c1.toList = c2.toList <;> simp [h1, h2, h3, h4]
theorem neq_rec (t u : Int) (a1 a2 b1 b2 c1 c2 : BA) (w : World) :
    (binOp .neq 26 (.agg #[.int .i64 t, .string a1, .string b1, .string c1]) (.agg #[.int .i64 u, .string a2, .string b2, .string c2])).run Try.prog w = .ok (.bool (!(t == u && a1.toList == a2.toList && b1.toList == b2.toList && c1.toList == c2.toList))) w := by
  rw [run_neq_struct, eq_rec]
  rfl
theorem rec_eqB (x y : Rec) : (x.time == y.time && x.who.toList == y.who.toList && x.what.toList == y.what.toList && x.data.toList == y.data.toList) = decide (x = y) := by
  obtain ⟨t, a, b, c⟩ := x
  obtain ⟨u, d, e, f⟩ := y
  simp only [str_eqB, Rec.mk.injEq]
  by_cases h1 : t = u <;> by_cases h2 : a = d <;> by_cases h3 : b = e <;> by_cases h4 : c = f <;> simp [h1, h2, h3, h4]
attribute [local go_sem 2000] eq_rec neq_rec

/-- Both lists' boxes. -/
theorem two_boxes (w : World) (a b : Option Addr) (n m c d : Nat) :
    ((w.alloc (.cells #[.slice a n c] 24)).alloc (.cells #[.slice b m d] 24)).cell? ⟨w.heap.size, 0, none⟩ = some (.slice a n c) ∧ ((w.alloc (.cells #[.slice a n c] 24)).alloc (.cells #[.slice b m d] 24)).cell? ⟨w.heap.size + 1, 0, none⟩ = some (.slice b m d) := by
  constructor <;> go_simp

set_option maxRecDepth 100000 in
set_option maxHeartbeats 4000000 in
theorem same_len (a b : Option Addr) (n m c d : Nat) (h : n ≠ m) (w : World) :
    Calls Try.prog 16 #[.agg #[.slice a n c], .agg #[.slice b m d]] w fun e w' => e = .returned (.bool false) ∧ Below w.heap.size w w' := by
  have e : ((n : Int) != (m : Int)) = true := by simp; omega
  have hb := bla (bla (Below.refl w.heap.size w) (.cells #[.slice a n c] 24)) (.cells #[.slice b m d] 24)
  clear h
  go_enter Try.func16, Try.ntmps16
  go_wp2
  go_ret
  exact ⟨rfl, hb⟩

set_option maxRecDepth 100000 in
set_option maxHeartbeats 4000000 in
theorem same_any (L M : List Rec) (u v : Value) (w : World) (hu : IsRecs w u L) (hv : IsRecs w v M) :
    Calls Try.prog 16 #[.agg #[u], .agg #[v]] w fun e w' => e = .returned (.bool (decide (L = M))) ∧ Below w.heap.size w w' := by
  by_cases hlen : ¬ L.length = M.length
  · obtain ⟨a, c, rfl, h1, _⟩ := hu
    obtain ⟨b, d, rfl, h2, _⟩ := hv
    have : decide (L = M) = false := by simp; intro e; exact hlen (by rw [e])
    rw [this]
    exact same_len a b _ _ c d hlen w
  have hlen := Classical.not_not.1 hlen
  obtain ⟨a, c, rfl, h1, hlc, hL⟩ := hu
  obtain ⟨b, d, rfl, h2, hmd, hM⟩ := hv
  have HL := Lib.hid hL
  have HM := Lib.hid hM
  have HE := Lib.hid hlen
  have hq : ∃ q, decide (L = M) = q := ⟨_, rfl⟩
  obtain ⟨q, hq⟩ := hq
  rw [hq]
  have HQ := Lib.hid hq
  clear hq hL hM
  rw [← hlen] at h2 hmd ⊢
  clear hlen
  unfold maxLen at h1 h2
  have hb := bla (bla (Below.refl w.heap.size w) (.cells #[.slice a L.length c] 24)) (.cells #[.slice b L.length d] 24)
  have hbox := Lib.hid (two_boxes w a b L.length L.length c d)
  go_enter Try.func16, Try.ntmps16
  go_wp2
  go_loopw [5] (fun i wr => ∃ k : Nat, k ≤ L.length ∧ i = .int .i64 k ∧ Hid (L.take k = M.take k) ∧ Below w.heap.size w wr ∧ Hid (wr.cell? ⟨w.heap.size, 0, none⟩ = some (.slice a L.length c) ∧ wr.cell? ⟨w.heap.size + 1, 0, none⟩ = some (.slice b L.length d))) (fun i _ => L.length - (intOf i).toNat)
  case atStart => exact ⟨0, Nat.zero_le _, rfl, Lib.hid rfl, hb, hbox⟩
  case round =>
    obtain ⟨k, hk, rfl, HT, hBr, HB⟩ := hrel
    obtain ⟨x0, x1⟩ := HB.out
    by_cases hlt : k < L.length
    · have hltM : k < M.length := by rw [← HE.out]; exact hlt
      obtain ⟨b1, o1, rfl, hb1, hc1⟩ := HL.out.resolve_left (by intro e; rw [e] at hlt; simp at hlt)
      obtain ⟨b2, o2, rfl, hb2, hc2⟩ := HM.out.resolve_left (by intro e; rw [e] at hltM; simp at hltM)
      obtain ⟨p0, p1, p2, p3⟩ := (hc1 k hlt).below hBr hb1
      obtain ⟨q0, q1, q2, q3⟩ := (hc2 k hltM).below hBr hb2
      clear hc1 hc2
      have HS := Lib.hid (show L.take (k + 1) = L.take k ++ [L[k]] from List.take_succ_eq_append_getElem hlt)
      have HS2 := Lib.hid (show M.take (k + 1) = M.take k ++ [M[k]] from List.take_succ_eq_append_getElem hltM)
      have HX : Hid (L = M → L[k] = M[k]) := Lib.hid fun e => by subst e; rfl
      generalize L[k] = x at *
      generalize M[k] = y at *
      have HD := Lib.hid (rec_eqB x y)
      obtain ⟨t1, s1, s2, s3⟩ := x
      obtain ⟨t2, r1, r2, r3⟩ := y
      simp only at p0 p1 p2 p3 q0 q1 q2 q3
      have hD := HD.out
      simp only at hD
      cases hxy : decide ((⟨t1, s1, s2, s3⟩ : Rec) = ⟨t2, r1, r2, r3⟩) with
      | true =>
        rw [hxy] at hD
        have HXY := Lib.hid hxy
        clear hxy
        go_wp2_with fail
        go_quiet (fail)
        go_wp2
        go_roundw
        case rel => exact ⟨k + 1, by omega, by go_num, Lib.hid (by rw [HS.out, HS2.out, HT.out, of_decide_eq_true HXY.out]), blN hBr _, HB⟩
        case measure => simp [intOf]; omega
      | false =>
        rw [hxy] at hD
        have e : q = false := by
          rw [← HQ.out]
          simp only [decide_eq_false_iff_not]
          intro e
          exact of_decide_eq_false hxy (HX.out e)
        subst e
        clear hxy
        go_wp2_with fail
        go_quiet (fail)
        go_wp2
        go_ret
        exact ⟨rfl, blN hBr _⟩
    · have e : q = true := by
        rw [← HQ.out]
        have h := HT.out
        rw [List.take_of_length_le (by omega), List.take_of_length_le (by rw [← HE.out]; omega)] at h
        simp [h]
      subst e
      go_wp2
      go_ret
      exact ⟨rfl, hBr⟩
end Go.Proofs.Ytfheflihofafdaa
