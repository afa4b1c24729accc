/- For every number, every list of texts and every place CodecPrefixes returns true and leaves its arguments as they were: a proper beginning of an encoding is too short. No condition. -/
import Derived.Test.YtpkggijjjpefbaaLawRound
namespace Go.Proofs.Ytpkggijjjpefbaa
open Go.ChangeShapes Go.WideShapes Go.ChangeAt Go.RowKit
open Go.ChangeMaps (open_string shut_string)

theorem nats_begin (l : List Nat) (h : ∀ d ∈ l, d < 256) (k : Nat) : nats ((strN l).extract 0 k) = l.take k := by rw [nats_extract, List.drop_zero, nats_strN l h]
theorem begin_size (s : ByteArray) (k n : Nat) (h : s.size ≤ n) : (s.extract 0 k).size ≤ n := by rw [ByteArray.size_extract]; omega
theorem rem_nat (a b : Nat) : ((a : Int).tmod (b : Int)) = ((a % b : Nat) : Int) := (Int.ofNat_tmod a b).symm

set_option maxHeartbeats 1000000 in
theorem pref_great (z : Int) (L : List ByteArray) (v : Value) (i : Nat) (w : World) (hv : IsStrs w v L) (hs : ∀ s ∈ L, s.size ≤ maxLen) (hg : greatB L = true) : Calls Try.prog 9 #[.int .i64 z, v, .int .u16 i] w fun e w' => e = .returned (.bool true) ∧ Below w.heap.size w w' := by
  have HV := Lib.hid hv
  have HS := Lib.hid hs
  have HG := Lib.hid hg
  clear hv hs hg
  go_enter Try.func9, Try.ntmps9
  go_wp2_with fail
  ((with_reducible refine (great_any L v _ HV.out HS.out).mono ?_); rintro e w1 ⟨he, hb1⟩)
  rw [HG.out] at he
  subst he
  go_wp2_with fail
  ((with_reducible refine (awake_any _).mono ?_); rintro e w2 ⟨rfl, hb2⟩)
  go_wp2
  go_ret
  exact ⟨rfl, hb1.trans (hb2.mono hb1.size)⟩


set_option maxRecDepth 100000 in
set_option maxHeartbeats 4000000 in
theorem pref_good (z : Int) (L : List ByteArray) (v : Value) (i : Nat) (w : World) (hv : IsStrs w v L) (hs : ∀ s ∈ L, s.size ≤ maxLen) (hg : greatB L = false) (hi : i < 65536) (m : Nat) (hz : z = m) (hm : m ≤ 1099511627776) : Calls Try.prog 9 #[.int .i64 z, v, .int .u16 i] w fun e w' => e = .returned (.bool true) ∧ Below w.heap.size w w' := by
  obtain ⟨h20, h300⟩ := great_parts hg
  have H3 := Lib.hid (show ∀ s ∈ L, s.size ≤ 65536 from fun s h => by have := h300 s h; omega)
  subst hz
  obtain ⟨A, hA⟩ : ∃ A, A = strN (enc7 m) := ⟨_, rfl⟩
  have hle1 := enc6 m hm
  have hpos1 : 0 < (strN (enc7 m)).size := by rw [strN_size]; exact enc7_pos m
  have hsz1 : (strN (enc7 m)).size ≤ 6 := by rw [strN_size]; exact hle1
  have hlt1 : i % (strN (enc7 m)).size < (strN (enc7 m)).size := Nat.mod_lt _ hpos1
  have hrem1 : ((i : Int).tmod ((strN (enc7 m)).size : Int)) = ((i % (strN (enc7 m)).size : Nat) : Int) := rem_nat _ _
  have hg1 := short_int m (i % (strN (enc7 m)).size) hm (by rw [← strN_size]; exact hlt1)
  rw [← nats_begin _ (enc7_byte m)] at hg1
  rw [← hA] at hpos1 hsz1 hlt1 hrem1 hg1
  generalize i % A.size = j at hlt1 hrem1 hg1
  have HA := Lib.hid hA
  have HI := Lib.hid hg1
  clear hg1 hle1 hA
  have HV := Lib.hid hv
  have HS := Lib.hid hs
  have HG := Lib.hid hg
  obtain ⟨a, cap, rfl, hmax, hcap, hcells⟩ := hv
  have HC := Lib.hid hcells
  clear hs hg h300 hcells hmax
  have B0 := Below.refl w.heap.size w
  go_enter Try.func9, Try.ntmps9
  go_wp2_with fail
  ((with_reducible refine (great_any L _ _ HV.out HS.out).mono ?_); rintro e w1 ⟨he, hb1⟩)
  rw [HG.out] at he
  subst he
  have B1 := B0.trans (hb1.mono B0.size)
  clear hb1
  go_wp2_with fail
  ((with_reducible refine (putInt_good _ m rfl hm _).mono ?_); rintro e w2 ⟨he, hb2⟩)
  rw [← HA.out] at he
  subst he
  have B2 := B1.trans (hb2.mono B1.size)
  clear hb2
  go_wp2_with fail
  ((with_reducible refine (getInt_any _ _ _ _ HI.out _).mono ?_); rintro e w3 ⟨rfl, hb3⟩)
  have B3 := B2.trans (hb3.mono B2.size)
  clear hb3
  go_wp2
  clear hpos1 hsz1 hlt1 hrem1
  go_loopw [59] (fun s59 wr => ∃ k : Nat, k ≤ L.length ∧ s59 = .int .i64 k ∧ Below w.heap.size w wr) (fun s59 _ => L.length - (intOf s59).toNat)
  case atStart => exact ⟨0, by omega, rfl, B3⟩
  case round =>
    obtain ⟨k, hk, rfl, hB⟩ := hrel
    by_cases hlt : k < L.length
    · obtain ⟨b, off, rfl, hb, hcell⟩ := HC.out.resolve_left (by intro e; rw [e] at hlt; simp at hlt)
      have hc := (hB.cell (p := ⟨b, off + k, none⟩) hb).trans (hcell k hlt)
      have hsz := H3.out _ (List.getElem_mem hlt)
      generalize L[k] = s at hc hsz
      clear hcell
      obtain ⟨A2, hA2⟩ : ∃ A, A = strN (encT s) := ⟨_, rfl⟩
      have hle2 := encT_len s hsz
      have hpos2 : 0 < (strN (encT s)).size := by rw [strN_size]; exact encT_pos s
      have hsz2 : (strN (encT s)).size ≤ 65542 := by rw [strN_size]; exact hle2
      have hlt2 : i % (strN (encT s)).size < (strN (encT s)).size := Nat.mod_lt _ hpos2
      have hrem2 : ((i : Int).tmod ((strN (encT s)).size : Int)) = ((i % (strN (encT s)).size : Nat) : Int) := rem_nat _ _
      have hg2 := short_T _ s (i % (strN (encT s)).size) hsz (nats_begin _ (encT_byte s) _) (by rw [← strN_size]; exact hlt2)
      rw [← hA2] at hpos2 hsz2 hlt2 hrem2 hg2
      generalize i % A2.size = j2 at hlt2 hrem2 hg2
      have HA2 := Lib.hid hA2
      have HT := Lib.hid hg2
      have HM := Lib.hid (show (A2.extract 0 j2).size ≤ maxLen from Nat.le_trans (begin_size _ _ _ hsz2) (by unfold maxLen; omega))
      clear hg2 hle2 hA2
      go_wp2_with fail
      ((with_reducible refine (putText_good s hsz _).mono ?_); rintro e w5 ⟨he, hb5⟩)
      rw [← HA2.out] at he
      subst he
      have B5 := hB.trans (hb5.mono hB.size)
      clear hb5
      go_wp2_with fail
      ((with_reducible refine (getText_any _ HM.out _ _ _ HT.out _).mono ?_); rintro e w6 ⟨rfl, hb6⟩)
      have B6 := B5.trans (hb6.mono B5.size)
      clear hb6
      go_wp2
      go_roundw
      case rel => exact ⟨k + 1, by omega, by go_num, B6⟩
      case measure => simp [intOf]; omega
    · clear B0 B1 B2 B3
      obtain ⟨A2, hA2⟩ : ∃ A, A = strN (encTs L) := ⟨_, rfl⟩
      have hle2 := encTs_len L h20 H3.out
      have hpos2 : 0 < (strN (encTs L)).size := by rw [strN_size]; exact encTs_pos L
      have hsz2 : (strN (encTs L)).size ≤ 1310846 := by rw [strN_size]; exact hle2
      have hlt2 : i % (strN (encTs L)).size < (strN (encTs L)).size := Nat.mod_lt _ hpos2
      have hrem2 : ((i : Int).tmod ((strN (encTs L)).size : Int)) = ((i % (strN (encTs L)).size : Nat) : Int) := rem_nat _ _
      have hg2 := short_Ts L H3.out (by omega) _ (i % (strN (encTs L)).size) (nats_begin _ (encTs_byte L) _) (by rw [← strN_size]; exact hlt2)
      rw [← hA2] at hpos2 hsz2 hlt2 hrem2 hg2
      generalize i % A2.size = j2 at hlt2 hrem2 hg2
      have HA2 := Lib.hid hA2
      have HT := Lib.hid hg2
      have HM := Lib.hid (show (A2.extract 0 j2).size ≤ maxLen from Nat.le_trans (begin_size _ _ _ hsz2) (by unfold maxLen; omega))
      have VR := Lib.hid (HV.out.below hB (Nat.le_refl _))
      clear hg2 hle2 hA2
      go_wp2_with fail
      ((with_reducible refine (putTexts_good L (by omega) H3.out _ _ VR.out).mono ?_); rintro e w7 ⟨he, hb7⟩)
      rw [← HA2.out] at he
      subst he
      have B7 := hB.trans (hb7.mono hB.size)
      clear hb7
      go_wp2_with fail
      ((with_reducible refine (getTexts_any _ HM.out _ _ _ HT.out _).mono ?_); rintro e w8 ⟨v8, rfl, hv8, hb8⟩)
      have B8 := B7.trans (hb8.mono B7.size)
      obtain ⟨a8, c8, rfl, _, _, _⟩ := hv8
      clear hb8
      go_wp2_with fail
      ((with_reducible refine (awake_any _).mono ?_); rintro e w10 ⟨rfl, hb10⟩)
      go_wp2
      go_ret
      exact ⟨rfl, B8.trans (hb10.mono B8.size)⟩

set_option maxRecDepth 100000 in
set_option maxHeartbeats 4000000 in
theorem pref_bad (z : Int) (L : List ByteArray) (v : Value) (i : Nat) (w : World) (hv : IsStrs w v L) (hs : ∀ s ∈ L, s.size ≤ maxLen) (hg : greatB L = false) (hi : i < 65536) (hz : z < 0 ∨ 1099511627776 < z) : Calls Try.prog 9 #[.int .i64 z, v, .int .u16 i] w fun e w' => e = .returned (.bool true) ∧ Below w.heap.size w w' := by
  obtain ⟨h20, h300⟩ := great_parts hg
  have H3 := Lib.hid (show ∀ s ∈ L, s.size ≤ 65536 from fun s h => by have := h300 s h; omega)
  have HZ := Lib.hid hz
  clear hz
  have HV := Lib.hid hv
  have HS := Lib.hid hs
  have HG := Lib.hid hg
  obtain ⟨a, cap, rfl, hmax, hcap, hcells⟩ := hv
  have HC := Lib.hid hcells
  clear hs hg h300 hcells hmax
  have B0 := Below.refl w.heap.size w
  go_enter Try.func9, Try.ntmps9
  go_wp2_with fail
  ((with_reducible refine (great_any L _ _ HV.out HS.out).mono ?_); rintro e w1 ⟨he, hb1⟩)
  rw [HG.out] at he
  subst he
  have B1 := B0.trans (hb1.mono B0.size)
  clear hb1
  go_wp2_with fail
  ((with_reducible refine (putInt_bad z HZ.out _).mono ?_); rintro e w2 ⟨rfl, hb2⟩)
  have B2 := B1.trans (hb2.mono B1.size)
  clear hb2
  go_wp2
  clear HS
  go_loopw [59] (fun s59 wr => ∃ k : Nat, k ≤ L.length ∧ s59 = .int .i64 k ∧ Below w.heap.size w wr) (fun s59 _ => L.length - (intOf s59).toNat)
  case atStart => exact ⟨0, by omega, rfl, B2⟩
  case round =>
    obtain ⟨k, hk, rfl, hB⟩ := hrel
    by_cases hlt : k < L.length
    · obtain ⟨b, off, rfl, hb, hcell⟩ := HC.out.resolve_left (by intro e; rw [e] at hlt; simp at hlt)
      have hc := (hB.cell (p := ⟨b, off + k, none⟩) hb).trans (hcell k hlt)
      have hsz := H3.out _ (List.getElem_mem hlt)
      generalize L[k] = s at hc hsz
      clear hcell
      obtain ⟨A2, hA2⟩ : ∃ A, A = strN (encT s) := ⟨_, rfl⟩
      have hle2 := encT_len s hsz
      have hpos2 : 0 < (strN (encT s)).size := by rw [strN_size]; exact encT_pos s
      have hsz2 : (strN (encT s)).size ≤ 65542 := by rw [strN_size]; exact hle2
      have hlt2 : i % (strN (encT s)).size < (strN (encT s)).size := Nat.mod_lt _ hpos2
      have hrem2 : ((i : Int).tmod ((strN (encT s)).size : Int)) = ((i % (strN (encT s)).size : Nat) : Int) := rem_nat _ _
      have hg2 := short_T _ s (i % (strN (encT s)).size) hsz (nats_begin _ (encT_byte s) _) (by rw [← strN_size]; exact hlt2)
      rw [← hA2] at hpos2 hsz2 hlt2 hrem2 hg2
      generalize i % A2.size = j2 at hlt2 hrem2 hg2
      have HA2 := Lib.hid hA2
      have HT := Lib.hid hg2
      have HM := Lib.hid (show (A2.extract 0 j2).size ≤ maxLen from Nat.le_trans (begin_size _ _ _ hsz2) (by unfold maxLen; omega))
      clear hg2 hle2 hA2
      go_wp2_with fail
      ((with_reducible refine (putText_good s hsz _).mono ?_); rintro e w5 ⟨he, hb5⟩)
      rw [← HA2.out] at he
      subst he
      have B5 := hB.trans (hb5.mono hB.size)
      clear hb5
      go_wp2_with fail
      ((with_reducible refine (getText_any _ HM.out _ _ _ HT.out _).mono ?_); rintro e w6 ⟨rfl, hb6⟩)
      have B6 := B5.trans (hb6.mono B5.size)
      clear hb6
      go_wp2
      go_roundw
      case rel => exact ⟨k + 1, by omega, by go_num, B6⟩
      case measure => simp [intOf]; omega
    · clear B0 B1 B2 
      obtain ⟨A2, hA2⟩ : ∃ A, A = strN (encTs L) := ⟨_, rfl⟩
      have hle2 := encTs_len L h20 H3.out
      have hpos2 : 0 < (strN (encTs L)).size := by rw [strN_size]; exact encTs_pos L
      have hsz2 : (strN (encTs L)).size ≤ 1310846 := by rw [strN_size]; exact hle2
      have hlt2 : i % (strN (encTs L)).size < (strN (encTs L)).size := Nat.mod_lt _ hpos2
      have hrem2 : ((i : Int).tmod ((strN (encTs L)).size : Int)) = ((i % (strN (encTs L)).size : Nat) : Int) := rem_nat _ _
      have hg2 := short_Ts L H3.out (by omega) _ (i % (strN (encTs L)).size) (nats_begin _ (encTs_byte L) _) (by rw [← strN_size]; exact hlt2)
      rw [← hA2] at hpos2 hsz2 hlt2 hrem2 hg2
      generalize i % A2.size = j2 at hlt2 hrem2 hg2
      have HA2 := Lib.hid hA2
      have HT := Lib.hid hg2
      have HM := Lib.hid (show (A2.extract 0 j2).size ≤ maxLen from Nat.le_trans (begin_size _ _ _ hsz2) (by unfold maxLen; omega))
      have VR := Lib.hid (HV.out.below hB (Nat.le_refl _))
      clear hg2 hle2 hA2
      go_wp2_with fail
      ((with_reducible refine (putTexts_good L (by omega) H3.out _ _ VR.out).mono ?_); rintro e w7 ⟨he, hb7⟩)
      rw [← HA2.out] at he
      subst he
      have B7 := hB.trans (hb7.mono hB.size)
      clear hb7
      go_wp2_with fail
      ((with_reducible refine (getTexts_any _ HM.out _ _ _ HT.out _).mono ?_); rintro e w8 ⟨v8, rfl, hv8, hb8⟩)
      have B8 := B7.trans (hb8.mono B7.size)
      obtain ⟨a8, c8, rfl, _, _, _⟩ := hv8
      clear hb8
      go_wp2_with fail
      ((with_reducible refine (awake_any _).mono ?_); rintro e w10 ⟨rfl, hb10⟩)
      go_wp2
      go_ret
      exact ⟨rfl, B8.trans (hb10.mono B8.size)⟩

theorem pref_any (z : Int) (L : List ByteArray) (v : Value) (i : Nat) (w : World) (hv : IsStrs w v L) (hs : ∀ s ∈ L, s.size ≤ maxLen) (hi : i < 65536) : Calls Try.prog 9 #[.int .i64 z, v, .int .u16 i] w fun e w' => e = .returned (.bool true) ∧ Below w.heap.size w w' := by
  cases hg : greatB L
  · by_cases hz : z < 0 ∨ 1099511627776 < z
    · exact pref_bad z L v i w hv hs hg hi hz
    · exact pref_good z L v i w hv hs hg hi z.toNat (by omega) (by omega)
  · exact pref_great z L v i w hv hs hg

set_option maxRecDepth 100000 in
theorem pref_lifted (os : Os) (started : os.Started) (H : Type) (enc : TypeId × Value → H) :
    ReturnsInHanded {} Try.checked os 9 .any (Rows.codecPrefixesSpec.pre6 enc Try.prog Try.f9 Rows.codecPrefixesRow.domain false) (Rows.codecPrefixesSpec.post enc Try.prog Try.f9 false true false false) := by
  refine returnsInHanded_of_change (C := Try.checked) ownK started (by kernel_rfl) Try.func9
    (ChangeSpec.witness6 (enc := enc) (C := Try.checked) false ⟨#[], #[.int .i64 0, .slice none 0 0, .int .u16 0], []⟩ 8 (by kernel_rfl) (by kernel_rfl) (by kernel_rfl) (by kernel_rfl)) ?_
  intro W base args ds gs before hval0 hW hcnd _
  have hval : ∀ (j : Nat) t v, Try.f9.params[j]? = some t → args[j]? = some v → Value.okWide Try.prog W .any base t v := hval0
  have hW' := hW
  obtain ⟨p, q, hA0, hV, rfl, hfz, hnd⟩ := hW
  have hA : DataW.TrodAll enc Try.prog W 0 (fun _ => true) true Try.f9.params.toList args.toList ds p := hA0
  rw [Try.params9] at hA hval
  obtain ⟨v0, v1, v2, d0, d1, d2, p0, p1, p2, rfl, rfl, rfl, h0, h1, h2⟩ := trodAll_three hA
  obtain ⟨rfl, rfl⟩ := trodVars_none hV
  have k1 := h1
  have lt1 : ∀ x ∈ p1, x.block < W.heap.size := by obtain ⟨m, hm⟩ := k1; exact DataW.trod_lt m _ _ _ hm
  obtain ⟨z, rfl, rfl, rfl, w0⟩ := open_int Try.underlying3 (hval 0 3 v0 rfl rfl) h0
  obtain ⟨L, hL, hLs⟩ := open_texts (okWide_slice Try.underlying34 (hval 1 34 v1 rfl rfl)) h1
  obtain ⟨s, rfl, rfl, rfl, w2⟩ := open_int Try.underlying44 (hval 2 44 v2 rfl rfl) h2
  obtain ⟨i, rfl, hi⟩ : ∃ i : Nat, s = i ∧ i < 65536 := by
    have hw := w2
    simp [Lit.wf, IntKind.min, IntKind.max, IntKind.signed, IntKind.bits] at hw
    exact ⟨s.toNat, by omega, by omega⟩
  clear hA0 hval0
  refine (pref_any z L v1 i W hL hLs hi).mono fun e W' ⟨he, bel⟩ => ?_
  subst he
  exact ⟨_, rfl, _, _, _, [], _, [], hW', trodAll_mk1 (shut_bool Try.underlying4 _), (trodAll_cons_mk (shut_int Try.underlying3 w0) (trodAll_cons_mk (Below.trod laidOut (by kernel_rfl) (of_decide_eq_true (by kernel_rfl)) k1 bel lt1) (trodAll_cons_mk (shut_int Try.underlying44 w2) trodAll_mk0))), rfl, bel.frame _, fun h => by cases h⟩

theorem pref_holds : Rows.CodecPrefixesSaid :=
  OpenClaim.holds_of_wide 9 Try.f9 rfl rfl rfl rfl rfl rfl rfl ⟨rfl, rfl, rfl, rfl, rfl⟩ rfl rfl rfl rfl rfl (by kernel_rfl) Try.func9 (by kernel_rfl)
    (of_decide_eq_true (by kernel_rfl)) (by unfold Func.isWrapper; rw [if_neg (of_decide_eq_false (by kernel_rfl))]; exact ⟨rfl, rfl⟩)
    (fun os started H enc _ => pref_lifted os started H enc)
#print axioms pref_holds
end Go.Proofs.Ytpkggijjjpefbaa
