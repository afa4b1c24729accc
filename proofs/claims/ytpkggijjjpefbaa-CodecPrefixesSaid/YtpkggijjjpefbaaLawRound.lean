/- For every number, every list of texts and every rest CodecRoundTrip returns true and leaves its arguments as they were: what was put is got again, whatever stands behind it. No condition. -/
import Derived.Test.YtpkggijjjpefbaaLawLists
import Derived.Test.YtpkggijjjpefbaaBack
namespace Go.Proofs.Ytpkggijjjpefbaa
open Go.ChangeShapes Go.WideShapes Go.ChangeAt Go.RowKit
open Go.ChangeMaps (open_string shut_string)

theorem encTs_byte (L : List ByteArray) : ∀ d ∈ encTs L, d < 256 := by
  intro d hd
  rcases List.mem_append.1 hd with h | h
  · exact enc7_byte _ d h
  · obtain ⟨t, _, h⟩ := List.mem_flatMap.1 h
    exact encT_byte t d h
theorem encTs_len (L : List ByteArray) (h20 : L.length ≤ 20) (h : ∀ s ∈ L, s.size ≤ 65536) : (encTs L).length ≤ 1310846 := by
  have h1 := (enc7_len L.length 6 (by omega)).2 (by omega)
  have h2 := flat_len L h
  have h3 := Nat.mul_le_mul_right 65542 h20
  rw [encTs, List.length_append]
  omega
theorem encTs_pos (L : List ByteArray) : 0 < (encTs L).length := by have := enc7_pos L.length; rw [encTs, List.length_append]; omega

set_option maxHeartbeats 1000000 in
theorem round_great (z : Int) (L : List ByteArray) (v : Value) (r : ByteArray) (w : World) (hv : IsStrs w v L) (hs : ∀ s ∈ L, s.size ≤ maxLen) (hg : greatB L = true) : Calls Try.prog 6 #[.int .i64 z, v, .string r] w fun e w' => e = .returned (.bool true) ∧ Below w.heap.size w w' := by
  have HV := Lib.hid hv
  have HS := Lib.hid hs
  have HG := Lib.hid hg
  clear hv hs hg
  go_enter Try.func6, Try.ntmps6
  go_wp2_with fail
  ((with_reducible refine (great_any L v _ HV.out HS.out).mono ?_); rintro e w1 ⟨he, hb1⟩)
  rw [HG.out] at he
  subst he
  go_wp2_with fail
  ((with_reducible refine (awake_any _).mono ?_); rintro e w2 ⟨rfl, hb2⟩)
  go_wp2
  go_ret
  exact ⟨rfl, hb1.trans (hb2.mono hb1.size)⟩

set_option maxHeartbeats 1000000 in
theorem round_long (z : Int) (L : List ByteArray) (v : Value) (r : ByteArray) (w : World) (hv : IsStrs w v L) (hs : ∀ s ∈ L, s.size ≤ maxLen) (hg : greatB L = false) (hl : 300 < r.size) (hm : r.size ≤ maxLen) : Calls Try.prog 6 #[.int .i64 z, v, .string r] w fun e w' => e = .returned (.bool true) ∧ Below w.heap.size w w' := by
  unfold maxLen at hm
  have hp : (300 : Int) < r.size := by omega
  have HV := Lib.hid hv
  have HS := Lib.hid hs
  have HG := Lib.hid hg
  clear hv hs hg
  go_enter Try.func6, Try.ntmps6
  go_wp2_with fail
  ((with_reducible refine (great_any L v _ HV.out HS.out).mono ?_); rintro e w1 ⟨he, hb1⟩)
  rw [HG.out] at he
  subst he
  go_wp2_with fail
  ((with_reducible refine (awake_any _).mono ?_); rintro e w2 ⟨rfl, hb2⟩)
  go_wp2
  go_ret
  exact ⟨rfl, hb1.trans (hb2.mono hb1.size)⟩


set_option maxRecDepth 100000 in
set_option maxHeartbeats 4000000 in
theorem round_good (z : Int) (L : List ByteArray) (v : Value) (r : ByteArray) (w : World) (hv : IsStrs w v L) (hs : ∀ s ∈ L, s.size ≤ maxLen) (hg : greatB L = false) (hl : r.size ≤ 300) (m : Nat) (hz : z = m) (hm : m ≤ 1099511627776) : Calls Try.prog 6 #[.int .i64 z, v, .string r] w fun e w' => e = .returned (.bool true) ∧ Below w.heap.size w w' := by
  obtain ⟨h20, h300⟩ := great_parts hg
  have hp : ¬ (300 : Int) < r.size := by omega
  have H3 := Lib.hid (show ∀ s ∈ L, s.size ≤ 65536 from fun s h => by have := h300 s h; omega)
  subst hz
  have hi := back_int m hm (nats r)
  rw [← nats_strN' _ (enc7_byte m) r] at hi
  have l1 := enc6 m hm
  have z1 := strN_size (enc7 m)
  have p1 : (strN (enc7 m)).size ≤ 6 := by omega
  have q1 : (((enc7 m).length : Int) == ((strN (enc7 m)).size : Int)) = true := by simp [z1]
  have q2 : (((enc7 m).length : Int) != ((strN (enc7 m)).size : Int)) = false := by simp [z1]
  have HI := Lib.hid hi
  clear hi l1 z1
  have HV := Lib.hid hv
  have HS := Lib.hid hs
  have HG := Lib.hid hg
  obtain ⟨a, cap, rfl, hmax, hcap, hcells⟩ := hv
  have HC := Lib.hid hcells
  clear hs hg h300 hcells hmax
  have B0 := Below.refl w.heap.size w
  go_enter Try.func6, Try.ntmps6
  go_wp2_with fail
  ((with_reducible refine (great_any L _ _ HV.out HS.out).mono ?_); rintro e w1 ⟨he, hb1⟩)
  rw [HG.out] at he
  subst he
  have B1 := B0.trans (hb1.mono B0.size)
  clear hb1
  go_wp2_with fail
  ((with_reducible refine (putInt_good _ m rfl hm _).mono ?_); rintro e w2 ⟨rfl, hb2⟩)
  have B2 := B1.trans (hb2.mono B1.size)
  clear hb2
  go_wp2_with fail
  ((with_reducible refine (getInt_any _ _ _ _ HI.out _).mono ?_); rintro e w3 ⟨rfl, hb3⟩)
  have B3 := B2.trans (hb3.mono B2.size)
  clear hb3
  go_wp2
  go_loopw [62] (fun s62 wr => ∃ k : Nat, k ≤ L.length ∧ s62 = .int .i64 k ∧ Below w.heap.size w wr) (fun s62 _ => L.length - (intOf s62).toNat)
  case atStart => exact ⟨0, by omega, rfl, B3⟩
  case round =>
    obtain ⟨k, hk, rfl, hB⟩ := hrel
    by_cases hlt : k < L.length
    · obtain ⟨b, off, rfl, hb, hcell⟩ := HC.out.resolve_left (by intro e; rw [e] at hlt; simp at hlt)
      have hc := (hB.cell (p := ⟨b, off + k, none⟩) hb).trans (hcell k hlt)
      have hsz := H3.out _ (List.getElem_mem hlt)
      generalize L[k] = s at hc hsz
      clear hcell
      have hel := encT_len s hsz
      have z2 := strN_size (encT s)
      have p3 : (strN (encT s)).size ≤ 65542 := by omega
      have q3 : (((encT s).length : Int) == ((strN (encT s)).size : Int)) = true := by simp [z2]
      have q4 : (((encT s).length : Int) != ((strN (encT s)).size : Int)) = false := by simp [z2]
      have ht := getT_of (strN (encT s) ++ r) s (nats r) hsz (nats_strN' _ (encT_byte s) r)
      have HT := Lib.hid ht
      have HM := Lib.hid (show (strN (encT s) ++ r).size ≤ maxLen by rw [ByteArray.size_append]; unfold maxLen; omega)
      clear ht hel z2
      go_wp2_with fail
      ((with_reducible refine (putText_good s hsz _).mono ?_); rintro e w5 ⟨rfl, hb5⟩)
      have B5 := hB.trans (hb5.mono hB.size)
      clear hb5
      go_wp2_with fail
      ((with_reducible refine (getText_any _ HM.out _ _ _ HT.out _).mono ?_); rintro e w6 ⟨rfl, hb6⟩)
      have B6 := B5.trans (hb6.mono B5.size)
      clear hb6
      go_wp2
      go_roundw
      case rel => exact ⟨k + 1, by omega, by go_num, B6⟩
      case measure => simp [intOf]; omega
    · clear B0 B1 B2 B3
      have hel := encTs_len L h20 H3.out
      have z2 := strN_size (encTs L)
      have p3 : (strN (encTs L)).size ≤ 1310846 := by omega
      have q3 : (((encTs L).length : Int) == ((strN (encTs L)).size : Int)) = true := by simp [z2]
      have q4 : (((encTs L).length : Int) != ((strN (encTs L)).size : Int)) = false := by simp [z2]
      have HT := Lib.hid (getTs_of L H3.out (by omega) (strN (encTs L) ++ r) (nats r) (nats_strN' _ (encTs_byte L) r))
      have HM := Lib.hid (show (strN (encTs L) ++ r).size ≤ maxLen by rw [ByteArray.size_append]; unfold maxLen; omega)
      have VR := Lib.hid (HV.out.below hB (Nat.le_refl _))
      clear hel z2
      go_wp2_with fail
      ((with_reducible refine (putTexts_good L (by omega) H3.out _ _ VR.out).mono ?_); rintro e w7 ⟨rfl, hb7⟩)
      have B7 := hB.trans (hb7.mono hB.size)
      clear hb7
      go_wp2_with fail
      ((with_reducible refine (getTexts_any _ HM.out _ _ _ HT.out _).mono ?_); rintro e w8 ⟨v8, rfl, hv8, hb8⟩)
      have B8 := B7.trans (hb8.mono B7.size)
      have V8 := Lib.hid hv8
      have V1 := Lib.hid (HV.out.below B8 (Nat.le_refl _))
      clear hb8 hv8
      go_wp2_with fail
      ((with_reducible refine (same_any L _ _ _ V8.out V1.out).mono ?_); rintro e w9 ⟨rfl, hb9⟩)
      have B9 := B8.trans (hb9.mono B8.size)
      clear hb9
      go_wp2_with fail
      ((with_reducible refine (awake_any _).mono ?_); rintro e w10 ⟨rfl, hb10⟩)
      go_wp2
      go_ret
      exact ⟨rfl, B9.trans (hb10.mono B9.size)⟩

set_option maxRecDepth 100000 in
set_option maxHeartbeats 4000000 in
theorem round_bad (z : Int) (L : List ByteArray) (v : Value) (r : ByteArray) (w : World) (hv : IsStrs w v L) (hs : ∀ s ∈ L, s.size ≤ maxLen) (hg : greatB L = false) (hl : r.size ≤ 300) (hz : z < 0 ∨ 1099511627776 < z) : Calls Try.prog 6 #[.int .i64 z, v, .string r] w fun e w' => e = .returned (.bool true) ∧ Below w.heap.size w w' := by
  obtain ⟨h20, h300⟩ := great_parts hg
  have hp : ¬ (300 : Int) < r.size := by omega
  have H3 := Lib.hid (show ∀ s ∈ L, s.size ≤ 65536 from fun s h => by have := h300 s h; omega)
  have HZ := Lib.hid hz
  clear hz
  have HV := Lib.hid hv
  have HS := Lib.hid hs
  have HG := Lib.hid hg
  obtain ⟨a, cap, rfl, hmax, hcap, hcells⟩ := hv
  have HC := Lib.hid hcells
  clear hs hg h300 hcells hmax
  have B0 := Below.refl w.heap.size w
  go_enter Try.func6, Try.ntmps6
  go_wp2_with fail
  ((with_reducible refine (great_any L _ _ HV.out HS.out).mono ?_); rintro e w1 ⟨he, hb1⟩)
  rw [HG.out] at he
  subst he
  have B1 := B0.trans (hb1.mono B0.size)
  clear hb1
  go_wp2_with fail
  ((with_reducible refine (putInt_bad z HZ.out _).mono ?_); rintro e w2 ⟨rfl, hb2⟩)
  have B2 := B1.trans (hb2.mono B1.size)
  clear hb2
  go_wp2
  go_loopw [62] (fun s62 wr => ∃ k : Nat, k ≤ L.length ∧ s62 = .int .i64 k ∧ Below w.heap.size w wr) (fun s62 _ => L.length - (intOf s62).toNat)
  case atStart => exact ⟨0, by omega, rfl, B2⟩
  case round =>
    obtain ⟨k, hk, rfl, hB⟩ := hrel
    by_cases hlt : k < L.length
    · obtain ⟨b, off, rfl, hb, hcell⟩ := HC.out.resolve_left (by intro e; rw [e] at hlt; simp at hlt)
      have hc := (hB.cell (p := ⟨b, off + k, none⟩) hb).trans (hcell k hlt)
      have hsz := H3.out _ (List.getElem_mem hlt)
      generalize L[k] = s at hc hsz
      clear hcell
      have hel := encT_len s hsz
      have z2 := strN_size (encT s)
      have p3 : (strN (encT s)).size ≤ 65542 := by omega
      have q3 : (((encT s).length : Int) == ((strN (encT s)).size : Int)) = true := by simp [z2]
      have q4 : (((encT s).length : Int) != ((strN (encT s)).size : Int)) = false := by simp [z2]
      have ht := getT_of (strN (encT s) ++ r) s (nats r) hsz (nats_strN' _ (encT_byte s) r)
      have HT := Lib.hid ht
      have HM := Lib.hid (show (strN (encT s) ++ r).size ≤ maxLen by rw [ByteArray.size_append]; unfold maxLen; omega)
      clear ht hel z2
      go_wp2_with fail
      ((with_reducible refine (putText_good s hsz _).mono ?_); rintro e w5 ⟨rfl, hb5⟩)
      have B5 := hB.trans (hb5.mono hB.size)
      clear hb5
      go_wp2_with fail
      ((with_reducible refine (getText_any _ HM.out _ _ _ HT.out _).mono ?_); rintro e w6 ⟨rfl, hb6⟩)
      have B6 := B5.trans (hb6.mono B5.size)
      clear hb6
      go_wp2
      go_roundw
      case rel => exact ⟨k + 1, by omega, by go_num, B6⟩
      case measure => simp [intOf]; omega
    · clear B0 B1 B2 
      have hel := encTs_len L h20 H3.out
      have z2 := strN_size (encTs L)
      have p3 : (strN (encTs L)).size ≤ 1310846 := by omega
      have q3 : (((encTs L).length : Int) == ((strN (encTs L)).size : Int)) = true := by simp [z2]
      have q4 : (((encTs L).length : Int) != ((strN (encTs L)).size : Int)) = false := by simp [z2]
      have HT := Lib.hid (getTs_of L H3.out (by omega) (strN (encTs L) ++ r) (nats r) (nats_strN' _ (encTs_byte L) r))
      have HM := Lib.hid (show (strN (encTs L) ++ r).size ≤ maxLen by rw [ByteArray.size_append]; unfold maxLen; omega)
      have VR := Lib.hid (HV.out.below hB (Nat.le_refl _))
      clear hel z2
      go_wp2_with fail
      ((with_reducible refine (putTexts_good L (by omega) H3.out _ _ VR.out).mono ?_); rintro e w7 ⟨rfl, hb7⟩)
      have B7 := hB.trans (hb7.mono hB.size)
      clear hb7
      go_wp2_with fail
      ((with_reducible refine (getTexts_any _ HM.out _ _ _ HT.out _).mono ?_); rintro e w8 ⟨v8, rfl, hv8, hb8⟩)
      have B8 := B7.trans (hb8.mono B7.size)
      have V8 := Lib.hid hv8
      have V1 := Lib.hid (HV.out.below B8 (Nat.le_refl _))
      clear hb8 hv8
      go_wp2_with fail
      ((with_reducible refine (same_any L _ _ _ V8.out V1.out).mono ?_); rintro e w9 ⟨rfl, hb9⟩)
      have B9 := B8.trans (hb9.mono B8.size)
      clear hb9
      go_wp2_with fail
      ((with_reducible refine (awake_any _).mono ?_); rintro e w10 ⟨rfl, hb10⟩)
      go_wp2
      go_ret
      exact ⟨rfl, B9.trans (hb10.mono B9.size)⟩

theorem round_any (z : Int) (L : List ByteArray) (v : Value) (r : ByteArray) (w : World) (hv : IsStrs w v L) (hs : ∀ s ∈ L, s.size ≤ maxLen) (hm : r.size ≤ maxLen) : Calls Try.prog 6 #[.int .i64 z, v, .string r] w fun e w' => e = .returned (.bool true) ∧ Below w.heap.size w w' := by
  cases hg : greatB L
  · rcases Nat.lt_or_ge 300 r.size with h | h
    · exact round_long z L v r w hv hs hg h hm
    · by_cases hz : z < 0 ∨ 1099511627776 < z
      · exact round_bad z L v r w hv hs hg h hz
      · exact round_good z L v r w hv hs hg h z.toNat (by omega) (by omega)
  · exact round_great z L v r w hv hs hg

set_option maxRecDepth 100000 in
theorem round_lifted (os : Os) (started : os.Started) (H : Type) (enc : TypeId × Value → H) :
    ReturnsInHanded {} Try.checked os 6 .any (Rows.codecRoundTripSpec.pre6 enc Try.prog Try.f6 Rows.codecRoundTripRow.domain false) (Rows.codecRoundTripSpec.post enc Try.prog Try.f6 false true false false) := by
  refine returnsInHanded_of_change (C := Try.checked) ownK started (by kernel_rfl) Try.func6
    (ChangeSpec.witness6 (enc := enc) (C := Try.checked) false ⟨#[], #[.int .i64 0, .slice none 0 0, .string ⟨#[]⟩], []⟩ 8 (by kernel_rfl) (by kernel_rfl) (by kernel_rfl) (by kernel_rfl)) ?_
  intro W base args ds gs before hval0 hW hcnd _
  have hval : ∀ (j : Nat) t v, Try.f6.params[j]? = some t → args[j]? = some v → Value.okWide Try.prog W .any base t v := hval0
  have hW' := hW
  obtain ⟨p, q, hA0, hV, rfl, hfz, hnd⟩ := hW
  have hA : DataW.TrodAll enc Try.prog W 0 (fun _ => true) true Try.f6.params.toList args.toList ds p := hA0
  rw [Try.params6] at hA hval
  obtain ⟨v0, v1, v2, d0, d1, d2, p0, p1, p2, rfl, rfl, rfl, h0, h1, h2⟩ := trodAll_three hA
  obtain ⟨rfl, rfl⟩ := trodVars_none hV
  have k1 := h1
  have lt1 : ∀ x ∈ p1, x.block < W.heap.size := by obtain ⟨m, hm⟩ := k1; exact DataW.trod_lt m _ _ _ hm
  obtain ⟨z, rfl, rfl, rfl, w0⟩ := open_int Try.underlying3 (hval 0 3 v0 rfl rfl) h0
  obtain ⟨L, hL, hLs⟩ := open_texts (okWide_slice Try.underlying34 (hval 1 34 v1 rfl rfl)) h1
  obtain ⟨s, rfl, rfl, rfl, w2⟩ := open_string Try.underlying9 (hval 2 9 v2 rfl rfl) h2
  clear hA0 hval0
  refine (round_any z L v1 s W hL hLs w2).mono fun e W' ⟨he, bel⟩ => ?_
  subst he
  exact ⟨_, rfl, _, _, _, [], _, [], hW', trodAll_mk1 (shut_bool Try.underlying4 _), (trodAll_cons_mk (shut_int Try.underlying3 w0) (trodAll_cons_mk (Below.trod laidOut (by kernel_rfl) (of_decide_eq_true (by kernel_rfl)) k1 bel lt1) (trodAll_cons_mk (shut_string Try.underlying9 w2) trodAll_mk0))), rfl, bel.frame _, fun h => by cases h⟩

theorem round_holds : Rows.CodecRoundTripSaid :=
  OpenClaim.holds_of_wide 6 Try.f6 rfl rfl rfl rfl rfl rfl rfl ⟨rfl, rfl, rfl, rfl, rfl⟩ rfl rfl rfl rfl rfl (by kernel_rfl) Try.func6 (by kernel_rfl)
    (of_decide_eq_true (by kernel_rfl)) (by unfold Func.isWrapper; rw [if_neg (of_decide_eq_false (by kernel_rfl))]; exact ⟨rfl, rfl⟩)
    (fun os started H enc _ => round_lifted os started H enc)
#print axioms round_holds
end Go.Proofs.Ytpkggijjjpefbaa
