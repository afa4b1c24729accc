/- For every list of integers CodecConcatenation returns true and leaves it as it was: the encodings of several numbers, one after the other, are read as the same numbers. No condition. -/
import Derived.Test.YtpkggijjjpefbaaOpen
import Derived.Test.YtpkggijjjpefbaaText
namespace Go.Proofs.Ytpkggijjjpefbaa
open Go.ChangeShapes Go.WideShapes Go.ChangeAt Go.RowKit

/-- The numbers that have an encoding. -/
def goodOf (z : Int) : Option Nat := if 0 ≤ z ∧ z ≤ 1099511627776 then some z.toNat else none
def goods (L : List Int) : List Nat := L.filterMap goodOf
theorem goods_len (L : List Int) : (goods L).length ≤ L.length := List.length_filterMap_le _ _
theorem goods_max (L : List Int) : ∀ n ∈ goods L, n ≤ 1099511627776 := by
  intro n hn
  obtain ⟨z, _, hz⟩ := List.mem_filterMap.1 hn
  unfold goodOf at hz
  split at hz
  · cases hz; omega
  · cases hz
theorem goods_snoc (L : List Int) (z : Int) : goods (L ++ [z]) = goods L ++ (match goodOf z with | some n => [n] | none => []) := by
  simp only [goods, List.filterMap_append]
  congr 1
  cases h : goodOf z <;> simp [h]
abbrev encAll (G : List Nat) : List Nat := G.flatMap enc7
theorem encAll_snoc (G : List Nat) (n : Nat) : encAll (G ++ [n]) = encAll G ++ enc7 n := by simp [encAll]
theorem encAll_len (G : List Nat) (h : ∀ n ∈ G, n ≤ 1099511627776) : (encAll G).length ≤ G.length * 6 := by
  induction G with
  | nil => simp
  | cons n G ih =>
    have h1 := (enc7_len n 6 (by omega)).2 (by have := h n (by simp); omega)
    have h2 := ih fun m hm => h m (by simp [hm])
    simp only [encAll, List.flatMap_cons, List.length_append, List.length_cons, Nat.add_mul] at h2 ⊢
    omega
theorem enc_byte (G : List Nat) : ∀ d ∈ encAll G, d < 256 := by
  intro d hd
  obtain ⟨n, _, h⟩ := List.mem_flatMap.1 hd
  exact enc7_byte n d h
theorem strN_drop (a b : List Nat) (k : Nat) (hk : k = a.length) : (strN (a ++ b)).extract k (strN (a ++ b)).size = strN b := by
  subst hk
  apply ByteArray.ext
  simp [strN, ByteArray.data_extract, ByteArray.size]
  exact List.take_of_length_le (by simp)
abbrev natCells (G : List Nat) : List Value := G.map fun n : Nat => .int .i64 (n : Int)
theorem info3 : (Try.prog.info? 3).map (fun i => (i.zero, i.size, i.bytes)) = some (some (.int .i64 0), 1, 8) := by kernel_rfl

set_option maxHeartbeats 1000000 in
theorem conc_long (a : Option Addr) (len cap : Nat) (h : 20 < len) (hm : len ≤ maxLen) (w : World) : Calls Try.prog 10 #[.slice a len cap] w fun e w' => e = .returned (.bool true) ∧ Below w.heap.size w w' := by
  unfold maxLen at hm
  have hp : (20 : Int) < len := by omega
  go_enter Try.func10, Try.ntmps10
  go_wp2_with fail
  ((with_reducible refine (awake_any _).mono ?_); rintro e w1 ⟨rfl, hb1⟩)
  go_wp2
  go_ret
  exact ⟨rfl, hb1⟩

set_option maxRecDepth 100000 in
set_option maxHeartbeats 4000000 in
theorem conc_short (L : List Int) (hL : L.length ≤ 20) (v : Value) (w : World) (hv : IsInts w v L) : Calls Try.prog 10 #[v] w fun e w' => e = .returned (.bool true) ∧ Below w.heap.size w w' := by
  obtain ⟨a, cap, rfl, hmax, hcap, hcells⟩ := hv
  obtain ⟨i0, hi, hz0, hz1, hz2⟩ := info_parts info3
  have HC := Lib.hid hcells
  clear hcells hmax
  have hp : ¬ (20 : Int) < L.length := by omega
  have row0 : (w.alloc (.cells #[] 3)).ownsRow w.heap.size 3 1 (.slice (some ⟨w.heap.size, 0, none⟩) 0 0) 0 [] := World.ownsRow_made w #[] 0 (Nat.le_refl _) (Nat.zero_le _) rfl
  have B0 := (Below.refl w.heap.size w).alloc (Nat.le_refl _) (.cells #[] 3)
  go_enter Try.func10, Try.ntmps10
  go_wp2
  go_loopw [3, 4, 21] (fun s3 s4 s21 wr => ∃ (j : Nat) (A : ByteArray) (v' : Value) (k : Nat) (G : List Nat), j ≤ L.length ∧ k ≤ 20 ∧ A.size ≤ 120 ∧ s3 = .string A ∧ s4 = v' ∧ s21 = .int .i64 j ∧ Hid (G = goods (L.take j)) ∧ Hid (k = G.length) ∧ Hid (A = strN (encAll G)) ∧
      wr.ownsRow w.heap.size 3 1 v' k (natCells G) ∧ (∃ g c, v' = .slice (some ⟨g, 0, none⟩) k c) ∧ Below w.heap.size w wr) (fun _ _ s21 _ => L.length - (intOf s21).toNat)
  case atStart => exact ⟨0, ⟨#[]⟩, _, 0, [], Nat.zero_le _, by omega, Nat.zero_le _, rfl, rfl, rfl, rfl, rfl, rfl, row0, ⟨_, _, rfl⟩, B0⟩
  case round =>
    obtain ⟨j, A, v', k, G, hj, hk, hA, rfl, rfl, rfl, hG, hkG, hAG, hrow, ⟨g, c, rfl⟩, hB⟩ := hrel
    by_cases hlt : j < L.length
    · obtain ⟨b, off, rfl, hb, hcell⟩ := HC.out.resolve_left (by intro e; rw [e] at hlt; simp at hlt)
      have hc := (hB.cell (p := ⟨b, off + j, none⟩) hb).trans (hcell j hlt)
      have htake : goods (L.take (j + 1)) = goods (L.take j) ++ (match goodOf L[j] with | some n => [n] | none => []) := by
        rw [List.take_succ_eq_append_getElem hlt, goods_snoc]
      have hgl : (goods (L.take (j + 1))).length ≤ 20 := Nat.le_trans (goods_len _) (by rw [List.length_take]; omega)
      have hgm := goods_max (L.take (j + 1))
      have HT := Lib.hid htake
      have HL := Lib.hid hgl
      have HM := Lib.hid hgm
      generalize L[j] = z at hc HT
      clear hcell htake hgl hgm
      by_cases hz : z < 0 ∨ 1099511627776 < z
      · have hgz : goodOf z = none := by unfold goodOf; rw [if_neg (by omega)]
        have HT2 : Hid (G = goods (L.take (j + 1))) := Lib.hid (by rw [HT.out, hgz, List.append_nil]; exact hG)
        have HZ := Lib.hid hz
        clear hz hgz
        go_wp2_with fail
        ((with_reducible refine (putInt_bad z HZ.out _).mono ?_); rintro e w2 ⟨rfl, hb2⟩)
        have hrow2 := own_kept hrow hb2
        have hB2 := hB.trans (hb2.mono hB.size)
        go_wp2
        go_roundw
        case rel => exact ⟨j + 1, A, _, k, G, by omega, hk, hA, rfl, rfl, by go_num, HT2, hkG, hAG, hrow2, ⟨_, _, rfl⟩, hB2⟩
        case measure => simp [intOf]; omega
      · obtain ⟨n, hn⟩ : ∃ n : Nat, z = n := ⟨z.toNat, by omega⟩
        have hgz : goodOf z = some n := by unfold goodOf; rw [if_pos (by omega), hn]; simp
        have HT2 : Hid (G ++ [n] = goods (L.take (j + 1))) := Lib.hid (by rw [HT.out, hgz, hG.out])
        have hk1 : k + 1 ≤ 20 := by
          have h1 := HL.out
          rw [← HT2.out, List.length_append, List.length_singleton] at h1
          have := hkG.out
          omega
        have hnm : n ≤ 1099511627776 := by omega
        have hsz := strN_size (enc7 n)
        have hsz2 : (strN (enc7 n)).size ≤ 6 := by rw [hsz]; exact (enc7_len n 6 (by omega)).2 (by omega)
        have hA2 : Hid (A ++ strN (enc7 n) = strN (encAll (G ++ [n]))) := Lib.hid (by rw [encAll_snoc, strN_append, hAG.out])
        have hA3 : Hid ((A ++ strN (enc7 n)).size ≤ 120) := Lib.hid (by
          rw [hA2.out, strN_size]
          have h1 := encAll_len (G ++ [n]) (by rw [HT2.out]; exact HM.out)
          have h2 := HL.out
          rw [← HT2.out] at h2
          omega)
        have HZ := Lib.hid hn
        have hzp : 0 ≤ z := by omega
        clear hz hgz hsz hn
        go_wp2_with fail
        ((with_reducible refine (putInt_good z n HZ.out hnm _).mono ?_); rintro e w2 ⟨rfl, hb2⟩)
        have hrow2 := own_kept hrow hb2
        have hB2 := hB.trans (hb2.mono hB.size)
        go_wp2_with (at_builtin; refine wpList_append_own _ rfl _ _ 46 rfl w.heap.size 3 i0 (.int .i64 0) 1 8 Try.underlying46 hi hz0 hz1 hz2 rfl (by decide) _ _ _ rfl (hrow2.alloc _) ⟨w2.heap.size, 0, none⟩ 1 1 [.int .i64 z] rfl rfl (cell_one_new _ _ _) (by intro u hu; simp at hu; subst hu; rfl) (by unfold maxLen; omega) (by omega) (by have := hB2.size; simp; omega) ?_; intro v2 w3 hown' hgrow _; obtain ⟨g', cap', rfl⟩ := ownsRow_succ hown'; have hB3 := (hB2.alloc hB2.size _).grown hgrow (by have := hB2.size; simp; omega) (fun k hk => (hrow2.lt k hk).1); have hown3 := Lib.hid hown'; clear hgrow hown')
        go_roundw
        case rel =>
          refine ⟨j + 1, A ++ strN (enc7 n), _, k + 1, G ++ [n], by omega, hk1, hA3.out, rfl, rfl, by go_num, HT2, Lib.hid (by rw [List.length_append, List.length_singleton, hkG.out]), hA2, ?_, ⟨_, _, rfl⟩, hB3⟩
          have := hown3.out
          rw [HZ.out] at this
          simpa [natCells] using this
        case measure => simp [intOf]; omega
    · have hGm : ∀ n ∈ G, n ≤ 1099511627776 := by rw [hG.out]; exact goods_max _
      have HGm := Lib.hid hGm
      clear hGm
      have hlen2 : k = G.length := hkG
      have hcw : ∀ i (h : i < G.length), wr.cell? ⟨g, i, none⟩ = some (.int .i64 (G[i] : Nat)) := fun i h => by
        have := hrow.cells (g := g) rfl i (.int .i64 (G[i] : Nat)) (by simp [natCells, h])
        rcases Nat.eq_zero_or_pos i with rfl | h0
        · simpa [Addr.add] using this
        · simpa [Addr.add, show i ≠ 0 by omega] using this
      have hglt := (hrow.lt g rfl).2
      have HCW := Lib.hid hcw
      have hkc : k ≤ c := by
        rcases hrow.2 with ⟨h0, _⟩ | ⟨g2, cap2, cur, h0, _, _, h3, _⟩
        · cases h0
        · cases h0; exact h3
      clear hrow hcw hlen2
      go_wp2
      go_loopw [3, 42] (fun s3 s42 w3 => ∃ (i : Nat) (A : ByteArray), i ≤ k ∧ A.size ≤ 120 ∧ s3 = .string A ∧ s42 = .int .i64 i ∧ Hid (A = strN (encAll (G.drop i))) ∧ Below wr.heap.size wr w3) (fun _ s42 _ => k - (intOf s42).toNat)
      case atStart => exact ⟨0, A, Nat.zero_le _, hA, rfl, rfl, Lib.hid (by rw [hAG.out, List.drop_zero]), Below.refl _ _⟩
      case round =>
        clear hAG hA
        obtain ⟨i, A, hi, hA, rfl, rfl, hAG, hB2⟩ := hrel
        by_cases hlt : i < k
        · have hig : i < G.length := by have := hkG.out; omega
          have hc := (hB2.cell (p := ⟨g, i, none⟩) hglt).trans (HCW.out i hig)
          have hAn : A = strN (enc7 G[i] ++ encAll (G.drop (i + 1))) := by rw [hAG.out, List.drop_eq_getElem_cons hig, encAll, List.flatMap_cons]
          have hnm := HGm.out _ (List.getElem_mem hig)
          generalize G[i] = n at hc hAn hnm
          have hbytes : ∀ d ∈ enc7 n ++ encAll (G.drop (i + 1)), d < 256 := by
            intro d hd
            rcases List.mem_append.1 hd with h | h
            · exact enc7_byte n d h
            · exact enc_byte _ d h
          have hget : getL 12 13 6 0 0 (nats A) = (n, (enc7 n).length, 0) := by
            rw [hAn, nats_strN _ hbytes, getL_enc 12 13 n 0 0 _ 6 ((enc7_len n 6 (by omega)).2 (by omega)) (by omega) (by simpa using hnm)]
            simp
          have hsz : (enc7 n).length ≤ A.size := by rw [hAn, strN_size]; simp
          have hpos := enc7_pos n
          have hex : A.extract (enc7 n).length A.size = strN (encAll (G.drop (i + 1))) := by rw [hAn]; exact strN_drop _ _ _ rfl
          have hex2 : (A.extract (enc7 n).length A.size).size ≤ 120 := by rw [hex, strN_size]; have : A.size = (enc7 n ++ encAll (G.drop (i + 1))).length := by rw [hAn, strN_size]
                                                                          rw [List.length_append] at this; omega
          have HG2 := Lib.hid hget
          have HX := Lib.hid hex
          have HX2 := Lib.hid hex2
          generalize (enc7 n).length = kk at hsz hpos HG2 HX HX2
          clear hAn hbytes hget hex hex2
          go_wp2_with fail
          ((with_reducible refine (getInt_any A n kk 0 HG2.out _).mono ?_); rintro e w4 ⟨rfl, hb4⟩)
          go_wp2
          go_roundw
          case rel => exact ⟨i + 1, A.extract kk A.size, by omega, HX2.out, rfl, by go_num, HX, hB2.trans (hb4.mono hB2.size)⟩
          case measure => simp [intOf]; omega
        · have hAe : A = ⟨#[]⟩ := by
            rw [hAG.out, List.drop_eq_nil_of_le (by have := hkG.out; omega)]; rfl
          subst hAe
          clear hAG
          go_wp2_with fail
          ((with_reducible refine (awake_any _).mono ?_); rintro e w5 ⟨rfl, hb5⟩)
          go_wp2
          go_ret
          exact ⟨rfl, hB.trans ((hB2.trans (hb5.mono hB2.size)).mono hB.size)⟩

theorem conc_any (L : List Int) (v : Value) (w : World) (hv : IsInts w v L) : Calls Try.prog 10 #[v] w fun e w' => e = .returned (.bool true) ∧ Below w.heap.size w w' := by
  rcases Nat.lt_or_ge 20 L.length with h | h
  · obtain ⟨a, cap, rfl, hm, _⟩ := hv
    exact conc_long a _ cap h hm w
  · exact conc_short L h v w hv

set_option maxRecDepth 100000 in
theorem conc_lifted (os : Os) (started : os.Started) (H : Type) (enc : TypeId × Value → H) :
    ReturnsInHanded {} Try.checked os 10 .any (Rows.codecConcatenationSpec.pre6 enc Try.prog Try.f10 Rows.codecConcatenationRow.domain false) (Rows.codecConcatenationSpec.post enc Try.prog Try.f10 false true false false) := by
  refine returnsInHanded_of_change (C := Try.checked) ownK started (by kernel_rfl) Try.func10
    (ChangeSpec.witness6 (enc := enc) (C := Try.checked) false ⟨#[], #[.slice none 0 0], []⟩ 8 (by kernel_rfl) (by kernel_rfl) (by kernel_rfl) (by kernel_rfl)) ?_
  intro W base args ds gs before hval0 hW hcnd _
  have hval : ∀ (j : Nat) t v, Try.f10.params[j]? = some t → args[j]? = some v → Value.okWide Try.prog W .any base t v := hval0
  have hW' := hW
  obtain ⟨p, q, hA0, hV, rfl, hfz, hnd⟩ := hW
  have hA : DataW.TrodAll enc Try.prog W 0 (fun _ => true) true Try.f10.params.toList args.toList ds p := hA0
  rw [Try.params10] at hA hval
  obtain ⟨v0, d0, rfl, rfl, h0⟩ := trodAll_one hA
  obtain ⟨rfl, rfl⟩ := trodVars_none hV
  have k0 := h0
  have lt0 : ∀ x ∈ p, x.block < W.heap.size := by obtain ⟨m, hm⟩ := k0; exact DataW.trod_lt m _ _ _ hm
  obtain ⟨L, hL⟩ := open_numbers (okWide_slice Try.underlying46 (hval 0 46 v0 rfl rfl)) h0
  clear hA0 hval0
  refine (conc_any L v0 W hL).mono fun e W' ⟨he, bel⟩ => ?_
  subst he
  exact ⟨_, rfl, _, _, _, [], _, [], hW', trodAll_mk1 (shut_bool Try.underlying4 _), (trodAll_cons_mk (Below.trod laidOut (by kernel_rfl) (of_decide_eq_true (by kernel_rfl)) k0 bel lt0) trodAll_mk0), rfl, bel.frame _, fun h => by cases h⟩

theorem conc_holds : Rows.CodecConcatenationSaid :=
  OpenClaim.holds_of_wide 10 Try.f10 rfl rfl rfl rfl rfl rfl rfl ⟨rfl, rfl, rfl, rfl, rfl⟩ rfl rfl rfl rfl rfl (by kernel_rfl) Try.func10 (by kernel_rfl)
    (of_decide_eq_true (by kernel_rfl)) (by unfold Func.isWrapper; rw [if_neg (of_decide_eq_false (by kernel_rfl))]; exact ⟨rfl, rfl⟩)
    (fun os started H enc _ => conc_lifted os started H enc)
#print axioms conc_holds
end Go.Proofs.Ytpkggijjjpefbaa
