/- slices.Grow of nil and slices.Concat of lists of strings, at this translation. -/
import Derived.Test.YtgnkfikihjjpeaaCheck
import Derived.Lib.AppendZeros
import Derived.Deep.AppendSrc
namespace Go
open Go.RowKit
theorem run_append_own_bare31 {P : Program} {w : World} (base : Nat) (t ty e : TypeId) (i : TypeInfo) (size : Nat) (ht : P.underlying t = some (.slice e)) (hi : P.info? e = some i)
    (v : Value) (n : Nat) (xs : List Value) (hown : w.ownsRow base e size v n xs) (c : Nat) :
    (Builtin.append_ #[t, t] ty #[v, .slice none 0 c]).run P w = .ok v w := by
  rcases hown.2 with ⟨rfl, rfl⟩ | ⟨g, cap, cur, rfl, hbg, hg, hnc, hcm, hcs, htake⟩
  · simp [Builtin.append_, run_underlying ht, sizeOf, typeInfo, hi, Builtin.lenOf, Builtin.firstCells]
  · simp [Builtin.append_, run_underlying ht, sizeOf, typeInfo, hi, Builtin.lenOf, Builtin.firstCells, hnc, storeCells]
/-- append to a slice of one's own from a slice that came in, whose address may be none when it is empty. -/
theorem wpList_append_src31 {P : Program} {w : World} {ops : Array Oper} {rest : List Oper} {o : Oper} {a : Act} {Q : Exit → Act → World → Prop} (hgd : o.guard = none) (s x : Operand) (t : TypeId)
    (ho : o.op = .call { callee := .builtin .append, args := #[s, x], argTypes := #[t, t] })
    (base : Nat) (e : TypeId) (i : TypeInfo) (z : Value) (size bytes : Nat) (ht : P.underlying t = some (.slice e)) (hi : P.info? e = some i) (hz : i.zero = some z)
    (hsize : i.size = size) (hby : i.bytes = bytes) (hzs : z.cells.size = size) (hsz : 0 < size)
    (v : Value) (n : Nat) (xs : List Value) (hs : a.eval s = v) (hown : w.ownsRow base e size v n xs)
    (b : Option Addr) (m c : Nat) (news : List Value) (hx : a.eval x = .slice b m c) (hl : news.length = m * size) (hb : b = none → m = 0) (hnews : ∀ ad, b = some ad → ∀ j u, news[j]? = some u → w.cell? (ad.add j) = some u) (h1 : ∀ u ∈ news, u.oneCell' = true)
    (h63 : n + m ≤ maxLen) (hbytes : (n + m) * bytes ≤ 140737488355328) (hbase : base ≤ w.heap.size)
    (h : ∀ v' w', w'.ownsRow base e size v' (n + m) (xs ++ news) → w.grownBy w' v.ownBlock → wpList P ops Q rest (a.put o.dst v') w') : wpList P ops Q (o :: rest) a w := by
  cases b with
  | some ad => exact wpList_append_own w hgd s x t ho base e i z size bytes ht hi hz hsize hby hzs hsz v n xs hs hown ad m c news hx hl (hnews ad rfl) h1 h63 hbytes hbase fun v' w' h2 h3 _ => h v' w' h2 h3
  | none =>
    obtain rfl := hb rfl
    obtain rfl : news = [] := List.eq_nil_of_length_eq_zero (by omega)
    refine wpList_plain hgd fun K hK => ?_
    have hrun := run_append_own_bare31 (P := P) (w := w) base t o.type e i size ht hi v n xs hown c
    unfold Oper.wp
    simp [execOp, ho, resolve, invoke, builtin, hs, hx, hrun, Result.andThen]
    exact hK _ _ (h _ _ (by simpa using hown) (World.grownBy.refl _ _))
end Go
namespace Go.Proofs.Ytgnkfikihjjpeaa
open Go.RowKit Go.Great

theorem row_one (L : List BA) : ∀ u ∈ rowS L, u.oneCell' = true := by
  intro u hu
  simp only [rowS, List.mem_map] at hu
  obtain ⟨x, _, rfl⟩ := hu
  rfl
theorem row_append (L M : List BA) : rowS (L ++ M) = rowS L ++ rowS M := by simp [rowS]
theorem strs_none {w : World} {L : List BA} {c : Nat} {n : Nat} (h : IsStrs w (.slice none n c) L) : n = 0 := by
  obtain ⟨a, cap, e, _, _, hh⟩ := h
  simp only [Value.slice.injEq] at e
  obtain ⟨e1, e2, _⟩ := e
  rcases hh with hL | ⟨b, off, eb, _⟩
  · rw [e2, hL]; rfl
  · rw [eb] at e1; cases e1
theorem strs_lies {w : World} {L : List BA} {b : Option Addr} {n c : Nat} (h : IsStrs w (.slice b n c) L) : ∀ ad, b = some ad → ∀ j u, (rowS L)[j]? = some u → w.cell? (ad.add j) = some u := by
  obtain ⟨a, cap, e, _, _, hh⟩ := h
  simp only [Value.slice.injEq] at e
  obtain ⟨rfl, rfl, -⟩ := e
  rintro ad rfl j u hu
  have hj : j < L.length := by have := (List.getElem?_eq_some_iff.1 hu).1; rwa [rowS_length] at this
  rw [rowS_get L j hj] at hu
  cases hu
  obtain ⟨b, off, eb, _, hc⟩ := hh.resolve_left (by intro e; rw [e] at hj; simp at hj)
  cases eb
  rw [Addr.add_lit]
  exact hc j hj

set_option maxRecDepth 100000 in
set_option maxHeartbeats 2000000 in
theorem grow_any (n : Nat) (hn : n ≤ 1000000) (w : World) :
    Calls Try.prog 49 #[.slice none 0 0, .int .i64 n] w fun e w' => ∃ v, e = .returned v ∧ w'.ownsRow w.heap.size 9 1 v 0 [] ∧ Below w.heap.size w w' := by
  obtain ⟨i0, hi, hz0, hz1, hz2⟩ := info_parts info9
  have n0 : ¬ (n : Int) < 0 := by omega
  by_cases h0 : n = 0
  · have n1 : ¬ (0 : Int) < (n : Int) := by omega
    clear h0
    go_enter Try.func49, Try.ntmps49
    go_wp2
    go_ret
    exact ⟨_, rfl, World.ownsRow_nil _ _ _ _, Below.refl _ _⟩
  · have n1 : (0 : Int) < (n : Int) := by omega
    have hr := Lib.run_append_nil_zeros (P := Try.prog) w 22 3 22 9 i0 (.string ⟨#[]⟩) .i64 .i64 Try.underlying22 Try.underlying3 hi hz0 n (by omega) (by rw [hz1]; decide) (by omega) (by rw [hz2]; omega)
    have hcap := grownCap_ge w n 0 9
    have hcm := grownCap_le_maxLen w n 0 9 (by unfold maxLen; omega)
    generalize grownCap w n 0 9 = cap at hr hcap hcm
    have hcm' := hcm
    unfold maxLen at hcm'
    have hc0 : ¬ cap = 0 := by omega
    have own : (w.drew.alloc (.cells (Builtin.zeroCells (Value.string ⟨#[]⟩).cells n ++ Builtin.zeroCells (Value.string ⟨#[]⟩).cells (cap - n)) 9)).ownsRow w.heap.size 9 1 (.slice (some ⟨w.heap.size, 0, none⟩) 0 cap) 0 [] := by
      refine ⟨rfl, .inr ⟨w.heap.size, cap, _, rfl, Nat.le_refl _, heap_alloc_new w.drew _, Nat.zero_le _, hcm, ?_, by simp⟩⟩
      have e1 : (Value.string ⟨#[]⟩).cells.size = 1 := rfl
      rw [Array.size_append, size_zeroCells, size_zeroCells, e1]
      omega
    have hB := (Below.refl w.heap.size w).drew.alloc (Nat.le_refl _) (.cells (Builtin.zeroCells (Value.string ⟨#[]⟩).cells n ++ Builtin.zeroCells (Value.string ⟨#[]⟩).cells (cap - n)) 9)
    have HR := Lib.hid hr
    have HO := Lib.hid own
    clear h0 hr own
    go_enter Try.func49, Try.ntmps49
    go_wp2_with (at_builtin; refine Lib.wpList_append_run _ rfl _ _ _ _ rfl _ _ rfl rfl _ _ HR.out ?_)
    go_ret
    exact ⟨_, rfl, HO.out, hB⟩

theorem flat_take {ps : List (List BA)} {j : Nat} (h : j < ps.length) : (ps.take (j + 1)).flatten = (ps.take j).flatten ++ ps[j] := by
  rw [List.take_succ_eq_append_getElem h, List.flatten_append, List.flatten_cons, List.flatten_nil, List.append_nil]
theorem flat_le {ps : List (List BA)} (j : Nat) : (ps.take j).flatten.length ≤ ps.flatten.length := by
  have : ps.flatten = (ps.take j).flatten ++ (ps.drop j).flatten := by rw [← List.flatten_append, List.take_append_drop]
  rw [this, List.length_append]; omega

set_option maxRecDepth 100000 in
set_option maxHeartbeats 4000000 in
theorem concat_any (ps : List (List BA)) (n : Nat) (hn : ps.length = n) (g cap : Nat) (w : World) (hg : g < w.heap.size) (hcell : ∀ j (h : j < ps.length), ∃ v, w.cell? ⟨g, j, none⟩ = some v ∧ IsStrs w v ps[j]) (hl : ps.flatten.length ≤ 100000) (hp : n ≤ 100) :
    Calls Try.prog 36 #[.slice (some ⟨g, 0, none⟩) n cap] w fun e w' => ∃ v, e = .returned v ∧ IsStrs w' v ps.flatten ∧ Below w.heap.size w w' := by
  subst hn
  obtain ⟨i0, hi, hz0, hz1, hz2⟩ := info_parts info9
  have HC := Lib.hid hcell
  clear hcell
  go_enter Try.func36, Try.ntmps36
  go_wp2
  go_loopw [3, 11] (fun s3 s11 wr => ∃ j : Nat, j ≤ ps.length ∧ s11 = .int .i64 j ∧ (∃ k : Nat, k = (ps.take j).flatten.length ∧ s3 = .int .i64 k) ∧ Below w.heap.size w wr) (fun _ i _ => ps.length - (intOf i).toNat)
  case atStart => exact ⟨0, Nat.zero_le _, rfl, ⟨0, by simp, rfl⟩, Below.refl _ _⟩
  case round =>
    obtain ⟨j, hj, rfl, ⟨k, hk, rfl⟩, hBr⟩ := hrel
    have k1 : k ≤ 100000 := by have := flat_le (ps := ps) j; omega
    by_cases hlt : j < ps.length
    · obtain ⟨v, p0, hv⟩ := HC.out j hlt
      have p0 := (hBr.cell (p := ⟨g, j, none⟩) hg).trans p0
      obtain ⟨a, c, rfl, hle, _, _⟩ := hv
      have e1 := flat_take hlt
      have k2 : (ps.take j).flatten.length + ps[j].length ≤ 100000 := by
        have := flat_le (ps := ps) (j + 1)
        rw [e1, List.length_append] at this
        omega
      have k3 : k + ps[j].length = (ps.take (j + 1)).flatten.length := by rw [e1, List.length_append, hk]
      rw [← hk] at k2
      clear e1
      generalize ps[j].length = m at p0 k2 k3
      have K3 := Lib.hid k3
      have k4 : ¬ ((k : Int) + (m : Int)) < 0 := by omega
      clear hk k3 hle
      go_wp2
      go_roundw
      case rel => exact ⟨j + 1, by omega, by go_num, ⟨k + m, K3.out, by go_num⟩, hBr⟩
      case measure => simp [intOf]; omega
    · have HK : Hid (k = ps.flatten.length) := by
        refine Lib.hid ?_
        rw [hk, List.take_of_length_le (by omega)]
      clear hk
      go_wp2_with fail
      ((with_reducible refine (grow_any k (by omega) _).mono ?_); rintro e w1 ⟨v0, rfl, hown, hb1⟩)
      have hB1 := hBr.trans (hb1.mono hBr.size)
      have hown0 : w1.ownsRow w.heap.size 9 1 v0 (ps.take 0).flatten.length (rowS (ps.take 0).flatten) := ownsRow_base_a hown hBr.size
      clear hown hb1
      go_wp2
      go_loopw [6, 27] (fun s6 s27 wr => ∃ j : Nat, j ≤ ps.length ∧ s27 = .int .i64 j ∧ wr.ownsRow w.heap.size 9 1 s6 (ps.take j).flatten.length (rowS (ps.take j).flatten) ∧ Below w.heap.size w wr) (fun _ i _ => ps.length - (intOf i).toNat)
      case atStart => exact ⟨0, Nat.zero_le _, rfl, hown0, hB1⟩
      case round =>
        obtain ⟨j, hj, rfl, hO, hB⟩ := hrel
        by_cases hlt : j < ps.length
        · obtain ⟨v, p0, hv⟩ := HC.out j hlt
          have p0 := (hB.cell (p := ⟨g, j, none⟩) hg).trans p0
          have hv := hv.below hB (Nat.le_refl _)
          have hle : (ps.take j).flatten.length + ps[j].length ≤ 100000 := by
            have := flat_le (ps := ps) (j + 1)
            rw [flat_take hlt, List.length_append] at this
            omega
          have E := Lib.hid (flat_take hlt)
          have hv' := hv
          obtain ⟨a, c, rfl, -, -, -⟩ := hv'
          have HV := Lib.hid hv
          have HO := Lib.hid hO
          clear hv hO
          obtain ⟨m, hm⟩ : ∃ m, ps[j].length = m := ⟨_, rfl⟩
          obtain ⟨k', hk'⟩ : ∃ k', (ps.take j).flatten.length = k' := ⟨_, rfl⟩
          have HM := Lib.hid hm
          have HK' := Lib.hid hk'
          rw [hm] at p0 HV hle
          rw [hk'] at HO hle
          clear hm hk'
          go_wp2_with (at_builtin; refine wpList_append_src31 rfl _ _ 22 rfl w.heap.size 9 i0 (.string ⟨#[]⟩) 1 16 Try.underlying22 hi hz0 hz1 hz2 rfl (by decide) _ _ _ rfl HO.out a m c (rowS ps[j]) rfl (by rw [rowS_length, HM.out, Nat.mul_one]) (by rintro rfl; exact strs_none HV.out) (strs_lies HV.out) (row_one _) (by unfold maxLen; omega) (by omega) hB.size ?_; intro v3 w3 hown3 hgrow; have hB3 := hB.grown hgrow hB.size (fun k hk => (HO.out.lt k hk).1); have HO3 := Lib.hid hown3; clear hown3 hgrow)
          go_roundw
          case rel =>
            refine ⟨j + 1, by omega, by go_num, ?_, hB3⟩
            rw [E.out, row_append, List.length_append, HM.out, HK'.out]
            exact HO3.out
          case measure => simp [intOf]; omega
        · obtain rfl : j = ps.length := by omega
          have hO' := hO
          rw [List.take_length] at hO'
          have HO := Lib.hid (own_strs hO' rfl (by unfold maxLen; omega))
          clear hO hO'
          go_wp2
          go_ret
          exact ⟨_, rfl, HO.out, hB⟩
end Go.Proofs.Ytgnkfikihjjpeaa
