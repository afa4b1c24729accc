/- Extend of program and reference, at this translation. -/
import Derived.Test.YtfheflihofafdaaRsM
namespace Go.Proofs.Ytfheflihofafdaa
open Go.RowKit Go.Great Pt Tr

/-- The growth proof of a ledger, and why there is none. -/
def extE (L : List Rec) (n : Int) : Int := if chkL L ≠ 0 then chkL L else if n < 0 ∨ (L.length : Int) < n then 2 else 0
def extM (L : List Rec) (n : Int) : List Dig := if chkL L = 0 ∧ 0 < n ∧ n < L.length then grT ((L.map recD).length + 1) n.toNat (L.map recD) true else []

set_option maxRecDepth 100000 in
set_option maxHeartbeats 2000000 in
theorem ext_chk (a : Option Addr) (len c : Nat) (n e0 : Int) (w : World) (h0 : e0 ≠ 0)
    (KC : ∀ W, Below w.heap.size w W → Calls Try.prog 14 #[.agg #[.slice a len c]] W fun e w' => e = .returned (.int .i64 e0) ∧ Below W.heap.size W w') :
    Calls Try.prog 19 #[.agg #[.slice a len c], .int .i64 n] w fun e w' => e = .returned (.tuple #[.slice none 0 0, .int .i64 e0]) ∧ Below w.heap.size w w' := by
  have HC := Lib.hid KC
  have hne : (e0 != 0) = true := by simpa using h0
  have hb0 : Below w.heap.size w (w.alloc (.cells #[.slice a len c] 24)) := bla (Below.refl _ _) _
  clear KC h0
  go_enter Try.func19, Try.ntmps19
  go_wp2_with fail
  ((with_reducible refine (HC.out _ hb0).mono ?_); rintro e w1 ⟨rfl, hb⟩)
  have hb1 := bl hb0 hb
  go_wp2
  go_ret2
  exact ⟨rfl, hb1⟩
set_option maxRecDepth 100000 in
set_option maxHeartbeats 2000000 in
theorem ext_no (a : Option Addr) (len c : Nat) (n : Int) (q : Int) (w : World) (hl : len ≤ 10000) (hq : (q = 2 ∧ (n < 0 ∨ (len : Int) < n)) ∨ (q = 0 ∧ (n = 0 ∨ n = len)))
    (KC : ∀ W, Below w.heap.size w W → Calls Try.prog 14 #[.agg #[.slice a len c]] W fun e w' => e = .returned (.int .i64 0) ∧ Below W.heap.size W w') :
    Calls Try.prog 19 #[.agg #[.slice a len c], .int .i64 n] w fun e w' => e = .returned (.tuple #[.slice none 0 0, .int .i64 q]) ∧ Below w.heap.size w w' := by
  have HC := Lib.hid KC
  have hb0 : Below w.heap.size w (w.alloc (.cells #[.slice a len c] 24)) := bla (Below.refl _ _) _
  have c0 : (w.alloc (.cells #[.slice a len c] 24)).cell? ⟨w.heap.size, 0, none⟩ = some (.slice a len c) := by simp [World.cell?_alloc_new]
  have HCELL := Lib.hid c0
  clear KC c0
  rcases hq with ⟨rfl, h | h⟩ | ⟨rfl, h | h⟩
  · have d1 : decide (n < 0) = true := by simpa using h
    go_enter Try.func19, Try.ntmps19
    go_wp2_with fail
    ((with_reducible refine (HC.out _ hb0).mono ?_); rintro e w1 ⟨rfl, hb⟩)
    have hb1 := bl hb0 hb
    have c1 := (hb.cell (p := ⟨w.heap.size, 0, none⟩) (by simp)).trans HCELL.out
    go_wp2
    go_ret2
    exact ⟨rfl, hb1⟩
  · have d1 : decide (n < 0) = false := by simp; omega
    have d2 : decide ((len : Int) < n) = true := by simpa using h
    go_enter Try.func19, Try.ntmps19
    go_wp2_with fail
    ((with_reducible refine (HC.out _ hb0).mono ?_); rintro e w1 ⟨rfl, hb⟩)
    have hb1 := bl hb0 hb
    have c1 := (hb.cell (p := ⟨w.heap.size, 0, none⟩) (by simp)).trans HCELL.out
    go_wp2
    go_ret2
    exact ⟨rfl, hb1⟩
  · subst h
    go_enter Try.func19, Try.ntmps19
    go_wp2_with fail
    ((with_reducible refine (HC.out _ hb0).mono ?_); rintro e w1 ⟨rfl, hb⟩)
    have hb1 := bl hb0 hb
    have c1 := (hb.cell (p := ⟨w.heap.size, 0, none⟩) (by simp)).trans HCELL.out
    have d2 : decide ((len : Int) < 0) = false := by simp
    go_wp2
    go_ret2
    exact ⟨rfl, hb1⟩
  · subst h
    have d1 : decide ((len : Int) < 0) = false := by simp
    have d2 : decide ((len : Int) < (len : Int)) = false := by simp
    have d3 : ((len : Int) == (len : Int)) = true := by simp
    cases d4 : ((len : Int) == 0)
    all_goals
      go_enter Try.func19, Try.ntmps19
      go_wp2_with fail
      ((with_reducible refine (HC.out _ hb0).mono ?_); rintro e w1 ⟨rfl, hb⟩)
      have hb1 := bl hb0 hb
      have c1 := (hb.cell (p := ⟨w.heap.size, 0, none⟩) (by simp)).trans HCELL.out
      go_wp2
      go_ret2
      exact ⟨rfl, hb1⟩
set_option maxRecDepth 100000 in
set_option maxHeartbeats 2000000 in
theorem ext_yes (a : Option Addr) (len c : Nat) (n : Nat) (D : List Dig) (m : Nat) (xs : List Value) (w : World) (h1 : 0 < n) (h2 : n < len)
    (KC : ∀ W, Below w.heap.size w W → Calls Try.prog 14 #[.agg #[.slice a len c]] W fun e w' => e = .returned (.int .i64 0) ∧ Below W.heap.size W w')
    (KD : ∀ W, Below w.heap.size w W → Calls Try.prog 35 #[.agg #[.slice a len c]] W fun e w' => ∃ u, e = .returned u ∧ IsDigs w' u D ∧ Below W.heap.size W w')
    (KG : ∀ W u, IsDigs W u D → Calls Try.prog 38 #[.int .i64 n, u] W fun e w' => ∃ u, e = .returned u ∧ w'.ownsRow W.heap.size 40 2 u m xs ∧ Below W.heap.size W w') :
    Calls Try.prog 19 #[.agg #[.slice a len c], .int .i64 n] w fun e w' => ∃ u, e = .returned (.tuple #[u, .int .i64 0]) ∧ w'.ownsRow w.heap.size 40 2 u m xs ∧ Below w.heap.size w w' := by
  have HC := Lib.hid KC
  have HD := Lib.hid KD
  have HG := Lib.hid KG
  have hb0 : Below w.heap.size w (w.alloc (.cells #[.slice a len c] 24)) := bla (Below.refl _ _) _
  have c0 : (w.alloc (.cells #[.slice a len c] 24)).cell? ⟨w.heap.size, 0, none⟩ = some (.slice a len c) := by simp [World.cell?_alloc_new]
  have HCELL := Lib.hid c0
  have d1 : decide ((n : Int) < 0) = false := by simp
  have d2 : decide ((len : Int) < (n : Int)) = false := by simp; omega
  have d3 : ((n : Int) == (len : Int)) = false := by simp; omega
  have d4 : ((n : Int) == 0) = false := by simp; omega
  clear KC c0 KD KG
  go_enter Try.func19, Try.ntmps19
  go_wp2_with fail
  ((with_reducible refine (HC.out _ hb0).mono ?_); rintro e w1 ⟨rfl, hb⟩)
  have HB1 := Lib.hid (bl hb0 hb)
  have c1 := (hb.cell (p := ⟨w.heap.size, 0, none⟩) (by simp)).trans HCELL.out
  go_wp2_with fail
  ((with_reducible refine (HD.out _ HB1.out).mono ?_); rintro e w2 ⟨u, rfl, hu, hb2⟩)
  obtain ⟨au, cu, hu1, _⟩ := id hu
  have HU := Lib.hid hu
  have HB2 := Lib.hid (bl HB1.out hb2)
  clear hu hb hb2
  obtain rfl := hu1
  go_wp2_with fail
  ((with_reducible refine (HG.out _ _ HU.out).mono ?_); rintro e w3 ⟨v, rfl, ho, hb3⟩)
  have ho1 := ho.mono (base' := w.heap.size) HB2.out.size
  obtain ⟨av, nv, cv, rfl⟩ := own_form ho1
  have HB3 := bl HB2.out hb3
  clear ho hb3
  go_wp2
  go_ret2
  exact ⟨_, rfl, ho1, HB3⟩
set_option maxRecDepth 100000 in
set_option maxHeartbeats 2000000 in
theorem refExt_chk (a : Option Addr) (len c : Nat) (n e0 : Int) (w : World) (h0 : e0 ≠ 0)
    (KC : ∀ W, Below w.heap.size w W → Calls Try.prog 15 #[.agg #[.slice a len c]] W fun e w' => e = .returned (.int .i64 e0) ∧ Below W.heap.size W w') :
    Calls Try.prog 20 #[.agg #[.slice a len c], .int .i64 n] w fun e w' => e = .returned (.tuple #[.slice none 0 0, .int .i64 e0]) ∧ Below w.heap.size w w' := by
  have HC := Lib.hid KC
  have hne : (e0 != 0) = true := by simpa using h0
  have hb0 : Below w.heap.size w (w.alloc (.cells #[.slice a len c] 24)) := bla (Below.refl _ _) _
  clear KC h0
  go_enter Try.func20, Try.ntmps20
  go_wp2_with fail
  ((with_reducible refine (HC.out _ hb0).mono ?_); rintro e w1 ⟨rfl, hb⟩)
  have hb1 := bl hb0 hb
  go_wp2
  go_ret2
  exact ⟨rfl, hb1⟩
set_option maxRecDepth 100000 in
set_option maxHeartbeats 2000000 in
theorem refExt_no (a : Option Addr) (len c : Nat) (n : Int) (q : Int) (w : World) (hl : len ≤ 10000) (hq : (q = 2 ∧ (n < 0 ∨ (len : Int) < n)) ∨ (q = 0 ∧ n = 0))
    (KC : ∀ W, Below w.heap.size w W → Calls Try.prog 15 #[.agg #[.slice a len c]] W fun e w' => e = .returned (.int .i64 0) ∧ Below W.heap.size W w') :
    Calls Try.prog 20 #[.agg #[.slice a len c], .int .i64 n] w fun e w' => e = .returned (.tuple #[.slice none 0 0, .int .i64 q]) ∧ Below w.heap.size w w' := by
  have HC := Lib.hid KC
  have hb0 : Below w.heap.size w (w.alloc (.cells #[.slice a len c] 24)) := bla (Below.refl _ _) _
  have c0 : (w.alloc (.cells #[.slice a len c] 24)).cell? ⟨w.heap.size, 0, none⟩ = some (.slice a len c) := by simp [World.cell?_alloc_new]
  have HCELL := Lib.hid c0
  clear KC c0
  rcases hq with ⟨rfl, h | h⟩ | ⟨rfl, h⟩
  · have d1 : decide (n < 0) = true := by simpa using h
    go_enter Try.func20, Try.ntmps20
    go_wp2_with fail
    ((with_reducible refine (HC.out _ hb0).mono ?_); rintro e w1 ⟨rfl, hb⟩)
    have hb1 := bl hb0 hb
    have c1 := (hb.cell (p := ⟨w.heap.size, 0, none⟩) (by simp)).trans HCELL.out
    go_wp2
    go_ret2
    exact ⟨rfl, hb1⟩
  · have d1 : decide (n < 0) = false := by simp; omega
    have d2 : decide ((len : Int) < n) = true := by simpa using h
    go_enter Try.func20, Try.ntmps20
    go_wp2_with fail
    ((with_reducible refine (HC.out _ hb0).mono ?_); rintro e w1 ⟨rfl, hb⟩)
    have hb1 := bl hb0 hb
    have c1 := (hb.cell (p := ⟨w.heap.size, 0, none⟩) (by simp)).trans HCELL.out
    go_wp2
    go_ret2
    exact ⟨rfl, hb1⟩
  · subst h
    go_enter Try.func20, Try.ntmps20
    go_wp2_with fail
    ((with_reducible refine (HC.out _ hb0).mono ?_); rintro e w1 ⟨rfl, hb⟩)
    have hb1 := bl hb0 hb
    have c1 := (hb.cell (p := ⟨w.heap.size, 0, none⟩) (by simp)).trans HCELL.out
    have d2 : decide ((len : Int) < 0) = false := by simp
    go_wp2
    go_ret2
    exact ⟨rfl, hb1⟩
set_option maxRecDepth 100000 in
set_option maxHeartbeats 2000000 in
theorem refExt_yes (a : Option Addr) (len c : Nat) (n : Nat) (D : List Dig) (m : Nat) (xs : List Value) (w : World) (h1 : 0 < n) (h2 : n ≤ len)
    (KC : ∀ W, Below w.heap.size w W → Calls Try.prog 15 #[.agg #[.slice a len c]] W fun e w' => e = .returned (.int .i64 0) ∧ Below W.heap.size W w')
    (KD : ∀ W, Below w.heap.size w W → Calls Try.prog 37 #[.agg #[.slice a len c]] W fun e w' => ∃ u, e = .returned u ∧ IsDigs w' u D ∧ Below W.heap.size W w')
    (KG : ∀ W u, IsDigs W u D → Calls Try.prog 39 #[.int .i64 n, u, .bool true] W fun e w' => ∃ u, e = .returned u ∧ w'.ownsRow W.heap.size 40 2 u m xs ∧ Below W.heap.size W w') :
    Calls Try.prog 20 #[.agg #[.slice a len c], .int .i64 n] w fun e w' => ∃ u, e = .returned (.tuple #[u, .int .i64 0]) ∧ w'.ownsRow w.heap.size 40 2 u m xs ∧ Below w.heap.size w w' := by
  have HC := Lib.hid KC
  have HD := Lib.hid KD
  have HG := Lib.hid KG
  have hb0 : Below w.heap.size w (w.alloc (.cells #[.slice a len c] 24)) := bla (Below.refl _ _) _
  have c0 : (w.alloc (.cells #[.slice a len c] 24)).cell? ⟨w.heap.size, 0, none⟩ = some (.slice a len c) := by simp [World.cell?_alloc_new]
  have HCELL := Lib.hid c0
  have d1 : decide ((n : Int) < 0) = false := by simp
  have d2 : decide ((len : Int) < (n : Int)) = false := by simp; omega
  have d4 : ((n : Int) == 0) = false := by simp; omega
  clear KC c0 KD KG
  go_enter Try.func20, Try.ntmps20
  go_wp2_with fail
  ((with_reducible refine (HC.out _ hb0).mono ?_); rintro e w1 ⟨rfl, hb⟩)
  have HB1 := Lib.hid (bl hb0 hb)
  have c1 := (hb.cell (p := ⟨w.heap.size, 0, none⟩) (by simp)).trans HCELL.out
  go_wp2_with fail
  ((with_reducible refine (HD.out _ HB1.out).mono ?_); rintro e w2 ⟨u, rfl, hu, hb2⟩)
  obtain ⟨au, cu, hu1, _⟩ := id hu
  have HU := Lib.hid hu
  have HB2 := Lib.hid (bl HB1.out hb2)
  clear hu hb hb2
  obtain rfl := hu1
  go_wp2_with fail
  ((with_reducible refine (HG.out _ _ HU.out).mono ?_); rintro e w3 ⟨v, rfl, ho, hb3⟩)
  have ho1 := ho.mono (base' := w.heap.size) HB2.out.size
  obtain ⟨av, nv, cv, rfl⟩ := own_form ho1
  have HB3 := bl HB2.out hb3
  clear ho hb3
  go_wp2
  go_ret2
  exact ⟨_, rfl, ho1, HB3⟩

theorem own_digs2 {W : World} {B m : Nat} {v : Value} {L : List Dig} (h : W.ownsRow B 40 2 v m (digCells L)) (hm : L.length = m) : IsDigs W v L := by
  subst hm
  exact own_digs h
theorem extend_any (L : List Rec) (v : Value) (n : Int) (w : World) (h : IsRecs w v L) (hf : ∀ x ∈ L, x.Fit) (hlen : L.length < 999) :
    Calls Try.prog 19 #[.agg #[v], .int .i64 n] w fun e w' => ∃ u, e = .returned (.tuple #[u, .int .i64 (extE L n)]) ∧ IsDigs w' u (extM L n) ∧ Below w.heap.size w w' := by
  have KC : ∀ W, Below w.heap.size w W → Calls Try.prog 14 #[.agg #[v]] W fun e w' => e = .returned (.int .i64 (chkL L)) ∧ Below W.heap.size W w' := fun W hW => check_any L v W (h.below hW (Nat.le_refl _)) hf _ rfl
  obtain ⟨a, c, e, hrest⟩ := id h
  subst e
  by_cases h0 : ¬ chkL L = 0
  · have e1 : extE L n = chkL L := by unfold extE; rw [if_pos h0]
    have e2 : extM L n = [] := by unfold extM; rw [if_neg (fun e => h0 e.1)]
    rw [e1, e2]
    refine (ext_chk a L.length c n (chkL L) w h0 KC).mono ?_
    rintro e w' ⟨rfl, hb⟩
    exact ⟨_, rfl, isDigs_nil _, hb⟩
  have h0 := Classical.not_not.1 h0
  have hok := (chk_ok h0).2
  rw [h0] at KC
  by_cases hr : n < 0 ∨ (L.length : Int) < n
  · have e1 : extE L n = 2 := by unfold extE; rw [if_neg (by simp [h0]), if_pos hr]
    have e2 : extM L n = [] := by unfold extM; rw [if_neg (by omega)]
    rw [e1, e2]
    refine (ext_no a L.length c n 2 w (by omega) (.inl ⟨rfl, hr⟩) KC).mono ?_
    rintro e w' ⟨rfl, hb⟩
    exact ⟨_, rfl, isDigs_nil _, hb⟩
  have e1 : extE L n = 0 := by unfold extE; rw [if_neg (by simp [h0]), if_neg hr]
  rw [e1]
  by_cases he : n = 0 ∨ n = L.length
  · have e2 : extM L n = [] := by unfold extM; rw [if_neg (by omega)]
    rw [e2]
    refine (ext_no a L.length c n 0 w (by omega) (.inr ⟨rfl, he⟩) KC).mono ?_
    rintro e w' ⟨rfl, hb⟩
    exact ⟨_, rfl, isDigs_nil _, hb⟩
  · obtain ⟨k, rfl⟩ := Int.eq_ofNat_of_zero_le (show 0 ≤ n by omega)
    have e2 : extM L (k : Int) = grT ((L.map recD).length + 1) k (L.map recD) true := by unfold extM; rw [if_pos ⟨h0, by omega, by omega⟩]; rfl
    rw [e2]
    refine (ext_yes a L.length c k (L.map recD) _ _ w (by omega) (by omega) KC (fun W hW => digests_of L _ W (h.below hW (Nat.le_refl _)) hok (by omega) digD_any)
      (fun W u hu => growth_any k (L.map recD) W u (by rw [List.length_map]; omega) (by omega) (by rw [List.length_map]; omega) hu)).mono ?_
    rintro e w' ⟨u, rfl, ho, hb⟩
    exact ⟨u, rfl, own_digs2 ho rfl, hb⟩
theorem refExtend_any (L : List Rec) (v : Value) (n : Int) (w : World) (h : IsRecs w v L) (hf : ∀ x ∈ L, x.Fit) (hlen : L.length < 999) :
    Calls Try.prog 20 #[.agg #[v], .int .i64 n] w fun e w' => ∃ u, e = .returned (.tuple #[u, .int .i64 (extE L n)]) ∧ IsDigs w' u (extM L n) ∧ Below w.heap.size w w' := by
  have KC : ∀ W, Below w.heap.size w W → Calls Try.prog 15 #[.agg #[v]] W fun e w' => e = .returned (.int .i64 (chkL L)) ∧ Below W.heap.size W w' := fun W hW => refCheck_any L v W (h.below hW (Nat.le_refl _)) hf _ rfl
  obtain ⟨a, c, e, hrest⟩ := id h
  subst e
  by_cases h0 : ¬ chkL L = 0
  · have e1 : extE L n = chkL L := by unfold extE; rw [if_pos h0]
    have e2 : extM L n = [] := by unfold extM; rw [if_neg (fun e => h0 e.1)]
    rw [e1, e2]
    refine (refExt_chk a L.length c n (chkL L) w h0 KC).mono ?_
    rintro e w' ⟨rfl, hb⟩
    exact ⟨_, rfl, isDigs_nil _, hb⟩
  have h0 := Classical.not_not.1 h0
  have hok := (chk_ok h0).2
  rw [h0] at KC
  by_cases hr : n < 0 ∨ (L.length : Int) < n
  · have e1 : extE L n = 2 := by unfold extE; rw [if_neg (by simp [h0]), if_pos hr]
    have e2 : extM L n = [] := by unfold extM; rw [if_neg (by omega)]
    rw [e1, e2]
    refine (refExt_no a L.length c n 2 w (by omega) (.inl ⟨rfl, hr⟩) KC).mono ?_
    rintro e w' ⟨rfl, hb⟩
    exact ⟨_, rfl, isDigs_nil _, hb⟩
  have e1 : extE L n = 0 := by unfold extE; rw [if_neg (by simp [h0]), if_neg hr]
  rw [e1]
  by_cases he : n = 0
  · have e2 : extM L n = [] := by unfold extM; rw [if_neg (by omega)]
    rw [e2]
    refine (refExt_no a L.length c n 0 w (by omega) (.inr ⟨rfl, he⟩) KC).mono ?_
    rintro e w' ⟨rfl, hb⟩
    exact ⟨_, rfl, isDigs_nil _, hb⟩
  · obtain ⟨k, rfl⟩ := Int.eq_ofNat_of_zero_le (show 0 ≤ n by omega)
    have e2 : extM L (k : Int) = grT ((L.map recD).length + 1) k (L.map recD) true := by
      unfold extM
      by_cases hk : k < L.length
      · rw [if_pos ⟨h0, by omega, by omega⟩]; rfl
      · rw [if_neg (by omega)]
        unfold grT
        rw [if_pos (by rw [List.length_map]; omega)]
        rfl
    rw [e2]
    refine (refExt_yes a L.length c k (L.map recD) _ _ w (by omega) (by omega) KC (fun W hW => refDigests_any L _ W (h.below hW (Nat.le_refl _)) hok (by omega))
      (fun W u hu => refGr_any ((L.map recD).length + 1) k (L.map recD) true W u (by omega) (by rw [List.length_map]; omega) (by omega) (by rw [List.length_map]; omega) hu)).mono ?_
    rintro e w' ⟨u, rfl, ho, hb⟩
    exact ⟨u, rfl, own_digs2 ho rfl, hb⟩
end Go.Proofs.Ytfheflihofafdaa
