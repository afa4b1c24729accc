/- Holds of program and reference, at this translation. -/
import Derived.Test.YtfheflihofafdaaRefHolds
import Derived.Test.YtfheflihofafdaaRgInv
import Derived.Test.YtfheflihofafdaaDig43
namespace Go.Proofs.Ytfheflihofafdaa
open Go.RowKit Go.Great Pt Tr

def valNo (t : Int) (n1 n2 n3 : BA) (last : Nat) (i : Nat) : Value :=
  if i = 0 then rv ⟨t, n1, n2, n3⟩ else if i = 1 then .bool false else if i = 2 then .bool false else if last ≤ i then .bool false else undef

set_option maxRecDepth 100000 in
set_option maxHeartbeats 4000000 in
theorem refHolds_no (x0 x1 n i t : Int) (n1 n2 n3 : BA) (a : Option Addr) (len cap : Nat) (w : World) (KO : ∀ W, Calls Try.prog 33 #[rv ⟨t, n1, n2, n3⟩] W fun e w' => e = .returned (.bool false) ∧ Below W.heap.size W w') :
    Calls Try.prog 25 #[.agg #[.int .u64 x0, .int .u64 x1], .int .i64 n, .int .i64 i, rv ⟨t, n1, n2, n3⟩, .slice a len cap] w fun e w' => e = .returned (.bool false) ∧ Below w.heap.size w w' := by
  have HO := Lib.hid KO
  clear KO
  go_enter Try.func25, Try.ntmps25
  go_wp2
  have start : HBox w x0 x1 t n1 n2 n3 ((w.alloc (.cells #[.int .u64 x0, .int .u64 x1] 40)).alloc (.cells #[.int .i64 t, .string n1, .string n2, .string n3] 26)).drew := by
    refine ⟨?_, by simp, (bla (bla (Below.refl _ _) _) _).drew⟩
    go_simp
  refine wp_region_det (valNo t n1 n2 n3 11) (HBox w x0 x1 t n1 n2 n3) (by kernel_rfl) (by kernel_rfl) (by kernel_rfl) start ?_ ?_
  · refine ⟨?_, ?_, ?_, ?_, ?_, ?_, ?_, ?_, ?_, ?_, ?_, ?_, ?_, trivial⟩
    · intro a w hS hk
      have h8 := hk.keep 8 rfl
      have hS' := hS
      obtain ⟨⟨c1, c2, c3, c4, c5, c6⟩, _, _⟩ := hS
      refine wpOp_of rfl rfl ?_
      unfold Oper.wp
      simp [execOp, go_sem, h8, c3, c4, c5, c6]
      exact ⟨rfl, hS'⟩
    · intro a w hS hk
      have h11 := hk.has 0 _ 11 rfl rfl rfl (by simp)
      refine wpOp_of rfl rfl ?_
      unfold Oper.wp
      simp [execOp, go_sem, h11]
      refine (HO.out w).mono ?_
      rintro e w' ⟨rfl, hb⟩
      exact ⟨rfl, hS.on hb⟩
    · intro a w hS hk
      have h12 := hk.has 1 _ 12 rfl rfl rfl (by simp)
      refine wpOp_of rfl rfl ?_
      unfold Oper.wp
      simp [execOp, go_sem, h12]
      exact ⟨rfl, hS⟩
    iterate 8
      · intro a w hS hk
        have h13 := hk.has 2 _ 13 rfl rfl rfl (by simp)
        refine wpOp_skip rfl ?_ ⟨rfl, hS⟩
        simp [Region.wanted, yielded, h13, valNo]
    · intro a w hS hk
      have h13 := hk.has 2 _ 13 rfl rfl rfl (by simp)
      refine wpOp_of rfl rfl ?_
      unfold Oper.wp
      simp [execOp, go_sem, h13, valNo]
      exact hS
    · intro a w hS hk
      have h22 := hk.has 11 _ 22 rfl rfl rfl (by simp)
      refine wpOp_of rfl rfl ?_
      unfold Oper.wp
      simp [execOp, go_sem, h22, valNo]
      exact hS
  · intro W hS
    simp [frameOf, Act.put, valNo]
    go_wp2
    go_ret
    exact ⟨rfl, hS.2.2⟩
set_option maxRecDepth 100000 in
set_option maxHeartbeats 4000000 in
theorem holds_no (x0 x1 n i t : Int) (n1 n2 n3 : BA) (a : Option Addr) (len cap : Nat) (w : World) (KO : ∀ W, Calls Try.prog 31 #[rv ⟨t, n1, n2, n3⟩] W fun e w' => e = .returned (.bool false) ∧ Below W.heap.size W w') :
    Calls Try.prog 24 #[.agg #[.int .u64 x0, .int .u64 x1], .int .i64 n, .int .i64 i, rv ⟨t, n1, n2, n3⟩, .slice a len cap] w fun e w' => e = .returned (.bool false) ∧ Below w.heap.size w w' := by
  have HO := Lib.hid KO
  clear KO
  go_enter Try.func24, Try.ntmps24
  go_wp2
  have start : HBox w x0 x1 t n1 n2 n3 ((w.alloc (.cells #[.int .u64 x0, .int .u64 x1] 40)).alloc (.cells #[.int .i64 t, .string n1, .string n2, .string n3] 26)).drew := by
    refine ⟨?_, by simp, (bla (bla (Below.refl _ _) _) _).drew⟩
    go_simp
  refine wp_region_det (valNo t n1 n2 n3 10) (HBox w x0 x1 t n1 n2 n3) (by kernel_rfl) (by kernel_rfl) (by kernel_rfl) start ?_ ?_
  · refine ⟨?_, ?_, ?_, ?_, ?_, ?_, ?_, ?_, ?_, ?_, ?_, ?_, trivial⟩
    · intro a w hS hk
      have h8 := hk.keep 8 rfl
      have hS' := hS
      obtain ⟨⟨c1, c2, c3, c4, c5, c6⟩, _, _⟩ := hS
      refine wpOp_of rfl rfl ?_
      unfold Oper.wp
      simp [execOp, go_sem, h8, c3, c4, c5, c6]
      exact ⟨rfl, hS'⟩
    · intro a w hS hk
      have h11 := hk.has 0 _ 11 rfl rfl rfl (by simp)
      refine wpOp_of rfl rfl ?_
      unfold Oper.wp
      simp [execOp, go_sem, h11]
      refine (HO.out w).mono ?_
      rintro e w' ⟨rfl, hb⟩
      exact ⟨rfl, hS.on hb⟩
    · intro a w hS hk
      have h12 := hk.has 1 _ 12 rfl rfl rfl (by simp)
      refine wpOp_of rfl rfl ?_
      unfold Oper.wp
      simp [execOp, go_sem, h12]
      exact ⟨rfl, hS⟩
    iterate 7
      · intro a w hS hk
        have h13 := hk.has 2 _ 13 rfl rfl rfl (by simp)
        refine wpOp_skip rfl ?_ ⟨rfl, hS⟩
        simp [Region.wanted, yielded, h13, valNo]
    · intro a w hS hk
      have h13 := hk.has 2 _ 13 rfl rfl rfl (by simp)
      refine wpOp_of rfl rfl ?_
      unfold Oper.wp
      simp [execOp, go_sem, h13, valNo]
      exact hS
    · intro a w hS hk
      have h22 := hk.has 10 _ 21 rfl rfl rfl (by simp)
      refine wpOp_of rfl rfl ?_
      unfold Oper.wp
      simp [execOp, go_sem, h22, valNo]
      exact hS
  · intro W hS
    simp [frameOf, Act.put, valNo]
    go_wp2
    go_ret
    exact ⟨rfl, hS.2.2⟩
set_option maxRecDepth 100000 in
set_option maxHeartbeats 4000000 in
theorem holds_yes (x0 x1 n i t : Int) (n1 n2 n3 : BA) (d0 d1 : Nat) (q : Bool) (a : Option Addr) (len cap : Nat) (w : World) (KO : ∀ W, Calls Try.prog 31 #[rv ⟨t, n1, n2, n3⟩] W fun e w' => e = .returned (.bool true) ∧ Below W.heap.size W w')
    (KT : ∀ W, Calls Try.prog 43 #[rv ⟨t, n1, n2, n3⟩] W fun e w' => e = .returned (.agg #[.int .u64 d0, .int .u64 d1]) ∧ Below W.heap.size W w')
    (KV : ∀ W, Below w.heap.size w W → Calls Try.prog 42 #[.agg #[.int .u64 x0, .int .u64 x1], .int .i64 n, .int .i64 i, .agg #[.int .u64 d0, .int .u64 d1], .slice a len cap] W fun e w' => e = .returned (.bool q) ∧ Below W.heap.size W w') :
    Calls Try.prog 24 #[.agg #[.int .u64 x0, .int .u64 x1], .int .i64 n, .int .i64 i, rv ⟨t, n1, n2, n3⟩, .slice a len cap] w fun e w' => e = .returned (.bool q) ∧ Below w.heap.size w w' := by
  have HO := Lib.hid KO
  have HT := Lib.hid KT
  have HV := Lib.hid KV
  clear KO KT KV
  go_enter Try.func24, Try.ntmps24
  go_wp2
  have start : HBox w x0 x1 t n1 n2 n3 ((w.alloc (.cells #[.int .u64 x0, .int .u64 x1] 40)).alloc (.cells #[.int .i64 t, .string n1, .string n2, .string n3] 26)).drew := by
    refine ⟨?_, by simp, (bla (bla (Below.refl _ _) _) _).drew⟩
    go_simp
  go_region_held3 (fun W => (W.cell? ⟨w.heap.size, 0, none⟩ = some (.int .u64 x0) ∧ W.cell? ⟨w.heap.size, 1, none⟩ = some (.int .u64 x1) ∧ W.cell? ⟨w.heap.size + 1, 0, none⟩ = some (.int .i64 t) ∧ W.cell? ⟨w.heap.size + 1, 1, none⟩ = some (.string n1) ∧
      W.cell? ⟨w.heap.size + 1, 2, none⟩ = some (.string n2) ∧ W.cell? ⟨w.heap.size + 1, 3, none⟩ = some (.string n3)) ∧ w.heap.size + 2 ≤ W.heap.size ∧ Below w.heap.size w W) (first | exact hh | exact start)
    (first | (go_at_call 31; refine (HO.out _).mono ?_; rintro e w' ⟨rfl, hb⟩; have hh := HBox.on (by first | exact hh | exact start) hb; clear hb) | (go_at_call 43; refine (HT.out _).mono ?_; rintro e w' ⟨rfl, hb⟩; have hh := HBox.on (by first | exact hh | exact start) hb; clear hb) | (go_at_call 42; refine (HV.out _ (by first | exact hh.2.2 | exact start.2.2)).mono ?_; rintro e w' ⟨rfl, hb⟩; have hh := HBox.on (by first | exact hh | exact start) hb; clear hb))
  go_wp2
  go_ret
  exact ⟨rfl, hh.2.2⟩
/-- Whether a proof holds. -/
def holdM (x0 x1 n i : Int) (r : Rec) (L : List Dig) : Bool := okR r && verM x0 x1 n i (recD r) L
theorem refHolds_any (x0 x1 n i : Int) (r : Rec) (L : List Dig) (v : Value) (w : World) (hf : r.Fit) (hv : IsDigs w v L) :
    Calls Try.prog 25 #[.agg #[.int .u64 x0, .int .u64 x1], .int .i64 n, .int .i64 i, rv r, v] w fun e w' => e = .returned (.bool (holdM x0 x1 n i r L)) ∧ Below w.heap.size w w' := by
  unfold holdM
  obtain ⟨a, cap, rfl, hv2⟩ := hv
  cases hok : okR r with
  | false => exact refHolds_no x0 x1 n i r.time r.who r.what r.data a _ cap w fun W => refValid_any r W hf false hok
  | true =>
    have hle := recS_le hok
    exact refHolds_yes x0 x1 n i r.time r.who r.what r.data (recS r) (recD r).1 (recD r).2 _ a _ cap w (fun W => refValid_any r W hf true hok) (fun W => refText_any r W hok) (fun W => refOfD_any (recS r) (by unfold maxLen; omega) W)
      (fun W hW => refVerify_any x0 x1 n i (recD r) L _ W (IsDigs.below ⟨a, cap, rfl, hv2⟩ hW))
theorem digD_any (r : Rec) (W : World) (hok : okR r = true) : Calls Try.prog 43 #[rv r] W fun e w' => e = .returned (.agg #[.int .u64 (recD r).1, .int .u64 (recD r).2]) ∧ Below W.heap.size W w' := by
  refine (digestOf_any r W hok).mono ?_
  rintro e w' ⟨rfl, hb⟩
  exact ⟨by rw [ofD_v]; rfl, hb⟩
theorem holds_any (x0 x1 n i : Int) (r : Rec) (L : List Dig) (v : Value) (w : World) (hf : r.Fit) (hv : IsDigs w v L) :
    Calls Try.prog 24 #[.agg #[.int .u64 x0, .int .u64 x1], .int .i64 n, .int .i64 i, rv r, v] w fun e w' => e = .returned (.bool (holdM x0 x1 n i r L)) ∧ Below w.heap.size w w' := by
  unfold holdM
  obtain ⟨a, cap, rfl, hv2⟩ := hv
  cases hok : okR r with
  | false => exact holds_no x0 x1 n i r.time r.who r.what r.data a _ cap w fun W => valid_any r W hf false hok
  | true =>
    exact holds_yes x0 x1 n i r.time r.who r.what r.data (recD r).1 (recD r).2 _ a _ cap w (fun W => valid_any r W hf true hok) (fun W => digD_any r W hok)
      (fun W hW => verify_any x0 x1 n i (recD r) L _ W (IsDigs.below ⟨a, cap, rfl, hv2⟩ hW))
theorem head_any (L : List Rec) (v : Value) (w : World) (h : IsRecs w v L) (hf : ∀ x ∈ L, x.Fit) :
    Calls Try.prog 21 #[.agg #[v]] w fun e w' => e = .returned (headM L).v ∧ Below w.heap.size w w' := head_of L v w h hf digD_any
theorem prove_any (L : List Rec) (v : Value) (i : Int) (w : World) (h : IsRecs w v L) (hf : ∀ x ∈ L, x.Fit) (hlen : L.length < 999) :
    Calls Try.prog 17 #[.agg #[v], .int .i64 i] w fun e w' => ∃ u, e = .returned (.tuple #[u, .int .i64 (proveE L i)]) ∧ IsDigs w' u (proveM L i) ∧ Below w.heap.size w w' := prove_of L v i w h hf hlen digD_any
end Go.Proofs.Ytfheflihofafdaa
