/- ledger.fields and its iterator, at this translation. -/
import Derived.Test.YtfheflihofafdaaText
import Derived.Deep.RegionHeld3
import Derived.Great.BuildSlice
import Derived.ControlIn
namespace Go.Proofs.Ytfheflihofafdaa
open Go.RowKit Go.Great Pt Tr Go.Shelf
attribute [local go_sem] Oper.semAt_some

/-- A text of bounded size. -/
abbrev Sm4 := { x : BA // x.size ≤ 70000 }
abbrev encSm : Sm4 → Array Value := fun x => #[Value.string x.1]
/-- What a round keeps: rows of other types than bytes, but for one block. -/
def KpF (b : Nat) (W W' : World) : Prop := W.heap.size ≤ W'.heap.size ∧ Kept b W W'
/-- What the iterator does: it makes memory. -/
def RelF (A B : World) : Prop := Below A.heap.size A B
/-- The four texts of a record. -/
def fldL (r : Rec) : List BA := [numS r.time.toNat, txtS r.who, txtS r.what, txtS r.data]

set_option maxHeartbeats 1000000 in
theorem fields_any (r : Rec) (w : World) :
    Calls Try.prog 63 #[rv r] w fun e w' => e = .returned (.func (.func 76) #[] #[.pointer (some ⟨w.heap.size, 0, none⟩)]) ∧ w' = w.alloc (rc r) := by
  obtain ⟨t, a, b, c⟩ := r
  go_enter Try.func63, Try.ntmps63
  go_wp2
  go_ret
  exact ⟨rfl, rfl⟩

/-- Where the iterator reads its record. -/
structure Fs (W : World) (br : Nat) (m : Nat) (n1 n2 n3 : BA) (V : World) : Prop where
  b : Below W.heap.size W V
  lt : br < W.heap.size
  c : V.cell? ⟨br, 0, none⟩ = some (.int .i64 m) ∧ V.cell? ⟨br, 1, none⟩ = some (.string n1) ∧ V.cell? ⟨br, 2, none⟩ = some (.string n2) ∧ V.cell? ⟨br, 3, none⟩ = some (.string n3)
theorem Fs.on {W : World} {br m : Nat} {n1 n2 n3 : BA} {V V' : World} (h : Fs W br m n1 n2 n3 V) (hB : Below V.heap.size V V') : Fs W br m n1 n2 n3 V' := by
  have hl : br < V.heap.size := Nat.lt_of_lt_of_le h.lt h.b.size
  exact ⟨h.b.trans (hB.mono h.b.size), h.lt, (hB.cell (p := ⟨br, _, none⟩) hl).trans h.c.1, (hB.cell (p := ⟨br, _, none⟩) hl).trans h.c.2.1, (hB.cell (p := ⟨br, _, none⟩) hl).trans h.c.2.2.1, (hB.cell (p := ⟨br, _, none⟩) hl).trans h.c.2.2.2⟩

set_option maxRecDepth 100000 in
set_option maxHeartbeats 2000000 in
theorem fields1_in (n : Nat) (hn : 1 ≤ n) (r : Rec) (hok : okR r = true) (b br : Nat) (w : World) (hbw : b < w.heap.size) (hb : w.heap[br]? = some (.cells #[.int .i64 r.time, .string r.who, .string r.what, .string r.data] 26 (0, 0))) :
    Cd.SeqR Fence.wide n Try.prog 76 #[.pointer (some ⟨br, 0, none⟩)] encSm (KpF b) RelF (fun xs => xs.map Subtype.val = fldL r) (fun _ => True) 4 w := by
  intro l J Jx W hW hJ hJx hY h0
  have hbW : W.heap[br]? = some (.cells #[.int .i64 r.time, .string r.who, .string r.what, .string r.data] 26 (0, 0)) := (hW.block br (lt_of_block hb)).trans hb
  have hbW2 : b < W.heap.size := Nat.lt_of_lt_of_le hbw hW.size
  obtain ⟨m, e, hm, h1, h2, h3⟩ := okR_parts hok
  obtain ⟨t, n1, n2, n3⟩ := r
  simp only at e h1 h2 h3 hbW
  subst e
  have z0 := numS_le m hm
  have z1 : (txtS n1).size ≤ 70000 := by have := txtS_le n1 (by omega); omega
  have z2 : (txtS n2).size ≤ 70000 := by have := txtS_le n2 (by omega); omega
  have z3 : (txtS n3).size ≤ 70000 := by have := txtS_le n3 h3; omega
  have hF : fldL ⟨(m : Int), n1, n2, n3⟩ = [numS m, txtS n1, txtS n2, txtS n3] := by unfold fldL; simp only [Int.toNat_natCast]
  rw [hF]
  have HK0 := Lib.hid fun W => pInt_any m hm W
  have HK1 := Lib.hid fun W => pText_any n1 (by omega) W
  have HK2 := Lib.hid fun W => pText_any n2 (by omega) W
  have HK3 := Lib.hid fun W => pText_any n3 h3 W
  generalize numS m = S0 at *
  generalize txtS n1 = S1 at *
  generalize txtS n2 = S2 at *
  generalize txtS n3 = S3 at *
  clear hF hok h1 h2 h3 hW hb
  have HY := Lib.hid hY
  have HJ := Lib.hid hJ
  have HJX := Lib.hid hJx
  clear hY hJ hJx
  have hl := lt_of_block hbW
  have start : Fs W br m n1 n2 n3 W.drew := ⟨(Below.refl _ _).drew, hl, by show W.cell? _ = _; rw [Lib.cell_of_heap hbW]; rfl, by show W.cell? _ = _; rw [Lib.cell_of_heap hbW]; rfl, by show W.cell? _ = _; rw [Lib.cell_of_heap hbW]; rfl, by show W.cell? _ = _; rw [Lib.cell_of_heap hbW]; rfl⟩
  clear hbW
  refine callsIn_of_wp Try.func76 rfl trivial ?_ rfl
  simp only [Try.ntmps76, List.size_toArray, List.length_cons, List.length_nil, Nat.reduceAdd, Nat.reduceSub, Array.replicate_succ, Array.replicate_zero, List.push_toArray, List.append_toArray, List.nil_append, List.cons_append]
  refine wpIn_wide.2 ?_
  go_wp2_with fail
  go_region_held3 (fun V => V.cell? ⟨br, 0, none⟩ = some (.int .i64 m) ∧ V.cell? ⟨br, 1, none⟩ = some (.string n1) ∧ V.cell? ⟨br, 2, none⟩ = some (.string n2) ∧ V.cell? ⟨br, 3, none⟩ = some (.string n3)) (first | with_reducible exact hh.c | with_reducible exact start.c | exact (Fs.on hh (bla (Below.refl _ _) _)).c) (first | ((with_reducible refine (HK0.out _).mono ?_); rintro e w5 ⟨rfl, hb5⟩; have hh := Fs.on (by first | with_reducible exact hh | with_reducible exact start) hb5; clear hb5) | ((with_reducible refine (HK1.out _).mono ?_); rintro e w5 ⟨rfl, hb5⟩; have hh := Fs.on (by first | with_reducible exact hh | with_reducible exact start) hb5; clear hb5) | ((with_reducible refine (HK2.out _).mono ?_); rintro e w5 ⟨rfl, hb5⟩; have hh := Fs.on (by first | with_reducible exact hh | with_reducible exact start) hb5; clear hb5) | ((with_reducible refine (HK3.out _).mono ?_); rintro e w5 ⟨rfl, hb5⟩; have hh := Fs.on (by first | with_reducible exact hh | with_reducible exact start) hb5; clear hb5))
  have hb := hh.b.alloc hh.b.size (.cells #[.string S0, .string S1, .string S2, .string S3] 9)
  have hrow := World.alloc_heap_new w5 (.cells #[.string S0, .string S1, .string S2, .string S3] 9)
  obtain ⟨L, hL, hL4⟩ : ∃ L : List Sm4, L.map Subtype.val = [S0, S1, S2, S3] ∧ L.length = 4 := ⟨[⟨S0, by omega⟩, ⟨S1, by omega⟩, ⟨S2, by omega⟩, ⟨S3, by omega⟩], rfl, rfl⟩
  have hR4 : ∀ k (h : k < L.length), (#[Value.string S0, .string S1, .string S2, .string S3] : Array Value)[k]? = some (.string (L[k]).1) := by
    intro k h
    have e1 : (#[Value.string S0, .string S1, .string S2, .string S3] : Array Value) = (L.map fun x => Value.string x.1).toArray := by
      have : (L.map Subtype.val).map Value.string = L.map fun x => Value.string x.1 := by simp
      rw [← this, hL]; rfl
    rw [e1]; simp [h]
  have HR4 := Lib.hid hR4
  have HL := Lib.hid hL
  have HL4 := Lib.hid hL4
  have hJ5 := HJ.out _ _ (w5.alloc (.cells #[.string S0, .string S1, .string S2, .string S3] 9)) h0 hb
  have hRb : w5.heap.size ≠ b := by have := hh.b.size; omega
  clear hR4 hL hL4 h0 hb hh start
  generalize w5.alloc (.cells #[.string S0, .string S1, .string S2, .string S3] 9) = W5 at *
  generalize w5.heap.size = R at *
  have HROW := Lib.hid hrow
  clear hrow
  go_wp2_with fail
  refine (wpIn_wide (n := n)).1 ?_
  gi_loopw [19] (fun i wr => ∃ k : Nat, k ≤ 4 ∧ i = .int .i64 k ∧ J (L.take k) wr ∧ Hid (wr.heap[R]? = some (.cells #[.string S0, .string S1, .string S2, .string S3] 9))) (fun i _ => 4 - (intOf i).toNat)
  case atStart => exact ⟨0, by omega, rfl, hJ5, HROW⟩
  case round =>
    obtain ⟨k, hk, rfl, hJk, HRk⟩ := hrel
    by_cases hlt : k < 4
    · have hlt2 : k < L.length := by rw [HL4.out]; exact hlt
      have hc : wr.cell? ⟨R, k, none⟩ = some (.string (L[k]'hlt2).1) := by rw [Lib.cell_of_heap HRk.out]; exact HR4.out k hlt2
      obtain ⟨fn, tmps, assign, body, hy, hR⟩ := HY.out (L.take k) (L[k]'hlt2) wr hJk (by rw [List.length_take]; omega)
      have ht := Lib.hid (List.take_succ_eq_append_getElem (i := k) (l := L) hlt2)
      simp only [encSm] at hy
      generalize L[k]'hlt2 = x at *
      gi_wp2
      refine hR.mono ?_
      rintro e W3 (⟨rfl, hJ3, hk3⟩ | ⟨rfl, hJx3⟩)
      · gi_wp2
        go_roundw
        case rel => exact ⟨k + 1, by omega, by go_num, by rw [ht.out]; exact hJ3, Lib.hid (hk3.2 R _ 9 HRk.out (by decide) hRb)⟩
        case measure => simp [intOf]; omega
      · gi_wp2
        refine bodyPost_ret (results_none rfl _ _ _) rfl ?_
        exact ⟨⟨_, rfl⟩, .inr ⟨_, trivial, hJx3⟩⟩
    · obtain rfl : k = 4 := by omega
      gi_wp2
      go_end0
      exact ⟨⟨_, rfl⟩, .inl ⟨_, HL.out, by have := hJk; rwa [List.take_of_length_le (by rw [HL4.out]; omega)] at this⟩⟩
end Go.Proofs.Ytfheflihofafdaa
