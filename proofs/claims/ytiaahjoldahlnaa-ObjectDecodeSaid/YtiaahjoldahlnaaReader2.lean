/- parts.Reader's numbers, texts and digests, at this translation. -/
import Derived.Test.YtiaahjoldahlnaaReader
import Derived.Laws.Bits64b
namespace Go.Proofs.Ytiaahjoldahlnaa
open Go.RowKit Go.Great
attribute [local go_sem] eq_arr

def numL (l : List Nat) : Nat := l.foldl (fun n d => n * 256 + d) 0
theorem numL_snoc (l : List Nat) (d : Nat) : numL (l ++ [d]) = numL l * 256 + d := by simp [numL]
theorem fold_lt (l : List Nat) (h : ∀ d ∈ l, d < 256) (a k : Nat) (ha : a < 256 ^ k) : l.foldl (fun n d => n * 256 + d) a < 256 ^ (k + l.length) := by
  induction l generalizing a k with
  | nil => simpa using ha
  | cons d l ih =>
    have hd := h d (by simp)
    have := ih (fun x hx => h x (by simp [hx])) (a * 256 + d) (k + 1) (by rw [Nat.pow_succ]; omega)
    rw [List.foldl_cons, List.length_cons, show k + (l.length + 1) = k + 1 + l.length by omega]
    exact this
theorem numL_lt (l : List Nat) (h : ∀ d ∈ l, d < 256) : numL l < 256 ^ l.length := by
  have := fold_lt l h 0 0 (by decide)
  rwa [Nat.zero_add] at this
theorem or_sum (n c : Nat) (hn : n < 72057594037927936) (hc : c < 256) : bits BinOp.or IntKind.u64 ((n : Int) * 256) (IntKind.u64.wrap (c : Int)) = ((n * 256 + c : Nat) : Int) := by
  have e1 : IntKind.u64.wrap (c : Int) = c := by rw [IntKind.wrap_u64]; omega
  have e2 : ((n : Int) * 256) = ((n * 256 : Nat) : Int) := by omega
  rw [e1, e2, bits_or_u64_nat _ _ (by omega) (by omega)]
  have := Nat.shiftLeft_add_eq_or_of_lt (show c < 2 ^ 8 by omega) n
  rw [Nat.shiftLeft_eq] at this
  rw [← this]
theorem take_num (s : BA) (j : Nat) (h : j < s.size) : numL ((Cd.nats s).take (j + 1)) = numL ((Cd.nats s).take j) * 256 + s[j].toNat := by
  rw [List.take_succ_eq_append_getElem (by rw [Cd.nats_length]; exact h), numL_snoc, Cd.nats_get]
theorem take_lt (s : BA) (j : Nat) (h : j ≤ 7) : numL ((Cd.nats s).take j) < 72057594037927936 := by
  have h1 := numL_lt ((Cd.nats s).take j) (fun d hd => Cd.nats_lt s d (List.mem_of_mem_take hd))
  have h2 : 256 ^ ((Cd.nats s).take j).length ≤ 256 ^ 7 := Nat.pow_le_pow_right (by omega) (by rw [List.length_take]; omega)
  omega

set_option maxHeartbeats 1000000 in
theorem number8_any (s : BA) (hs : s.size ≤ 8) (w : World) : Calls Try.prog 92 #[.string s] w fun e w' => e = .returned (.int .u64 (num8 s)) ∧ w' = w := by
  go_enter Try.func92, Try.ntmps92
  go_wp2
  go_loop [3, 7] (fun s3 s7 => ∃ j : Nat, j ≤ s.size ∧ s7 = .int .i64 j ∧ s3 = .int .u64 (numL ((Cd.nats s).take j) : Nat)) (fun _ i => s.size - (intOf i).toNat)
  case atStart => exact ⟨0, Nat.zero_le _, rfl, rfl⟩
  case round =>
    obtain ⟨j, hj, rfl, rfl⟩ := hrel
    by_cases hlt : j < s.size
    · have h1 := take_num s j hlt
      have h2 := take_lt s j (by omega)
      have H1 := Lib.hid h1
      clear h1
      have H3 := Lib.hid (or_sum (numL ((Cd.nats s).take j)) s[j].toNat h2 s[j].toNat_lt)
      generalize numL ((Cd.nats s).take j) = n at H1 h2 H3
      go_wp2
      go_round
      case rel => exact ⟨j + 1, by omega, by go_num, by rw [H3.out, H1.out]⟩
      case measure => simp [intOf]; omega
    · obtain rfl : j = s.size := by omega
      have e : numL ((Cd.nats s).take s.size) = num8 s := by rw [← Cd.nats_length, List.take_length]; rfl
      rw [e]
      clear e
      go_wp2
      go_ret
      exact ⟨rfl, rfl⟩

theorem rdY_le (k : Nat) (r : Rd) (m : Nat) (h : r.1.size ≤ m) : (rdY k r).2.1.size ≤ m := by
  unfold rdY
  split
  · simp only [ByteArray.size_extract]; omega
  · exact Nat.zero_le _
theorem rdY_val (k : Nat) (r : Rd) : (rdY k r).1.size ≤ k := by
  unfold rdY
  split
  · simp only [ByteArray.size_extract]; omega
  · exact Nat.zero_le _
theorem bytes8_any (N : Nat) (r : Rd) (w : World) (h : RdAt w N r) (hm : r.1.size ≤ maxLen) : Reads 59 #[.pointer (some ⟨N, 0, none⟩), .int .i64 8] N w (.string (rdY 8 r).1) (rdY 8 r).2 := bytes_any 8 N r w h hm
set_option maxHeartbeats 1000000 in
theorem big8_any (N : Nat) (r : Rd) (w : World) (h : RdAt w N r) (hm : r.1.size ≤ maxLen) (v : Nat) (r' : Rd) (hv : rdB r = (v, r')) : Reads 90 #[.pointer (some ⟨N, 0, none⟩), .int .i64 8] N w (.int .u64 v) r' := by
  have H := Lib.hid (bytes8_any N r w h hm)
  have hz := rdY_val 8 r
  unfold rdB at hv
  unfold Reads at H ⊢
  generalize (rdY 8 r).1 = s at H hz hv
  generalize (rdY 8 r).2 = r2 at H hv
  obtain ⟨rfl, rfl⟩ := Prod.mk.inj hv
  have H2 := Lib.hid (number8_any s hz)
  clear h hv
  go_enter Try.func90, Try.ntmps90
  go_wp2_with fail
  ((with_reducible refine H.out.mono ?_); rintro e w1 ⟨rfl, hr, ho⟩)
  go_wp2_with fail
  ((with_reducible refine (H2.out _).mono ?_); rintro e w2 ⟨rfl, rfl⟩)
  go_wp2
  go_ret
  exact ⟨rfl, hr, ho⟩
theorem rdB_le (r : Rd) (m : Nat) (h : r.1.size ≤ m) : (rdB r).2.1.size ≤ m := rdY_le 8 r m h
theorem rdD_le (r : Rd) (m : Nat) (h : r.1.size ≤ m) : (rdD r).2.1.size ≤ m := rdB_le _ m (rdB_le r m h)

set_option maxHeartbeats 2000000 in
theorem digR_any (N : Nat) (r : Rd) (w : World) (h : RdAt w N r) (hm : r.1.size ≤ maxLen) (d1 d2 : Nat) (r' : Rd) (hv : rdD r = ((d1, d2), r')) : Reads 83 #[.pointer (some ⟨N, 0, none⟩)] N w (.agg #[.int .u64 d1, .int .u64 d2]) r' := by
  have hN := h.lt
  have h0 : RdAt (w.alloc (.cells #[.int .u64 0, .int .u64 0] 25)) N r := h.on ((Below.refl _ _).alloc (Nat.le_refl _) _)
  have q0 : Only1 N w (w.alloc (.cells #[.int .u64 0, .int .u64 0] 25)) := Only1.below ((Below.refl _ _).alloc (Nat.le_refl _) _) hN
  have x0 : (w.alloc (.cells #[.int .u64 0, .int .u64 0] 25)).heap[w.heap.size]? = some (.cells #[.int .u64 0, .int .u64 0] 25 (0, 0)) := World.alloc_heap_new _ _
  have hm1 := rdB_le r maxLen hm
  unfold rdD at hv
  rcases e1 : rdB r with ⟨v1, r1⟩
  rw [e1] at hv hm1
  rcases e2 : rdB r1 with ⟨v2, r2⟩
  rw [e2] at hv
  obtain ⟨ha, rfl⟩ := Prod.mk.inj hv
  obtain ⟨rfl, rfl⟩ := Prod.mk.inj ha
  have H1 := Lib.hid (fun W (hW : RdAt W N r) => big8_any N r W hW hm v1 r1 e1)
  have H2 := Lib.hid (fun W (hW : RdAt W N r1) => big8_any N r1 W hW hm1 v2 r2 e2)
  unfold Reads at H1 H2 ⊢
  clear h hv ha e1 e2 hm hm1
  go_enter Try.func83, Try.ntmps83
  go_wp2_with fail
  ((with_reducible refine (H1.out _ h0).mono ?_); rintro e w1 ⟨rfl, hr1, ho1⟩)
  have x1 := ho1.at x0 (by omega)
  have q1 := q0.trans ho1
  clear h0 q0 x0 ho1
  go_wp2_with fail
  ((with_reducible refine (H2.out _ hr1).mono ?_); rintro e w2 ⟨rfl, hr2, ho2⟩)
  have x2 := ho2.at x1 (by omega)
  have q2 := q1.trans ho2
  clear hr1 q1 x1 ho2
  have c0 : w2.cell? ⟨w.heap.size, 0, none⟩ = some (.int .u64 0) := by rw [Lib.cell_of_heap x2]; rfl
  have c1 : w2.cell? ⟨w.heap.size, 1, none⟩ = some (.int .u64 0) := by rw [Lib.cell_of_heap x2]; rfl
  have f0 := Lib.frozen_of_heap x2 0
  have f1 := Lib.frozen_of_heap x2 1
  have r9 : RdAt ((w2.setCell ⟨w.heap.size, 0, none⟩ (.int .u64 v1)).setCell ⟨w.heap.size, 1, none⟩ (.int .u64 v2)) N r2 := by
    unfold RdAt at hr2 ⊢
    rw [Below.heap_setCell _ ⟨w.heap.size, 1, none⟩ _ N (by show N ≠ w.heap.size; omega), Below.heap_setCell _ ⟨w.heap.size, 0, none⟩ _ N (by show N ≠ w.heap.size; omega)]
    exact hr2
  have q9 : Only1 N w ((w2.setCell ⟨w.heap.size, 0, none⟩ (.int .u64 v1)).setCell ⟨w.heap.size, 1, none⟩ (.int .u64 v2)) :=
    ⟨(q2.b.setCell (p := ⟨w.heap.size, 0, none⟩) (show N ≤ w.heap.size by omega) _).setCell (p := ⟨w.heap.size, 1, none⟩) (show N ≤ w.heap.size by omega) _, fun j h1 h2 => by
      rw [Below.heap_setCell _ ⟨w.heap.size, 1, none⟩ _ j (by show j ≠ w.heap.size; omega), Below.heap_setCell _ ⟨w.heap.size, 0, none⟩ _ j (by show j ≠ w.heap.size; omega)]
      exact q2.k j h1 h2⟩
  clear hr2 q2 x2
  go_wp2
  exact bodyPost_ret (v := .agg #[.int .u64 v1, .int .u64 v2]) (by simp [results, Try.results83, go_sem, c0, c1, World.cell?_setCell_other, World.cell?_setCell_same']) rfl ⟨rfl, r9, q9⟩
end Go.Proofs.Ytiaahjoldahlnaa
