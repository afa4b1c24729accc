/- digest.proof, at this translation: the proof for an element. -/
import Derived.Test.YtamhokedekhocaaTree1
import Derived.Deep.AppendLies
import Derived.Deep.Onto
namespace Go.Proofs.Ytamhokedekhocaa
open Go.RowKit
attribute [local go_sem] eq_arr

theorem info24 : (Try.prog.info? 24).map (fun i => (i.zero, i.size, i.bytes)) = some (some (.agg #[.int .u64 0, .int .u64 0]), 2, 16) := by kernel_rfl
def digCells (L : List Dig) : List Value := L.flatMap fun d => [.int .u64 d.1, .int .u64 d.2]
theorem digCells_snoc (L : List Dig) (d : Dig) : digCells (L ++ [d]) = digCells L ++ [.int .u64 d.1, .int .u64 d.2] := by simp [digCells]
/-- A slice of digests that the call has made. -/
def OwnD (w : World) (L : List Dig) (e : Ending) (w' : World) : Prop := ∃ v, e = .returned v ∧ w'.ownsRow w.heap.size 24 2 v L.length (digCells L) ∧ Below w.heap.size w w'
theorem own_kept {W W' : World} {B : Nat} {v : Value} {n : Nat} {xs : List Value} (h : W.ownsRow B 24 2 v n xs) (hB : Below W.heap.size W W') : W'.ownsRow B 24 2 v n xs := by
  refine h.kept (row := none) ⟨hB.os, hB.tape, hB.output, hB.size, fun k hk _ => hB.block k hk⟩ ?_
  cases hv : v.ownBlock
  · exact .inl rfl
  · exact .inr (by simp)

set_option maxHeartbeats 2000000 in
theorem proof_less (len k cap b off m : Nat) (i y0 y1 : Int) (xs : List Value) (hk : leftN len = k) (hk1 : k < len) (hl : 2 ≤ len) (hl2 : len ≤ 1099511627776) (hm : m ≤ 1000) (hc1 : len ≤ cap) (hi2 : i < (k : Int)) (w : World)
    (h1 : ∀ W, Below w.heap.size w W → Calls Try.prog 42 #[.slice (some ⟨b, off, none⟩) k cap, .int .i64 i] W fun e w' => ∃ v, e = .returned v ∧ w'.ownsRow W.heap.size 24 2 v m xs ∧ Below W.heap.size W w')
    (h2 : ∀ W, Below w.heap.size w W → Calls Try.prog 23 #[.slice (some ⟨b, off + k * 2, none⟩) (len - k) (cap - k)] W fun e w' => e = .returned (.agg #[.int .u64 y0, .int .u64 y1]) ∧ Below W.heap.size W w') :
    Calls Try.prog 42 #[.slice (some ⟨b, off, none⟩) len cap, .int .i64 i] w fun e w' => ∃ v, e = .returned v ∧ w'.ownsRow w.heap.size 24 2 v (m + 1) (xs ++ [.int .u64 y0, .int .u64 y1]) ∧ Below w.heap.size w w' := by
  obtain ⟨i0, hi, hz0, hz1, hz2⟩ := info_parts info24
  have H1 := Lib.hid h1
  have H2 := Lib.hid h2
  have HK := Lib.hid hk
  clear h1 h2 hk
  have t1 : ((len : Int) == 1) = false := by simp; omega
  have t2 : (0 : Int) ≤ (k : Int) := by omega
  have t3 : (k : Int) ≤ (len : Int) := by omega
  have t4 : (k : Int) ≤ (cap : Int) := by omega
  have t5 : (len : Int) ≤ (cap : Int) := by omega
  go_enter Try.func42, Try.ntmps42
  go_wp2_with (go_at_call 45; refine (half_any len hl hl2 _).mono ?_; rintro e w' ⟨rfl, rfl⟩; rw [HK.out])
  have start : Below w.heap.size w w.drew := (Below.refl _ w).drew
  go_region_held3 (fun W => Below w.heap.size w W) (first | exact hh | exact start | exact bla hh _)
    (first | (go_at_call 42; with_reducible refine (H1.out _ start).mono ?_; rintro e w1 ⟨v, rfl, hown, hb⟩; have hh := bl start hb; have hown1 := hown.mono (base' := w.heap.size) (Nat.le_refl _); clear hb hown) | (go_at_call 23; with_reducible refine (H2.out _ hh).mono ?_; rintro e w2 ⟨rfl, hb⟩; have hown1 := own_kept hown1 hb; have hh := bl hh hb; clear hb) | (refine step_append_lies _ rfl (.tmp 19) (.tmp 24) 35 rfl w.heap.size 24 i0 (.agg #[.int .u64 0, .int .u64 0]) 2 16 Try.underlying35 hi hz0 hz1 hz2 rfl (by decide) _ _ _ rfl (hown1.alloc _) ⟨w2.heap.size, 0, none⟩ 1 1 [.int .u64 y0, .int .u64 y1] rfl rfl (World.news_of_block (heap_alloc_new w2 _)) (by intro u hu; simp at hu; rcases hu with rfl | rfl <;> rfl) (by decide) (by unfold maxLen; omega) (by omega) (by have := hh.size; simp; omega) _ rfl ?_; intro g cap' w3 hown3 hgrow hat hlt; have hh := (bla hh (.cells #[.int .u64 y0, .int .u64 y1] 24)).grown hgrow (by have := hh.size; simp; omega) (fun k hk => (hown1.lt k hk).1)))
  go_wp2
  go_ret
  exact ⟨_, rfl, hown3, hh⟩
set_option maxHeartbeats 2000000 in
theorem proof_more (len k cap b off m : Nat) (i y0 y1 : Int) (xs : List Value) (hk : leftN len = k) (hk1 : k < len) (hl : 2 ≤ len) (hl2 : len ≤ 1099511627776) (hm : m ≤ 1000) (hc1 : len ≤ cap) (hi2 : (k : Int) ≤ i) (hi3 : i < (len : Int)) (w : World)
    (h1 : ∀ W, Below w.heap.size w W → Calls Try.prog 42 #[.slice (some ⟨b, off + k * 2, none⟩) (len - k) (cap - k), .int .i64 (i - (k : Int))] W fun e w' => ∃ v, e = .returned v ∧ w'.ownsRow W.heap.size 24 2 v m xs ∧ Below W.heap.size W w')
    (h2 : ∀ W, Below w.heap.size w W → Calls Try.prog 23 #[.slice (some ⟨b, off, none⟩) k cap] W fun e w' => e = .returned (.agg #[.int .u64 y0, .int .u64 y1]) ∧ Below W.heap.size W w') :
    Calls Try.prog 42 #[.slice (some ⟨b, off, none⟩) len cap, .int .i64 i] w fun e w' => ∃ v, e = .returned v ∧ w'.ownsRow w.heap.size 24 2 v (m + 1) (xs ++ [.int .u64 y0, .int .u64 y1]) ∧ Below w.heap.size w w' := by
  obtain ⟨i0, hi, hz0, hz1, hz2⟩ := info_parts info24
  have H1 := Lib.hid h1
  have H2 := Lib.hid h2
  have HK := Lib.hid hk
  clear h1 h2 hk
  have t1 : ((len : Int) == 1) = false := by simp; omega
  have t2 : (0 : Int) ≤ (k : Int) := by omega
  have t3 : (k : Int) ≤ (len : Int) := by omega
  have t4 : (k : Int) ≤ (cap : Int) := by omega
  have w1 : IntKind.i64.wrap (i - (k : Int)) = i - (k : Int) := by rw [IntKind.wrap_i64]; omega
  have t6 : ¬ i < (k : Int) := by omega
  have tk : ¬ cap = k := by omega
  have t5 : (len : Int) ≤ (cap : Int) := by omega
  go_enter Try.func42, Try.ntmps42
  go_wp2_with (go_at_call 45; refine (half_any len hl hl2 _).mono ?_; rintro e w' ⟨rfl, rfl⟩; rw [HK.out])
  have start : Below w.heap.size w w.drew := (Below.refl _ w).drew
  go_region_held3 (fun W => Below w.heap.size w W) (first | exact hh | exact start | exact bla hh _)
    (first | (go_at_call 42; with_reducible refine (H1.out _ start).mono ?_; rintro e w1 ⟨v, rfl, hown, hb⟩; have hh := bl start hb; have hown1 := hown.mono (base' := w.heap.size) (Nat.le_refl _); clear hb hown) | (go_at_call 23; with_reducible refine (H2.out _ hh).mono ?_; rintro e w2 ⟨rfl, hb⟩; have hown1 := own_kept hown1 hb; have hh := bl hh hb; clear hb) | (refine step_append_lies _ rfl (.tmp 32) (.tmp 37) 35 rfl w.heap.size 24 i0 (.agg #[.int .u64 0, .int .u64 0]) 2 16 Try.underlying35 hi hz0 hz1 hz2 rfl (by decide) _ _ _ rfl (hown1.alloc _) ⟨w2.heap.size, 0, none⟩ 1 1 [.int .u64 y0, .int .u64 y1] rfl rfl (World.news_of_block (heap_alloc_new w2 _)) (by intro u hu; simp at hu; rcases hu with rfl | rfl <;> rfl) (by decide) (by unfold maxLen; omega) (by omega) (by have := hh.size; simp; omega) _ rfl ?_; intro g cap' w3 hown3 hgrow hat hlt; have hh := (bla hh (.cells #[.int .u64 y0, .int .u64 y1] 24)).grown hgrow (by have := hh.size; simp; omega) (fun k hk => (hown1.lt k hk).1)))
  go_wp2
  go_ret
  exact ⟨_, rfl, hown3, hh⟩
set_option maxHeartbeats 400000 in
theorem proof_one (cap : Nat) (a : Option Addr) (i : Int) (w : World) :
    Calls Try.prog 42 #[.slice a 1 cap, .int .i64 i] w fun e w' => ∃ v, e = .returned v ∧ w'.ownsRow w.heap.size 24 2 v 0 [] ∧ Below w.heap.size w w' := by
  go_enter Try.func42, Try.ntmps42
  go_wp2
  go_ret
  exact ⟨_, rfl, World.ownsRow_nil _ _ _ _, Below.refl _ _⟩

/-- The proof for the element i of a list, as digest.proof makes it. -/
def proofT : Nat → List Dig → Nat → List Dig
  | 0, _, _ => []
  | f + 1, l, i => if l.length = 1 then [] else if i < leftN l.length then proofT f (l.take (leftN l.length)) i ++ [rootT (f + 1) (l.drop (leftN l.length))] else proofT f (l.drop (leftN l.length)) (i - leftN l.length) ++ [rootT (f + 1) (l.take (leftN l.length))]
theorem proofT_length : ∀ (f : Nat) (l : List Dig) (i : Nat), (proofT f l i).length ≤ f
  | 0, _, _ => Nat.le_refl _
  | f + 1, l, i => by
    unfold proofT
    split
    · simp
    · split
      · have := proofT_length f (l.take (leftN l.length)) i; simp; omega
      · have := proofT_length f (l.drop (leftN l.length)) (i - leftN l.length); simp; omega
theorem proof_any : ∀ (f : Nat) (L : List Dig) (i : Nat) (w : World) (v : Value), L.length < f → f ≤ 1000 → i < L.length → IsDigs w v L →
    Calls Try.prog 42 #[v, .int .i64 i] w fun e w' => ∃ v, e = .returned v ∧ w'.ownsRow w.heap.size 24 2 v (proofT f L i).length (digCells (proofT f L i)) ∧ Below w.heap.size w w'
  | 0, _, _, _, _, h, _, _, _ => absurd h (Nat.not_lt_zero _)
  | f + 1, L, i, w, v, hf, hf2, hi, hv => by
    obtain ⟨b, off, cap, rfl, h1, h2, hb, htake, hdrop, hc⟩ := hv.parts (by intro e; rw [e] at hi; exact absurd hi (Nat.not_lt_zero _))
    by_cases h3 : L.length = 1
    · have e : proofT (f + 1) L i = [] := by rw [proofT, if_pos h3]
      rw [e, h3]
      exact proof_one cap _ i w
    · obtain ⟨_, _, _, _, hk, hk2⟩ := leftN_spec L.length (by omega) (by omega)
      have hpos : 1 ≤ leftN L.length := Nat.pow_pos (by decide)
      by_cases hik : i < leftN L.length
      · have e : proofT (f + 1) L i = proofT f (L.take (leftN L.length)) i ++ [rootT (f + 1) (L.drop (leftN L.length))] := by rw [proofT, if_neg h3, if_pos hik]
        rw [e, digCells_snoc, List.length_append, List.length_singleton]
        exact proof_less L.length _ cap b off _ i _ _ _ rfl hk (by omega) (by omega) (Nat.le_trans (proofT_length f _ _) (by omega)) h1 (by omega) w
          (fun W hW => proof_any f (L.take (leftN L.length)) i W _ (by rw [List.length_take]; omega) (by omega) (by rw [List.length_take]; omega) ((htake _ (by omega)).below hW))
          (fun W hW => root_any (f + 1) (L.drop (leftN L.length)) W _ (by rw [List.length_drop]; omega) (by rw [List.length_drop]; omega) ((hdrop _ (by omega)).below hW))
      · have e : proofT (f + 1) L i = proofT f (L.drop (leftN L.length)) (i - leftN L.length) ++ [rootT (f + 1) (L.take (leftN L.length))] := by rw [proofT, if_neg h3, if_neg hik]
        rw [e, digCells_snoc, List.length_append, List.length_singleton]
        refine proof_more L.length _ cap b off _ i _ _ _ rfl hk (by omega) (by omega) (Nat.le_trans (proofT_length f _ _) (by omega)) h1 (by omega) (by omega) w
          (fun W hW => ?_)
          (fun W hW => root_any (f + 1) (L.take (leftN L.length)) W _ (by rw [List.length_take]; omega) (by rw [List.length_take]; omega) ((htake _ (by omega)).below hW))
        have := proof_any f (L.drop (leftN L.length)) (i - leftN L.length) W _ (by rw [List.length_drop]; omega) (by omega) (by rw [List.length_drop]; omega) ((hdrop _ (by omega)).below hW)
        rw [Int.natCast_sub (by omega)] at this
        exact this

set_option maxHeartbeats 400000 in
theorem proofBad_any (len cap : Nat) (a : Option Addr) (i : Int) (h : i < 0 ∨ (len : Int) ≤ i) (w : World) :
    Calls Try.prog 21 #[.slice a len cap, .int .i64 i] w fun e w' => ∃ v, e = .returned (.tuple #[v, .int .i64 2]) ∧ w'.ownsRow w.heap.size 24 2 v 0 [] ∧ Below w.heap.size w w' := by
  by_cases h1 : i < 0
  · clear h
    go_enter Try.func21, Try.ntmps21
    go_wp2
    go_ret2
    exact ⟨_, rfl, World.ownsRow_nil _ _ _ _, Below.refl _ _⟩
  · have h2 : (len : Int) ≤ i := by omega
    clear h
    go_enter Try.func21, Try.ntmps21
    go_wp2
    go_ret2
    exact ⟨_, rfl, World.ownsRow_nil _ _ _ _, Below.refl _ _⟩
set_option maxHeartbeats 400000 in
theorem proofGood_any (len cap m : Nat) (a : Option Addr) (i : Int) (xs : List Value) (h0 : 0 ≤ i) (h1 : i < (len : Int)) (w : World)
    (hp : Calls Try.prog 42 #[.slice a len cap, .int .i64 i] w fun e w' => ∃ v, e = .returned v ∧ w'.ownsRow w.heap.size 24 2 v m xs ∧ Below w.heap.size w w') :
    Calls Try.prog 21 #[.slice a len cap, .int .i64 i] w fun e w' => ∃ v, e = .returned (.tuple #[v, .int .i64 0]) ∧ w'.ownsRow w.heap.size 24 2 v m xs ∧ Below w.heap.size w w' := by
  have HP := Lib.hid hp
  clear hp
  have t0 : ¬ i < 0 := by omega
  have t1 : ¬ (len : Int) ≤ i := by omega
  go_enter Try.func21, Try.ntmps21
  go_wp2_with fail
  refine HP.out.mono ?_
  rintro e w' ⟨v, rfl, hown, hb⟩
  have HO := Lib.hid hown
  clear hown
  go_wp2
  go_ret2
  exact ⟨_, rfl, HO.out, hb⟩
end Go.Proofs.Ytamhokedekhocaa
