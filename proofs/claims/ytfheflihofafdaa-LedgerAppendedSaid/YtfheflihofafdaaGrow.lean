/- Growth proofs, of program and reference, at this translation. -/
import Derived.Test.YtfheflihofafdaaRefApp
import Derived.Deep.Onto
import Derived.Laws.EntriesVeiled
namespace Go.Proofs.Ytfheflihofafdaa
open Go.RowKit Go.Great Pt Tr
attribute [local go_sem] eq_arr

set_option maxHeartbeats 400000 in
set_option maxRecDepth 100000 in
theorem ledLeft_any (n : Nat) (h : 2 ≤ n) (h2 : n ≤ 1099511627776) (w : World) : Calls Try.prog 49 #[.int .i64 n] w fun e w' => e = .returned (.int .i64 (leftN n)) ∧ w = w' := by
  go_enter Try.func49, Try.ntmps49
  go_wp2
  go_loop [3] (fun k => ∃ j : Nat, j < 40 ∧ 2 ^ j < n ∧ k = .int .i64 (((2 ^ j : Nat) : Int))) (fun k => n - (intOf k).toNat)
  case atStart => exact ⟨0, by omega, by omega, rfl⟩
  case round =>
    obtain ⟨j, hj, hlt, rfl⟩ := hrel
    obtain ⟨p, hp⟩ : ∃ p : Nat, p = 2 ^ j := ⟨_, rfl⟩
    rw [← hp] at hlt ⊢
    have HP := Lib.hid hp
    have hpos : 0 < p := by rw [hp]; exact Nat.pow_pos (by decide)
    clear hp
    by_cases hq : 2 * p < n
    · have hq' : 2 * (p : Int) < (n : Int) := by omega
      go_wp2
      go_round
      case rel =>
        refine ⟨j + 1, ?_, by rw [Nat.pow_succ, ← HP.out]; omega, ?_⟩
        · rcases Nat.lt_or_ge (j + 1) 40 with h3 | h3
          · exact h3
          · have h4 := Nat.pow_le_pow_right (n := 2) (by decide) (show 39 ≤ j by omega)
            rw [← HP.out] at h4
            omega
        · rw [Nat.pow_succ, ← HP.out, Nat.mul_comm]; go_num
      case measure => simp [intOf]; omega
    · have hq' : ¬ 2 * (p : Int) < (n : Int) := by omega
      have HE := Lib.hid (leftN_unique n j h (by omega) (by rw [← HP.out]; exact hlt) (by rw [← HP.out]; omega))
      go_wp2
      go_ret
      exact ⟨ret_int (by rw [HE.out, ← HP.out]), rfl⟩

set_option maxHeartbeats 400000 in
set_option maxRecDepth 100000 in
theorem ledHalf_any (n : Nat) (h : 2 ≤ n) (h2 : n ≤ 1099511627776) (w : World) : Calls Try.prog 56 #[.int .i64 n] w fun e w' => e = .returned (.int .i64 (leftN n)) ∧ w = w' := by
  obtain ⟨j, e, hj, hl, _, _⟩ := leftN_spec n h (by omega)
  have hpw := pow_lt40 j hj
  have HL := Lib.hid hl
  have HE := Lib.hid e
  clear hl e
  have wu : IntKind.u64.wrap ((n : Int) - 1) = ((n - 1 : Nat) : Int) := by rw [IntKind.wrap_u64]; omega
  go_enter Try.func56, Try.ntmps56
  go_wp2_with fail
  refine (Try.bits_Len _ _ (by omega) (by omega)).mono ?_
  rintro e w' ⟨rfl, rfl⟩
  rw [Int.toNat_natCast, HE.out]
  have hs : ((((j + 1 : Nat) : Int)) - 1) = (j : Int) := by omega
  have hj1 : (0 : Int) ≤ (j : Int) := by omega
  have hj2 : (j : Int) < 40 := by omega
  have hw : wrap64 ((2 : Int) ^ j) = ((2 ^ j : Nat) : Int) := by
    have : ((2 : Int) ^ j) = ((2 ^ j : Nat) : Int) := by simp
    rw [this]
    clear this
    generalize (2 : Nat) ^ j = p at hpw ⊢
    unfold wrap64
    omega
  have HW := Lib.hid hw
  clear hw
  go_wp2
  go_ret
  exact ⟨ret_int (by rw [HW.out, HL.out]), rfl⟩

/-- The growth proof from the first n to all digests. -/
def grT : Nat → Nat → List Dig → Bool → List Dig
  | 0, _, _, _ => []
  | f + 1, n, L, whole => if n = L.length then (if whole then [] else [rootT (f + 1) L]) else if n ≤ leftN L.length then grT f n (L.take (leftN L.length)) whole ++ [rootT (f + 1) (L.drop (leftN L.length))]
    else grT f (n - leftN L.length) (L.drop (leftN L.length)) false ++ [rootT (f + 1) (L.take (leftN L.length))]
theorem grT_length : ∀ (f n : Nat) (L : List Dig) (b : Bool), (grT f n L b).length ≤ f
  | 0, _, _, _ => Nat.le_refl _
  | f + 1, n, L, b => by
    unfold grT
    split
    · split <;> simp
    · split
      · have := grT_length f n (L.take (leftN L.length)) b; simp; omega
      · have := grT_length f (n - leftN L.length) (L.drop (leftN L.length)) false; simp; omega
theorem own_one (W : World) (B : Nat) (h : B ≤ W.heap.size) (x y : Int) : (W.alloc (.cells #[.int .u64 x, .int .u64 y] 40)).ownsRow B 40 2 (.slice (some ⟨W.heap.size, 0, none⟩) 1 1) 1 [.int .u64 x, .int .u64 y] :=
  ⟨by simp, .inr ⟨W.heap.size, 1, _, rfl, h, World.alloc_heap_new W _, Nat.le_refl _, by decide, rfl, by simp⟩⟩

set_option maxHeartbeats 4000000 in
set_option maxRecDepth 100000 in
theorem refGr_whole (n c : Nat) (a : Option Addr) (_hn : n ≤ 1000) (w : World) :
    Calls Try.prog 39 #[.int .i64 n, .slice a n c, .bool true] w fun e w' => e = .returned (.slice none 0 0) ∧ Below w.heap.size w w' := by
  have e : ((n : Int) == (n : Int)) = true := by simp
  go_enter Try.func39, Try.ntmps39
  go_wp2
  go_ret
  exact ⟨rfl, Below.refl _ _⟩
set_option maxHeartbeats 4000000 in
set_option maxRecDepth 100000 in
theorem refGr_one (n c : Nat) (a : Option Addr) (x y : Int) (w : World) 
    (h2 : ∀ W, Below w.heap.size w W → Calls Try.prog 41 #[.slice a n c] W fun e w' => e = .returned (.agg #[.int .u64 x, .int .u64 y]) ∧ Below W.heap.size W w') :
    Calls Try.prog 39 #[.int .i64 n, .slice a n c, .bool false] w fun e w' => ∃ v, e = .returned v ∧ w'.ownsRow w.heap.size 40 2 v 1 [.int .u64 x, .int .u64 y] ∧ Below w.heap.size w w' := by
  have e : ((n : Int) == (n : Int)) = true := by simp
  have H2 := Lib.hid h2
  clear h2
  go_enter Try.func39, Try.ntmps39
  go_wp2_with fail
  ((with_reducible refine (H2.out _ (Below.refl _ _)).mono ?_); rintro e w1 ⟨rfl, hb⟩)
  have ho := own_one w1 w.heap.size hb.size x y
  have hb2 := bla hb (.cells #[.int .u64 x, .int .u64 y] 40)
  go_wp2
  go_ret
  exact ⟨_, rfl, ho, hb2⟩
set_option maxHeartbeats 4000000 in
set_option maxRecDepth 100000 in
theorem refGr_less (len k c b off m : Nat) (n : Int) (wh : Bool) (y0 y1 : Int) (xs : List Value) (hk : leftN len = k) (hk1 : k < len) (hl : 2 ≤ len) (hl2 : len ≤ 1000) (hm : m ≤ 1000) (hc1 : len ≤ c) (hi2 : n ≤ (k : Int)) (w : World) 
    (h1 : ∀ W, Below w.heap.size w W → Calls Try.prog 39 #[.int .i64 n, .slice (some ⟨b, off, none⟩) k c, .bool wh] W fun e w' => ∃ v, e = .returned v ∧ w'.ownsRow W.heap.size 40 2 v m xs ∧ Below W.heap.size W w')
    (h2 : ∀ W, Below w.heap.size w W → Calls Try.prog 41 #[.slice (some ⟨b, off + k * 2, none⟩) (len - k) (c - k)] W fun e w' => e = .returned (.agg #[.int .u64 y0, .int .u64 y1]) ∧ Below W.heap.size W w') :
    Calls Try.prog 39 #[.int .i64 n, .slice (some ⟨b, off, none⟩) len c, .bool wh] w fun e w' => ∃ v, e = .returned v ∧ w'.ownsRow w.heap.size 40 2 v (m + 1) (xs ++ [.int .u64 y0, .int .u64 y1]) ∧ Below w.heap.size w w' := by
  obtain ⟨i0, hi, hz0, hz1, hz2⟩ := info_parts info24
  have H1 := Lib.hid h1
  have H2 := Lib.hid h2
  have HK := Lib.hid hk
  clear h1 h2 hk
  have t1 : (n == (len : Int)) = false := by simp; omega
  have t2 : (0 : Int) ≤ (k : Int) := by omega
  have t3 : (k : Int) ≤ (len : Int) := by omega
  have t4 : (k : Int) ≤ (c : Int) := by omega
  have t5 : (len : Int) ≤ (c : Int) := by omega
  have tk : ¬ c = k := by omega
  go_enter Try.func39, Try.ntmps39
  go_wp2_with fail
  ((with_reducible refine (ledLeft_any len hl (by omega) _).mono ?_); rintro e w' ⟨rfl, rfl⟩)
  rw [HK.out]
  go_wp2_with fail
  have start : Below w.heap.size w w.drew := (Below.refl _ w).drew
  go_region_held3 (fun W => Below w.heap.size w W) (first | exact hh | exact start | exact bla hh _)
    (first | (go_at_call 39; with_reducible refine (H1.out _ start).mono ?_; rintro e w1 ⟨v, rfl, hown, hb⟩; have hh := bl start hb; have hown1 := hown.mono (base' := w.heap.size) (Nat.le_refl _); clear hb hown) | (go_at_call 41; with_reducible refine (H2.out _ hh).mono ?_; rintro e w2 ⟨rfl, hb⟩; have hown1 := Tr.own_kept hown1 hb; have hh := bl hh hb; clear hb) | (refine step_append_lies _ rfl (.tmp 33) (.tmp 38) 35 rfl w.heap.size 40 i0 (.agg #[.int .u64 0, .int .u64 0]) 2 16 Try.underlying35 hi hz0 hz1 hz2 rfl (by decide) _ _ _ rfl (hown1.alloc _) ⟨w2.heap.size, 0, none⟩ 1 1 [.int .u64 y0, .int .u64 y1] rfl rfl (World.news_of_block (heap_alloc_new w2 _)) (by intro u hu; simp at hu; rcases hu with rfl | rfl <;> rfl) (by decide) (by unfold maxLen; omega) (by omega) (by have := hh.size; simp; omega) _ rfl ?_; intro g cap' w3 hown3 hgrow hat hlt; have hh := (bla hh (.cells #[.int .u64 y0, .int .u64 y1] 40)).grown hgrow (by have := hh.size; simp; omega) (fun k hk => (hown1.lt k hk).1)))
  go_wp2
  go_ret
  exact ⟨_, rfl, hown3, hh⟩
set_option maxHeartbeats 4000000 in
set_option maxRecDepth 100000 in
theorem refGr_more (len k c b off m : Nat) (n : Int) (wh : Bool) (y0 y1 : Int) (xs : List Value) (hk : leftN len = k) (hk1 : k < len) (hl : 2 ≤ len) (hl2 : len ≤ 1000) (hm : m ≤ 1000) (hc1 : len ≤ c) (hi2 : (k : Int) < n) (hi3 : n < (len : Int)) (w : World) 
    (h1 : ∀ W, Below w.heap.size w W → Calls Try.prog 39 #[.int .i64 (n - (k : Int)), .slice (some ⟨b, off + k * 2, none⟩) (len - k) (c - k), .bool false] W fun e w' => ∃ v, e = .returned v ∧ w'.ownsRow W.heap.size 40 2 v m xs ∧ Below W.heap.size W w')
    (h2 : ∀ W, Below w.heap.size w W → Calls Try.prog 41 #[.slice (some ⟨b, off, none⟩) k c] W fun e w' => e = .returned (.agg #[.int .u64 y0, .int .u64 y1]) ∧ Below W.heap.size W w') :
    Calls Try.prog 39 #[.int .i64 n, .slice (some ⟨b, off, none⟩) len c, .bool wh] w fun e w' => ∃ v, e = .returned v ∧ w'.ownsRow w.heap.size 40 2 v (m + 1) (xs ++ [.int .u64 y0, .int .u64 y1]) ∧ Below w.heap.size w w' := by
  obtain ⟨i0, hi, hz0, hz1, hz2⟩ := info_parts info24
  have H1 := Lib.hid h1
  have H2 := Lib.hid h2
  have HK := Lib.hid hk
  clear h1 h2 hk
  have t1 : (n == (len : Int)) = false := by simp; omega
  have t2 : (0 : Int) ≤ (k : Int) := by omega
  have t3 : (k : Int) ≤ (len : Int) := by omega
  have t4 : (k : Int) ≤ (c : Int) := by omega
  have t5 : (len : Int) ≤ (c : Int) := by omega
  have tk : ¬ c = k := by omega
  have w1 : IntKind.i64.wrap (n - (k : Int)) = n - (k : Int) := by rw [IntKind.wrap_i64]; omega
  have t6 : ¬ n ≤ (k : Int) := by omega
  go_enter Try.func39, Try.ntmps39
  go_wp2_with fail
  ((with_reducible refine (ledLeft_any len hl (by omega) _).mono ?_); rintro e w' ⟨rfl, rfl⟩)
  rw [HK.out]
  go_wp2_with fail
  have start : Below w.heap.size w w.drew := (Below.refl _ w).drew
  go_region_held3 (fun W => Below w.heap.size w W) (first | exact hh | exact start | exact bla hh _)
    (first | (go_at_call 39; with_reducible refine (H1.out _ start).mono ?_; rintro e w1 ⟨v, rfl, hown, hb⟩; have hh := bl start hb; have hown1 := hown.mono (base' := w.heap.size) (Nat.le_refl _); clear hb hown) | (go_at_call 41; with_reducible refine (H2.out _ hh).mono ?_; rintro e w2 ⟨rfl, hb⟩; have hown1 := Tr.own_kept hown1 hb; have hh := bl hh hb; clear hb) | (refine step_append_lies _ rfl (.tmp 46) (.tmp 51) 35 rfl w.heap.size 40 i0 (.agg #[.int .u64 0, .int .u64 0]) 2 16 Try.underlying35 hi hz0 hz1 hz2 rfl (by decide) _ _ _ rfl (hown1.alloc _) ⟨w2.heap.size, 0, none⟩ 1 1 [.int .u64 y0, .int .u64 y1] rfl rfl (World.news_of_block (heap_alloc_new w2 _)) (by intro u hu; simp at hu; rcases hu with rfl | rfl <;> rfl) (by decide) (by unfold maxLen; omega) (by omega) (by have := hh.size; simp; omega) _ rfl ?_; intro g cap' w3 hown3 hgrow hat hlt; have hh := (bla hh (.cells #[.int .u64 y0, .int .u64 y1] 40)).grown hgrow (by have := hh.size; simp; omega) (fun k hk => (hown1.lt k hk).1)))
  go_wp2
  go_ret
  exact ⟨_, rfl, hown3, hh⟩

theorem keepB {w W0 W : World} {B : Nat} {x : Value} (h0 : Below w.heap.size w W0 ∧ W0.cell? ⟨B, 0, none⟩ = some x) (hlt : B < w.heap.size) (hb : Below w.heap.size w W) : Below w.heap.size w W ∧ W.cell? ⟨B, 0, none⟩ = some x :=
  ⟨hb, (hb.cell (p := ⟨B, 0, none⟩) hlt).trans ((h0.1.cell (p := ⟨B, 0, none⟩) hlt).symm.trans h0.2)⟩
set_option maxHeartbeats 4000000 in
set_option maxRecDepth 100000 in
theorem gr_whole (n c : Nat) (a : Option Addr) (_hn : n ≤ 1000) (w : World) (B : Nat) :
    Calls Try.prog 55 #[.int .i64 n, .slice a n c, .bool true, .pointer (some ⟨B, 0, none⟩)] w fun e w' => e = .returned (.slice none 0 0) ∧ Below w.heap.size w w' := by
  have e : ((n : Int) == (n : Int)) = true := by simp
  go_enter Try.func55, Try.ntmps55
  go_wp2
  go_ret
  exact ⟨rfl, Below.refl _ _⟩
set_option maxHeartbeats 4000000 in
set_option maxRecDepth 100000 in
theorem gr_one (n c : Nat) (a : Option Addr) (x y : Int) (w : World) (B : Nat) 
    (h2 : ∀ W, Below w.heap.size w W → Calls Try.prog 40 #[.slice a n c] W fun e w' => e = .returned (.agg #[.int .u64 x, .int .u64 y]) ∧ Below W.heap.size W w') :
    Calls Try.prog 55 #[.int .i64 n, .slice a n c, .bool false, .pointer (some ⟨B, 0, none⟩)] w fun e w' => ∃ v, e = .returned v ∧ w'.ownsRow w.heap.size 40 2 v 1 [.int .u64 x, .int .u64 y] ∧ Below w.heap.size w w' := by
  have e : ((n : Int) == (n : Int)) = true := by simp
  have H2 := Lib.hid h2
  clear h2
  go_enter Try.func55, Try.ntmps55
  go_wp2_with fail
  ((with_reducible refine (H2.out _ (Below.refl _ _)).mono ?_); rintro e w1 ⟨rfl, hb⟩)
  have ho := own_one w1 w.heap.size hb.size x y
  have hb2 := bla hb (.cells #[.int .u64 x, .int .u64 y] 40)
  go_wp2
  go_ret
  exact ⟨_, rfl, ho, hb2⟩
set_option maxHeartbeats 4000000 in
set_option maxRecDepth 100000 in
theorem gr_less (len k c b off m : Nat) (n : Int) (wh : Bool) (y0 y1 : Int) (xs : List Value) (hk : leftN len = k) (hk1 : k < len) (hl : 2 ≤ len) (hl2 : len ≤ 1000) (hm : m ≤ 1000) (hc1 : len ≤ c) (hi2 : n ≤ (k : Int)) (w : World) (B : Nat) (hbx : w.heap[B]? = some (.cells #[.func (.func 55) #[] #[.pointer (some ⟨B, 0, none⟩)]] 57 (0, 0))) 
    (h1 : ∀ W, Below w.heap.size w W → W.heap[B]? = some (.cells #[.func (.func 55) #[] #[.pointer (some ⟨B, 0, none⟩)]] 57 (0, 0)) → Calls Try.prog 55 #[.int .i64 n, .slice (some ⟨b, off, none⟩) k c, .bool wh, .pointer (some ⟨B, 0, none⟩)] W fun e w' => ∃ v, e = .returned v ∧ w'.ownsRow W.heap.size 40 2 v m xs ∧ Below W.heap.size W w')
    (h2 : ∀ W, Below w.heap.size w W → Calls Try.prog 40 #[.slice (some ⟨b, off + k * 2, none⟩) (len - k) (c - k)] W fun e w' => e = .returned (.agg #[.int .u64 y0, .int .u64 y1]) ∧ Below W.heap.size W w') :
    Calls Try.prog 55 #[.int .i64 n, .slice (some ⟨b, off, none⟩) len c, .bool wh, .pointer (some ⟨B, 0, none⟩)] w fun e w' => ∃ v, e = .returned v ∧ w'.ownsRow w.heap.size 40 2 v (m + 1) (xs ++ [.int .u64 y0, .int .u64 y1]) ∧ Below w.heap.size w w' := by
  obtain ⟨i0, hi, hz0, hz1, hz2⟩ := info_parts info24
  have H1 := Lib.hid h1
  have H2 := Lib.hid h2
  have HK := Lib.hid hk
  clear h1 h2 hk
  have t1 : (n == (len : Int)) = false := by simp; omega
  have t2 : (0 : Int) ≤ (k : Int) := by omega
  have t3 : (k : Int) ≤ (len : Int) := by omega
  have t4 : (k : Int) ≤ (c : Int) := by omega
  have t5 : (len : Int) ≤ (c : Int) := by omega
  have tk : ¬ c = k := by omega
  go_enter Try.func55, Try.ntmps55
  go_wp2_with fail
  ((with_reducible refine (ledHalf_any len hl (by omega) _).mono ?_); rintro e w' ⟨rfl, rfl⟩)
  rw [HK.out]
  go_wp2_with fail
  have start : Below w.heap.size w w.drew ∧ w.drew.cell? ⟨B, 0, none⟩ = some (.func (.func 55) #[] #[.pointer (some ⟨B, 0, none⟩)]) := ⟨(Below.refl _ w).drew, by show w.cell? _ = _; rw [Lib.cell_of_heap hbx]; rfl⟩
  have hBlt := lt_of_block hbx
  go_region_held3 (fun W => Below w.heap.size w W ∧ W.cell? ⟨B, 0, none⟩ = some (.func (.func 55) #[] #[.pointer (some ⟨B, 0, none⟩)])) (first | with_reducible exact keepB start hBlt hh | with_reducible exact start | with_reducible exact keepB start hBlt (bla hh _))
    (first | (go_at_call 55; with_reducible refine (H1.out _ start.1 ((start.1.block _ hBlt).trans hbx)).mono ?_; rintro e w1 ⟨v, rfl, hown, hb⟩; have hh := bl start.1 hb; have hown1 := hown.mono (base' := w.heap.size) (Nat.le_refl _); clear hb hown) | (go_at_call 40; with_reducible refine (H2.out _ hh).mono ?_; rintro e w2 ⟨rfl, hb⟩; have hown1 := Tr.own_kept hown1 hb; have hh := bl hh hb; clear hb) | (refine step_append_lies _ rfl (.tmp 29) (.tmp 34) 35 rfl w.heap.size 40 i0 (.agg #[.int .u64 0, .int .u64 0]) 2 16 Try.underlying35 hi hz0 hz1 hz2 rfl (by decide) _ _ _ rfl (hown1.alloc _) ⟨w2.heap.size, 0, none⟩ 1 1 [.int .u64 y0, .int .u64 y1] rfl rfl (World.news_of_block (heap_alloc_new w2 _)) (by intro u hu; simp at hu; rcases hu with rfl | rfl <;> rfl) (by decide) (by unfold maxLen; omega) (by omega) (by have := hh.size; simp; omega) _ rfl ?_; intro g cap' w3 hown3 hgrow hat hlt; have hh := (bla hh (.cells #[.int .u64 y0, .int .u64 y1] 40)).grown hgrow (by have := hh.size; simp; omega) (fun k hk => (hown1.lt k hk).1)))
  go_wp2
  go_ret
  exact ⟨_, rfl, hown3, hh⟩
set_option maxHeartbeats 4000000 in
set_option maxRecDepth 100000 in
theorem gr_more (len k c b off m : Nat) (n : Int) (wh : Bool) (y0 y1 : Int) (xs : List Value) (hk : leftN len = k) (hk1 : k < len) (hl : 2 ≤ len) (hl2 : len ≤ 1000) (hm : m ≤ 1000) (hc1 : len ≤ c) (hi2 : (k : Int) < n) (hi3 : n < (len : Int)) (w : World) (B : Nat) (hbx : w.heap[B]? = some (.cells #[.func (.func 55) #[] #[.pointer (some ⟨B, 0, none⟩)]] 57 (0, 0))) 
    (h1 : ∀ W, Below w.heap.size w W → W.heap[B]? = some (.cells #[.func (.func 55) #[] #[.pointer (some ⟨B, 0, none⟩)]] 57 (0, 0)) → Calls Try.prog 55 #[.int .i64 (n - (k : Int)), .slice (some ⟨b, off + k * 2, none⟩) (len - k) (c - k), .bool false, .pointer (some ⟨B, 0, none⟩)] W fun e w' => ∃ v, e = .returned v ∧ w'.ownsRow W.heap.size 40 2 v m xs ∧ Below W.heap.size W w')
    (h2 : ∀ W, Below w.heap.size w W → Calls Try.prog 40 #[.slice (some ⟨b, off, none⟩) k c] W fun e w' => e = .returned (.agg #[.int .u64 y0, .int .u64 y1]) ∧ Below W.heap.size W w') :
    Calls Try.prog 55 #[.int .i64 n, .slice (some ⟨b, off, none⟩) len c, .bool wh, .pointer (some ⟨B, 0, none⟩)] w fun e w' => ∃ v, e = .returned v ∧ w'.ownsRow w.heap.size 40 2 v (m + 1) (xs ++ [.int .u64 y0, .int .u64 y1]) ∧ Below w.heap.size w w' := by
  obtain ⟨i0, hi, hz0, hz1, hz2⟩ := info_parts info24
  have H1 := Lib.hid h1
  have H2 := Lib.hid h2
  have HK := Lib.hid hk
  clear h1 h2 hk
  have t1 : (n == (len : Int)) = false := by simp; omega
  have t2 : (0 : Int) ≤ (k : Int) := by omega
  have t3 : (k : Int) ≤ (len : Int) := by omega
  have t4 : (k : Int) ≤ (c : Int) := by omega
  have t5 : (len : Int) ≤ (c : Int) := by omega
  have tk : ¬ c = k := by omega
  have w1 : IntKind.i64.wrap (n - (k : Int)) = n - (k : Int) := by rw [IntKind.wrap_i64]; omega
  have t6 : ¬ n ≤ (k : Int) := by omega
  go_enter Try.func55, Try.ntmps55
  go_wp2_with fail
  ((with_reducible refine (ledHalf_any len hl (by omega) _).mono ?_); rintro e w' ⟨rfl, rfl⟩)
  rw [HK.out]
  go_wp2_with fail
  have start : Below w.heap.size w w.drew ∧ w.drew.cell? ⟨B, 0, none⟩ = some (.func (.func 55) #[] #[.pointer (some ⟨B, 0, none⟩)]) := ⟨(Below.refl _ w).drew, by show w.cell? _ = _; rw [Lib.cell_of_heap hbx]; rfl⟩
  have hBlt := lt_of_block hbx
  go_region_held3 (fun W => Below w.heap.size w W ∧ W.cell? ⟨B, 0, none⟩ = some (.func (.func 55) #[] #[.pointer (some ⟨B, 0, none⟩)])) (first | with_reducible exact keepB start hBlt hh | with_reducible exact start | with_reducible exact keepB start hBlt (bla hh _))
    (first | (go_at_call 55; with_reducible refine (H1.out _ start.1 ((start.1.block _ hBlt).trans hbx)).mono ?_; rintro e w1 ⟨v, rfl, hown, hb⟩; have hh := bl start.1 hb; have hown1 := hown.mono (base' := w.heap.size) (Nat.le_refl _); clear hb hown) | (go_at_call 40; with_reducible refine (H2.out _ hh).mono ?_; rintro e w2 ⟨rfl, hb⟩; have hown1 := Tr.own_kept hown1 hb; have hh := bl hh hb; clear hb) | (refine step_append_lies _ rfl (.tmp 43) (.tmp 48) 35 rfl w.heap.size 40 i0 (.agg #[.int .u64 0, .int .u64 0]) 2 16 Try.underlying35 hi hz0 hz1 hz2 rfl (by decide) _ _ _ rfl (hown1.alloc _) ⟨w2.heap.size, 0, none⟩ 1 1 [.int .u64 y0, .int .u64 y1] rfl rfl (World.news_of_block (heap_alloc_new w2 _)) (by intro u hu; simp at hu; rcases hu with rfl | rfl <;> rfl) (by decide) (by unfold maxLen; omega) (by omega) (by have := hh.size; simp; omega) _ rfl ?_; intro g cap' w3 hown3 hgrow hat hlt; have hh := (bla hh (.cells #[.int .u64 y0, .int .u64 y1] 40)).grown hgrow (by have := hh.size; simp; omega) (fun k hk => (hown1.lt k hk).1)))
  go_wp2
  go_ret
  exact ⟨_, rfl, hown3, hh⟩

theorem refGr_any : ∀ (f n : Nat) (L : List Dig) (wh : Bool) (w : World) (v : Value), L.length < f → f ≤ 1000 → 1 ≤ n → n ≤ L.length → IsDigs w v L →
    Calls Try.prog 39 #[.int .i64 n, v, .bool wh] w fun e w' => ∃ u, e = .returned u ∧ w'.ownsRow w.heap.size 40 2 u (grT f n L wh).length (digCells (grT f n L wh)) ∧ Below w.heap.size w w'
  | 0, _, _, _, _, _, h, _, _, _, _ => absurd h (Nat.not_lt_zero _)
  | f + 1, n, L, wh, w, v, hf, hf2, h1n, hnL, hv => by
    by_cases he : n = L.length
    · subst he
      have hv' := hv
      obtain ⟨a, c, rfl, _⟩ := hv'
      cases wh with
      | true =>
        have e : grT (f + 1) L.length L true = [] := by rw [grT, if_pos rfl]; rfl
        rw [e]
        refine (refGr_whole L.length c a (by omega) w).mono ?_
        rintro e w' ⟨rfl, hb⟩
        exact ⟨_, rfl, World.ownsRow_nil _ _ _ _, hb⟩
      | false =>
        have e : grT (f + 1) L.length L false = [rootT (f + 1) L] := by rw [grT, if_pos rfl]; rfl
        rw [e]
        have e2 : digCells [rootT (f + 1) L] = [.int .u64 (rootT (f + 1) L).1, .int .u64 (rootT (f + 1) L).2] := rfl
        rw [e2]
        exact refGr_one L.length c a _ _ w (fun W hW => refRoot_any (f + 1) L W _ hf (by omega) (hv.below hW))
    · obtain ⟨b, off, cap, rfl, h1, h2, hb, htake, hdrop, hc⟩ := hv.parts (by intro e; rw [e] at hnL; simp at hnL; omega)
      obtain ⟨_, _, _, _, hk, hk2⟩ := leftN_spec L.length (by omega) (by omega)
      have hpos : 1 ≤ leftN L.length := Nat.pow_pos (by decide)
      by_cases hik : n ≤ leftN L.length
      · have e : grT (f + 1) n L wh = grT f n (L.take (leftN L.length)) wh ++ [rootT (f + 1) (L.drop (leftN L.length))] := by rw [grT, if_neg he, if_pos hik]
        rw [e, digCells_snoc, List.length_append, List.length_singleton]
        exact refGr_less L.length _ cap b off _ n wh _ _ _ rfl hk (by omega) (by omega) (Nat.le_trans (grT_length f _ _ _) (by omega)) h1 (by omega) w
          (fun W hW => refGr_any f n (L.take (leftN L.length)) wh W _ (by rw [List.length_take]; omega) (by omega) h1n (by rw [List.length_take]; omega) ((htake _ (by omega)).below hW))
          (fun W hW => refRoot_any (f + 1) (L.drop (leftN L.length)) W _ (by rw [List.length_drop]; omega) (by rw [List.length_drop]; omega) ((hdrop _ (by omega)).below hW))
      · have e : grT (f + 1) n L wh = grT f (n - leftN L.length) (L.drop (leftN L.length)) false ++ [rootT (f + 1) (L.take (leftN L.length))] := by rw [grT, if_neg he, if_neg hik]
        rw [e, digCells_snoc, List.length_append, List.length_singleton]
        refine refGr_more L.length _ cap b off _ n wh _ _ _ rfl hk (by omega) (by omega) (Nat.le_trans (grT_length f _ _ _) (by omega)) h1 (by omega) (by omega) w
          (fun W hW => ?_)
          (fun W hW => refRoot_any (f + 1) (L.take (leftN L.length)) W _ (by rw [List.length_take]; omega) (by rw [List.length_take]; omega) ((htake _ (by omega)).below hW))
        have := refGr_any f (n - leftN L.length) (L.drop (leftN L.length)) false W _ (by rw [List.length_drop]; omega) (by omega) (by omega) (by rw [List.length_drop]; omega) ((hdrop _ (by omega)).below hW)
        rw [Int.natCast_sub (by omega)] at this
        exact this

theorem gr_any (B : Nat) : ∀ (f n : Nat) (L : List Dig) (wh : Bool) (w : World) (v : Value), L.length < f → f ≤ 1000 → 1 ≤ n → n ≤ L.length → IsDigs w v L → w.heap[B]? = some (.cells #[.func (.func 55) #[] #[.pointer (some ⟨B, 0, none⟩)]] 57 (0, 0)) →
    Calls Try.prog 55 #[.int .i64 n, v, .bool wh, .pointer (some ⟨B, 0, none⟩)] w fun e w' => ∃ u, e = .returned u ∧ w'.ownsRow w.heap.size 40 2 u (grT f n L wh).length (digCells (grT f n L wh)) ∧ Below w.heap.size w w'
  | 0, _, _, _, _, _, h, _, _, _, _, _ => absurd h (Nat.not_lt_zero _)
  | f + 1, n, L, wh, w, v, hf, hf2, h1n, hnL, hv, hbx => by
    by_cases he : n = L.length
    · subst he
      have hv' := hv
      obtain ⟨a, c, rfl, _⟩ := hv'
      cases wh with
      | true =>
        have e : grT (f + 1) L.length L true = [] := by rw [grT, if_pos rfl]; rfl
        rw [e]
        refine (gr_whole L.length c a (by omega) w B).mono ?_
        rintro e w' ⟨rfl, hb⟩
        exact ⟨_, rfl, World.ownsRow_nil _ _ _ _, hb⟩
      | false =>
        have e : grT (f + 1) L.length L false = [rootT (f + 1) L] := by rw [grT, if_pos rfl]; rfl
        rw [e]
        have e2 : digCells [rootT (f + 1) L] = [.int .u64 (rootT (f + 1) L).1, .int .u64 (rootT (f + 1) L).2] := rfl
        rw [e2]
        exact gr_one L.length c a _ _ w B (fun W hW => root_any (f + 1) L W _ hf (by omega) (hv.below hW))
    · obtain ⟨b, off, cap, rfl, h1, h2, hb, htake, hdrop, hc⟩ := hv.parts (by intro e; rw [e] at hnL; simp at hnL; omega)
      obtain ⟨_, _, _, _, hk, hk2⟩ := leftN_spec L.length (by omega) (by omega)
      have hpos : 1 ≤ leftN L.length := Nat.pow_pos (by decide)
      by_cases hik : n ≤ leftN L.length
      · have e : grT (f + 1) n L wh = grT f n (L.take (leftN L.length)) wh ++ [rootT (f + 1) (L.drop (leftN L.length))] := by rw [grT, if_neg he, if_pos hik]
        rw [e, digCells_snoc, List.length_append, List.length_singleton]
        exact gr_less L.length _ cap b off _ n wh _ _ _ rfl hk (by omega) (by omega) (Nat.le_trans (grT_length f _ _ _) (by omega)) h1 (by omega) w B hbx
          (fun W hW hbW => gr_any B f n (L.take (leftN L.length)) wh W _ (by rw [List.length_take]; omega) (by omega) h1n (by rw [List.length_take]; omega) ((htake _ (by omega)).below hW) hbW)
          (fun W hW => root_any (f + 1) (L.drop (leftN L.length)) W _ (by rw [List.length_drop]; omega) (by rw [List.length_drop]; omega) ((hdrop _ (by omega)).below hW))
      · have e : grT (f + 1) n L wh = grT f (n - leftN L.length) (L.drop (leftN L.length)) false ++ [rootT (f + 1) (L.take (leftN L.length))] := by rw [grT, if_neg he, if_neg hik]
        rw [e, digCells_snoc, List.length_append, List.length_singleton]
        refine gr_more L.length _ cap b off _ n wh _ _ _ rfl hk (by omega) (by omega) (Nat.le_trans (grT_length f _ _ _) (by omega)) h1 (by omega) (by omega) w B hbx
          (fun W hW hbW => ?_)
          (fun W hW => root_any (f + 1) (L.take (leftN L.length)) W _ (by rw [List.length_take]; omega) (by rw [List.length_take]; omega) ((htake _ (by omega)).below hW))
        have := gr_any B f (n - leftN L.length) (L.drop (leftN L.length)) false W _ (by rw [List.length_drop]; omega) (by omega) (by omega) (by rw [List.length_drop]; omega) ((hdrop _ (by omega)).below hW) hbW
        rw [Int.natCast_sub (by omega)] at this
        exact this

theorem own_form {W : World} {B s m : Nat} {e : TypeId} {v : Value} {xs : List Value} (h : W.ownsRow B e s v m xs) : ∃ a n c, v = .slice a n c := by
  rcases h.2 with ⟨hv, _⟩ | ⟨g, cap, cur, hv, _⟩
  · exact ⟨_, _, _, hv⟩
  · exact ⟨_, _, _, hv⟩
set_option maxHeartbeats 4000000 in
set_option maxRecDepth 100000 in
theorem growth_of (n len c : Nat) (a : Option Addr) (m : Nat) (xs : List Value) (w : World)
    (h1 : ∀ W, Below w.heap.size w W → W.heap[w.heap.size]? = some (.cells #[.func (.func 55) #[] #[.pointer (some ⟨w.heap.size, 0, none⟩)]] 57 (0, 0)) →
      Calls Try.prog 55 #[.int .i64 n, .slice a len c, .bool true, .pointer (some ⟨w.heap.size, 0, none⟩)] W fun e w' => ∃ u, e = .returned u ∧ w'.ownsRow W.heap.size 40 2 u m xs ∧ Below W.heap.size W w') :
    Calls Try.prog 38 #[.int .i64 n, .slice a len c] w fun e w' => ∃ u, e = .returned u ∧ w'.ownsRow w.heap.size 40 2 u m xs ∧ Below w.heap.size w w' := by
  have H1 := Lib.hid h1
  clear h1
  go_enter Try.func38, Try.ntmps38
  go_wp2_with fail
  have hx : (w.alloc (.cells #[.func (.func 55) #[] #[.pointer (some ⟨w.heap.size, 0, none⟩)]] 57)).heap[w.heap.size]? = some (.cells #[.func (.func 55) #[] #[.pointer (some ⟨w.heap.size, 0, none⟩)]] 57 (0, 0)) := World.alloc_heap_new w _
  have hb0 : Below w.heap.size w (w.alloc (.cells #[.func (.func 55) #[] #[.pointer (some ⟨w.heap.size, 0, none⟩)]] 57)) := bla (Below.refl _ _) _
  ((with_reducible refine (H1.out _ hb0 hx).mono ?_); rintro e w1 ⟨v, rfl, ho, hb⟩)
  have ho1 := ho.mono (base' := w.heap.size) hb0.size
  have hb1 := bl hb0 hb
  obtain ⟨a', n', c', rfl⟩ := own_form ho1
  clear ho hb
  go_wp2
  go_ret
  exact ⟨_, rfl, ho1, hb1⟩
theorem growth_any (n : Nat) (L : List Dig) (w : World) (v : Value) (hl : L.length < 999) (h1 : 1 ≤ n) (h2 : n ≤ L.length) (hv : IsDigs w v L) :
    Calls Try.prog 38 #[.int .i64 n, v] w fun e w' => ∃ u, e = .returned u ∧ w'.ownsRow w.heap.size 40 2 u (grT (L.length + 1) n L true).length (digCells (grT (L.length + 1) n L true)) ∧ Below w.heap.size w w' := by
  have hv' := hv
  obtain ⟨a, c, rfl, _⟩ := hv'
  exact growth_of n L.length c a _ _ w fun W hW hx => gr_any w.heap.size (L.length + 1) n L true W _ (by omega) (by omega) h1 h2 (hv.below hW) hx
end Go.Proofs.Ytfheflihofafdaa
