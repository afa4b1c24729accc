/- The examples of the chapter hold, at this translation. -/
import Derived.Test.YtfheflihofafdaaLdM
namespace Go.Proofs.Ytfheflihofafdaa
open Go.RowKit Go.Great Pt Tr
attribute [local go_sem] eq_arr

/-- The records of the examples. -/
def exR (c : UInt8) : Rec := ⟨5, ⟨#[97, 110, 110]⟩, ⟨#[108, 97, 110, 100]⟩, ⟨#[c]⟩⟩
def exL : List Rec := [exR 97, exR 98, exR 99]
set_option maxRecDepth 100000 in
set_option maxHeartbeats 8000000 in
theorem record_any (s : BA) (w : World) :
    Calls Try.prog 30 #[.string s] w fun e w' => e = .returned (rv ⟨5, ⟨#[97, 110, 110]⟩, ⟨#[108, 97, 110, 100]⟩, s⟩) ∧ Below w.heap.size w w' := by
  have hb : Below w.heap.size w (w.alloc (rc ⟨5, ⟨#[97, 110, 110]⟩, ⟨#[108, 97, 110, 100]⟩, s⟩)) := bla (Below.refl _ _) _
  go_enter Try.func30, Try.ntmps30
  go_wp2
  exact bodyPost_ret (v := rv ⟨5, ⟨#[97, 110, 110]⟩, ⟨#[108, 97, 110, 100]⟩, s⟩) (by simp [results, Try.results30, go_sem]) rfl ⟨rfl, hb⟩

set_option maxRecDepth 100000 in
set_option maxHeartbeats 8000000 in
theorem awake_walk (w : World) (P G : List Dig) (p0 p1 x0 x1 : Int) (hP : P.length = 1) (hG : G.length = 1) (hp : ∀ W u, IsDigs W u P → ∃ b off c, u = .slice (some ⟨b, off, none⟩) 1 c ∧ b < W.heap.size ∧ W.cell? ⟨b, off, none⟩ = some (.int .u64 p0) ∧ W.cell? ⟨b, off + 1, none⟩ = some (.int .u64 p1))
    (K1 : ∀ W v, IsRecs W v [exR 97] → Calls Try.prog 17 #[.agg #[v], .int .i64 0] W fun e w' => ∃ u, e = .returned (.tuple #[u, .int .i64 0]) ∧ IsDigs w' u [] ∧ Below W.heap.size W w')
    (K3 : ∀ W v, IsRecs W v exL → Calls Try.prog 17 #[.agg #[v], .int .i64 2] W fun e w' => ∃ u, e = .returned (.tuple #[u, .int .i64 0]) ∧ IsDigs w' u P ∧ Below W.heap.size W w')
    (KE : ∀ W v, IsRecs W v exL → Calls Try.prog 19 #[.agg #[v], .int .i64 2] W fun e w' => ∃ u, e = .returned (.tuple #[u, .int .i64 0]) ∧ IsDigs w' u G ∧ Below W.heap.size W w')
    (KH2 : ∀ W v, IsRecs W v [exR 97, exR 98] → Calls Try.prog 21 #[.agg #[v]] W fun e w' => e = .returned (.agg #[.int .u64 p0, .int .u64 p1]) ∧ Below W.heap.size W w')
    (KH3 : ∀ W v, IsRecs W v exL → Calls Try.prog 21 #[.agg #[v]] W fun e w' => e = .returned (.agg #[.int .u64 x0, .int .u64 x1]) ∧ Below W.heap.size W w')
    (KO : ∀ W u, IsDigs W u P → Calls Try.prog 24 #[.agg #[.int .u64 x0, .int .u64 x1], .int .i64 3, .int .i64 2, .agg #[.int .i64 5, .string ⟨#[97, 110, 110]⟩, .string ⟨#[108, 97, 110, 100]⟩, .string ⟨#[99]⟩], u] W fun e w' => e = .returned (.bool true) ∧ Below W.heap.size W w') :
    Calls Try.prog 11 #[] w fun e w' => e = .returned (.bool true) ∧ Below w.heap.size w w' := by
  have H1 := Lib.hid K1
  have H3 := Lib.hid K3
  have HE := Lib.hid KE
  have HH2 := Lib.hid KH2
  have HH3 := Lib.hid KH3
  have HO := Lib.hid KO
  have HP := Lib.hid hP
  have HG := Lib.hid hG
  have HPC := Lib.hid hp
  clear K1 K3 KE KH2 KH3 KO hP hG hp
  go_enter Try.func11, Try.ntmps11
  go_wp2_with fail
  ((with_reducible refine (record_any _ _).mono ?_); rintro e w1 ⟨rfl, hb1⟩)
  go_wp2_with fail
  ((with_reducible refine (record_any _ _).mono ?_); rintro e w2 ⟨rfl, hb2⟩)
  go_wp2_with fail
  ((with_reducible refine (record_any _ _).mono ?_); rintro e w3 ⟨rfl, hb3⟩)
  have HB3 := Lib.hid (bl (bl hb1 hb2) hb3)
  clear hb1 hb2 hb3
  have hB4 : Below w.heap.size w ((w3.alloc (.cells #[.int .i64 5, .string ⟨#[97, 110, 110]⟩, .string ⟨#[108, 97, 110, 100]⟩, .string ⟨#[97]⟩, .int .i64 5, .string ⟨#[97, 110, 110]⟩, .string ⟨#[108, 97, 110, 100]⟩, .string ⟨#[98]⟩, .int .i64 5, .string ⟨#[97, 110, 110]⟩, .string ⟨#[108, 97, 110, 100]⟩, .string ⟨#[99]⟩] 26)).alloc (.cells #[.slice (some ⟨w3.heap.size, 0, none⟩) 3 3] 24)) := bla (bla HB3.out _) _
  have hx : ((w3.alloc (.cells #[.int .i64 5, .string ⟨#[97, 110, 110]⟩, .string ⟨#[108, 97, 110, 100]⟩, .string ⟨#[97]⟩, .int .i64 5, .string ⟨#[97, 110, 110]⟩, .string ⟨#[108, 97, 110, 100]⟩, .string ⟨#[98]⟩, .int .i64 5, .string ⟨#[97, 110, 110]⟩, .string ⟨#[108, 97, 110, 100]⟩, .string ⟨#[99]⟩] 26)).alloc (.cells #[.slice (some ⟨w3.heap.size, 0, none⟩) 3 3] 24)).heap[w3.heap.size]? = some (.cells #[.int .i64 5, .string ⟨#[97, 110, 110]⟩, .string ⟨#[108, 97, 110, 100]⟩, .string ⟨#[97]⟩, .int .i64 5, .string ⟨#[97, 110, 110]⟩, .string ⟨#[108, 97, 110, 100]⟩, .string ⟨#[98]⟩, .int .i64 5, .string ⟨#[97, 110, 110]⟩, .string ⟨#[108, 97, 110, 100]⟩, .string ⟨#[99]⟩] 26 (0, 0)) := (Below.heap_alloc _ _ _ (by simp)).trans (World.alloc_heap_new _ _)
  have hy : ((w3.alloc (.cells #[.int .i64 5, .string ⟨#[97, 110, 110]⟩, .string ⟨#[108, 97, 110, 100]⟩, .string ⟨#[97]⟩, .int .i64 5, .string ⟨#[97, 110, 110]⟩, .string ⟨#[108, 97, 110, 100]⟩, .string ⟨#[98]⟩, .int .i64 5, .string ⟨#[97, 110, 110]⟩, .string ⟨#[108, 97, 110, 100]⟩, .string ⟨#[99]⟩] 26)).alloc (.cells #[.slice (some ⟨w3.heap.size, 0, none⟩) 3 3] 24)).heap[w3.heap.size + 1]? = some (.cells #[.slice (some ⟨w3.heap.size, 0, none⟩) 3 3] 24 (0, 0)) := by
    have := World.alloc_heap_new (w3.alloc (.cells #[.int .i64 5, .string ⟨#[97, 110, 110]⟩, .string ⟨#[108, 97, 110, 100]⟩, .string ⟨#[97]⟩, .int .i64 5, .string ⟨#[97, 110, 110]⟩, .string ⟨#[108, 97, 110, 100]⟩, .string ⟨#[98]⟩, .int .i64 5, .string ⟨#[97, 110, 110]⟩, .string ⟨#[108, 97, 110, 100]⟩, .string ⟨#[99]⟩] 26)) (.cells #[.slice (some ⟨w3.heap.size, 0, none⟩) 3 3] 24)
    rw [World.size_alloc] at this; exact this
  have hrec : ∀ W, W.heap[w3.heap.size]? = some (.cells #[.int .i64 5, .string ⟨#[97, 110, 110]⟩, .string ⟨#[108, 97, 110, 100]⟩, .string ⟨#[97]⟩, .int .i64 5, .string ⟨#[97, 110, 110]⟩, .string ⟨#[108, 97, 110, 100]⟩, .string ⟨#[98]⟩, .int .i64 5, .string ⟨#[97, 110, 110]⟩, .string ⟨#[108, 97, 110, 100]⟩, .string ⟨#[99]⟩] 26 (0, 0)) → IsRecs W (.slice (some ⟨w3.heap.size, 0, none⟩) 3 3) exL ∧ IsRecs W (.slice (some ⟨w3.heap.size, 0, none⟩) 2 3) [exR 97, exR 98] ∧ IsRecs W (.slice (some ⟨w3.heap.size, 0, none⟩) 1 3) [exR 97] := by
    intro W hW
    have hlt := lt_of_block hW
    have at_ : ∀ j (_ : j < 3), RecAt W w3.heap.size (0 + j * 4) (exL.getD j (exR 97)) := by
      intro j hj
      obtain rfl | rfl | rfl : j = 0 ∨ j = 1 ∨ j = 2 := by omega
      all_goals (refine ⟨?_, ?_, ?_, ?_⟩ <;> (rw [Lib.cell_of_heap hW]; rfl))
    refine ⟨⟨_, 3, rfl, by decide, by decide, .inr ⟨w3.heap.size, 0, rfl, hlt, fun j hj => ?_⟩⟩, ⟨_, 3, rfl, by decide, by decide, .inr ⟨w3.heap.size, 0, rfl, hlt, fun j hj => ?_⟩⟩, ⟨_, 3, rfl, by decide, by decide, .inr ⟨w3.heap.size, 0, rfl, hlt, fun j hj => ?_⟩⟩⟩
    · have := at_ j hj
      obtain rfl | rfl | rfl : j = 0 ∨ j = 1 ∨ j = 2 := by have : j < 3 := hj; omega
      all_goals exact this
    · have := at_ j (by have : j < 2 := hj; omega)
      obtain rfl | rfl : j = 0 ∨ j = 1 := by have : j < 2 := hj; omega
      all_goals exact this
    · have := at_ j (by have : j < 1 := hj; omega)
      obtain rfl : j = 0 := by have : j < 1 := hj; omega
      exact this
  have HREC := Lib.hid hrec
  clear hrec
  have c0 : ((w3.alloc (.cells #[.int .i64 5, .string ⟨#[97, 110, 110]⟩, .string ⟨#[108, 97, 110, 100]⟩, .string ⟨#[97]⟩, .int .i64 5, .string ⟨#[97, 110, 110]⟩, .string ⟨#[108, 97, 110, 100]⟩, .string ⟨#[98]⟩, .int .i64 5, .string ⟨#[97, 110, 110]⟩, .string ⟨#[108, 97, 110, 100]⟩, .string ⟨#[99]⟩] 26)).alloc (.cells #[.slice (some ⟨w3.heap.size, 0, none⟩) 3 3] 24)).cell? ⟨w3.heap.size + 1, 0, none⟩ = some (.slice (some ⟨w3.heap.size, 0, none⟩) 3 3) := by rw [Lib.cell_of_heap hy]; rfl
  have HB4 := Lib.hid hB4
  have HX := Lib.hid hx
  have HY := Lib.hid hy
  clear hB4 hx hy HB3
  go_wp2_with fail
  ((with_reducible refine (H1.out _ _ (HREC.out _ HX.out).2.2).mono ?_); rintro e w5 ⟨u1, rfl, hu1, hb5⟩)
  obtain ⟨a1, c1, rfl⟩ := nil_slice hu1
  have HB5 := Lib.hid (bl HB4.out hb5)
  have HX5 := Lib.hid ((hb5.block _ (lt_of_block HX.out)).trans HX.out)
  have HY5 := Lib.hid ((hb5.block _ (lt_of_block HY.out)).trans HY.out)
  clear c0 hb5 HB4 HX HY hu1
  have c0 : w5.cell? ⟨w3.heap.size + 1, 0, none⟩ = some (.slice (some ⟨w3.heap.size, 0, none⟩) 3 3) := by rw [Lib.cell_of_heap HY5.out]; rfl
  go_wp2_with fail
  ((with_reducible refine (H3.out _ _ (HREC.out _ HX5.out).1).mono ?_); rintro e w6 ⟨u3, rfl, hu3, hb6⟩)
  have HU3 := Lib.hid hu3
  obtain ⟨b, off, cp, rfl, -, -, -⟩ := HPC.out _ _ hu3
  have HB6 := Lib.hid (bl HB5.out hb6)
  have HX6 := Lib.hid ((hb6.block _ (lt_of_block HX5.out)).trans HX5.out)
  have HY6 := Lib.hid ((hb6.block _ (lt_of_block HY5.out)).trans HY5.out)
  clear c0 hb6 HB5 HX5 HY5 hu3
  have c0 : w6.cell? ⟨w3.heap.size + 1, 0, none⟩ = some (.slice (some ⟨w3.heap.size, 0, none⟩) 3 3) := by rw [Lib.cell_of_heap HY6.out]; rfl
  go_wp2_with fail
  ((with_reducible refine (HE.out _ _ (HREC.out _ HX6.out).1).mono ?_); rintro e w7 ⟨u4, rfl, hu4, hb7⟩)
  obtain ⟨a4, c4, hu5, _⟩ := hu4
  rw [HG.out] at hu5
  subst hu5
  have HU7 := Lib.hid (HU3.out.below hb7)
  have HB7 := Lib.hid (bl HB6.out hb7)
  have HX7 := Lib.hid ((hb7.block _ (lt_of_block HX6.out)).trans HX6.out)
  have HY7 := Lib.hid ((hb7.block _ (lt_of_block HY6.out)).trans HY6.out)
  obtain ⟨b', off', cp', e1, hbl, e2, e3⟩ := HPC.out _ _ HU7.out
  cases e1
  have HE2 := Lib.hid e2
  have HE3 := Lib.hid e3
  clear c0 hb7 HB6 HX6 HY6 e2 e3 HU3
  go_wp2_with fail
  have below : Below (w7.heap.size) w7 w7 := Below.refl _ _
  have HBW : Hid (w7.heap.size ≤ w7.heap.size) := Lib.hid below.size
  have HKEEP : Hid (Keep (w7.heap.size) w7 [((w3.heap.size, .cells #[.int .i64 5, .string ⟨#[97, 110, 110]⟩, .string ⟨#[108, 97, 110, 100]⟩, .string ⟨#[97]⟩, .int .i64 5, .string ⟨#[97, 110, 110]⟩, .string ⟨#[108, 97, 110, 100]⟩, .string ⟨#[98]⟩, .int .i64 5, .string ⟨#[97, 110, 110]⟩, .string ⟨#[108, 97, 110, 100]⟩, .string ⟨#[99]⟩] 26) : Nat × Obj), ((w3.heap.size + 1, .cells #[.slice (some ⟨w3.heap.size, 0, none⟩) 3 3] 24) : Nat × Obj)] w7) := Lib.hid ⟨below, by
    intro p hp
    simp only [List.mem_cons, List.not_mem_nil, or_false] at hp
    rcases hp with rfl | rfl
    · exact HX7.out
    · exact HY7.out⟩
  clear below
  have HOLD0 : Hid (∀ b ∈ ([] : List RBox), b.al = none → w7.heap[b.blk]? = some (.cells b.z b.T (0, 0)) ∧ w7.heap.size ≤ b.blk ∧ ∀ p ∈ [((w3.heap.size, .cells #[.int .i64 5, .string ⟨#[97, 110, 110]⟩, .string ⟨#[108, 97, 110, 100]⟩, .string ⟨#[97]⟩, .int .i64 5, .string ⟨#[97, 110, 110]⟩, .string ⟨#[108, 97, 110, 100]⟩, .string ⟨#[98]⟩, .int .i64 5, .string ⟨#[97, 110, 110]⟩, .string ⟨#[108, 97, 110, 100]⟩, .string ⟨#[99]⟩] 26) : Nat × Obj), ((w3.heap.size + 1, .cells #[.slice (some ⟨w3.heap.size, 0, none⟩) 3 3] 24) : Nat × Obj)], p.1 ≠ b.blk) := Lib.hid (by intro b hb; cases hb)
  refine wp_region_box (w7.heap.size) w7 [(w3.heap.size, .cells #[.int .i64 5, .string ⟨#[97, 110, 110]⟩, .string ⟨#[108, 97, 110, 100]⟩, .string ⟨#[97]⟩, .int .i64 5, .string ⟨#[97, 110, 110]⟩, .string ⟨#[108, 97, 110, 100]⟩, .string ⟨#[98]⟩, .int .i64 5, .string ⟨#[97, 110, 110]⟩, .string ⟨#[108, 97, 110, 100]⟩, .string ⟨#[99]⟩] 26), (w3.heap.size + 1, .cells #[.slice (some ⟨w3.heap.size, 0, none⟩) 3 3] 24)] [] (fun i => ([(.int .i64 0), (.bool true), (.bool true), (.int .i64 0), (.bool true), (.bool true), (.bool true), (.int .i64 0), (.bool true), (.bool true), (.bool true), (.slice a1 0 c1), (.int .i64 0), (.bool true), (.bool true), (.bool true), (.slice (some ⟨b, off, none⟩) 1 cp), (.int .i64 1), (.bool true), (.bool true), (.bool true), (.slice a4 1 c4), (.int .i64 1), (.bool true), (.bool true), (.bool true), (.slice (some ⟨b, off, none⟩) 1 cp), (.pointer (some ⟨b, off, none⟩)), (.agg #[.int .u64 p0, .int .u64 p1]), (.pointer (some ⟨w3.heap.size + 1, 0, none⟩)), (.slice (some ⟨w3.heap.size, 0, none⟩) 3 3), (.slice (some ⟨w3.heap.size, 0, none⟩) 2 3), (.agg #[.slice (some ⟨w3.heap.size, 0, none⟩) 2 3]), (.agg #[.int .u64 p0, .int .u64 p1]), (.bool true), (.bool true), (.bool true), (.agg #[.slice (some ⟨w3.heap.size, 0, none⟩) 3 3]), (.agg #[.int .u64 x0, .int .u64 x1]), (.agg #[.int .i64 5, .string ⟨#[97, 110, 110]⟩, .string ⟨#[108, 97, 110, 100]⟩, .string ⟨#[99]⟩]), (.slice (some ⟨b, off, none⟩) 1 cp), (.bool true), (.bool true), (.bool true)] : List Value).getD i undef) (by kernel_rfl) (by kernel_rfl) (by kernel_rfl) (by rfl) (by simp) (by rfl) HBW.out HKEEP.out HOLD0.out ?_ ?_
  · refine ⟨?_, ?_, ?_, ?_, ?_, ?_, ?_, ?_, ?_, ?_, ?_, ?_, ?_, ?_, ?_, ?_, ?_, ?_, ?_, ?_, ?_, ?_, ?_, ?_, ?_, ?_, ?_, ?_, ?_, ?_, ?_, ?_, ?_, ?_, ?_, ?_, ?_, ?_, ?_, ?_, ?_, ?_, ?_, ?_, trivial⟩
    · refine stepG_plain rfl rfl fun g ac W hK hk => ?_
      have h3 : ac.tmps[3]? = some (.int .i64 0) := hk.keep 3 rfl
      refine wpOp_of rfl rfl ?_
      unfold Oper.wp
      simp [execOp, go_sem, h3]
      first | exact ⟨rfl, Below.refl _ _⟩ | exact Below.refl _ _
    · refine stepG_plain rfl rfl fun g ac W hK hk => ?_
      have h31 : ac.tmps[31]? = some (.int .i64 0) := hk.has 0 _ 31 rfl rfl rfl (by simp) rfl
      refine wpOp_of rfl rfl ?_
      unfold Oper.wp
      simp [execOp, go_sem, h31]
      first | exact ⟨rfl, Below.refl _ _⟩ | exact Below.refl _ _
    · refine stepG_plain rfl rfl fun g ac W hK hk => ?_
      have h32 : ac.tmps[32]? = some (.bool true) := hk.has 1 _ 32 rfl rfl rfl (by simp) rfl
      refine wpOp_of rfl rfl ?_
      unfold Oper.wp
      simp [execOp, go_sem, h32]
      first | exact ⟨rfl, Below.refl _ _⟩ | exact Below.refl _ _
    · refine stepG_plain rfl rfl fun g ac W hK hk => ?_
      have h5 : ac.tmps[5]? = some (.int .i64 0) := hk.keep 5 rfl
      have hg : ac.tmps[33]? = some (.bool true) := hk.has 2 _ 33 rfl rfl rfl (by simp) rfl
      refine wpOp_of rfl (by simp [Region.wanted, yielded, hg]) ?_
      unfold Oper.wp
      simp [execOp, go_sem, h5]
      first | exact ⟨rfl, Below.refl _ _⟩ | exact Below.refl _ _
    · refine stepG_plain rfl rfl fun g ac W hK hk => ?_
      have h34 : ac.tmps[34]? = some (.int .i64 0) := hk.has 3 _ 34 rfl rfl rfl (by simp) rfl
      have hg : ac.tmps[33]? = some (.bool true) := hk.has 2 _ 33 rfl rfl rfl (by simp) rfl
      refine wpOp_of rfl (by simp [Region.wanted, yielded, hg]) ?_
      unfold Oper.wp
      simp [execOp, go_sem, h34]
      first | exact ⟨rfl, Below.refl _ _⟩ | exact Below.refl _ _
    · refine stepG_plain rfl rfl fun g ac W hK hk => ?_
      have h33 : ac.tmps[33]? = some (.bool true) := hk.has 2 _ 33 rfl rfl rfl (by simp) rfl
      have h35 : ac.tmps[35]? = some (.bool true) := hk.has 4 _ 35 rfl rfl rfl (by simp) rfl
      refine wpOp_of rfl rfl ?_
      unfold Oper.wp
      simp [execOp, go_sem, h33, h35]
      first | exact ⟨rfl, Below.refl _ _⟩ | exact Below.refl _ _
    · refine stepG_plain rfl rfl fun g ac W hK hk => ?_
      have h36 : ac.tmps[36]? = some (.bool true) := hk.has 5 _ 36 rfl rfl rfl (by simp) rfl
      refine wpOp_of rfl rfl ?_
      unfold Oper.wp
      simp [execOp, go_sem, h36]
      first | exact ⟨rfl, Below.refl _ _⟩ | exact Below.refl _ _
    · refine stepG_plain rfl rfl fun g ac W hK hk => ?_
      have h7 : ac.tmps[7]? = some (.int .i64 0) := hk.keep 7 rfl
      have hg : ac.tmps[37]? = some (.bool true) := hk.has 6 _ 37 rfl rfl rfl (by simp) rfl
      refine wpOp_of rfl (by simp [Region.wanted, yielded, hg]) ?_
      unfold Oper.wp
      simp [execOp, go_sem, h7]
      first | exact ⟨rfl, Below.refl _ _⟩ | exact Below.refl _ _
    · refine stepG_plain rfl rfl fun g ac W hK hk => ?_
      have h38 : ac.tmps[38]? = some (.int .i64 0) := hk.has 7 _ 38 rfl rfl rfl (by simp) rfl
      have hg : ac.tmps[37]? = some (.bool true) := hk.has 6 _ 37 rfl rfl rfl (by simp) rfl
      refine wpOp_of rfl (by simp [Region.wanted, yielded, hg]) ?_
      unfold Oper.wp
      simp [execOp, go_sem, h38]
      first | exact ⟨rfl, Below.refl _ _⟩ | exact Below.refl _ _
    · refine stepG_plain rfl rfl fun g ac W hK hk => ?_
      have h37 : ac.tmps[37]? = some (.bool true) := hk.has 6 _ 37 rfl rfl rfl (by simp) rfl
      have h39 : ac.tmps[39]? = some (.bool true) := hk.has 8 _ 39 rfl rfl rfl (by simp) rfl
      refine wpOp_of rfl rfl ?_
      unfold Oper.wp
      simp [execOp, go_sem, h37, h39]
      first | exact ⟨rfl, Below.refl _ _⟩ | exact Below.refl _ _
    · refine stepG_plain rfl rfl fun g ac W hK hk => ?_
      have h40 : ac.tmps[40]? = some (.bool true) := hk.has 9 _ 40 rfl rfl rfl (by simp) rfl
      refine wpOp_of rfl rfl ?_
      unfold Oper.wp
      simp [execOp, go_sem, h40]
      first | exact ⟨rfl, Below.refl _ _⟩ | exact Below.refl _ _
    · refine stepG_plain rfl rfl fun g ac W hK hk => ?_
      have h2 : ac.tmps[2]? = some (.slice a1 0 c1) := hk.keep 2 rfl
      have hg : ac.tmps[41]? = some (.bool true) := hk.has 10 _ 41 rfl rfl rfl (by simp) rfl
      refine wpOp_of rfl (by simp [Region.wanted, yielded, hg]) ?_
      unfold Oper.wp
      simp [execOp, go_sem, h2]
      first | exact ⟨rfl, Below.refl _ _⟩ | exact Below.refl _ _
    · refine stepG_plain rfl rfl fun g ac W hK hk => ?_
      have h42 : ac.tmps[42]? = some (.slice a1 0 c1) := hk.has 11 _ 42 rfl rfl rfl (by simp) rfl
      have hg : ac.tmps[41]? = some (.bool true) := hk.has 10 _ 41 rfl rfl rfl (by simp) rfl
      refine wpOp_of rfl (by simp [Region.wanted, yielded, hg]) ?_
      unfold Oper.wp
      simp [execOp, go_sem, h42]
      first | exact ⟨rfl, Below.refl _ _⟩ | exact Below.refl _ _
    · refine stepG_plain rfl rfl fun g ac W hK hk => ?_
      have h43 : ac.tmps[43]? = some (.int .i64 0) := hk.has 12 _ 43 rfl rfl rfl (by simp) rfl
      have hg : ac.tmps[41]? = some (.bool true) := hk.has 10 _ 41 rfl rfl rfl (by simp) rfl
      refine wpOp_of rfl (by simp [Region.wanted, yielded, hg]) ?_
      unfold Oper.wp
      simp [execOp, go_sem, h43]
      first | exact ⟨rfl, Below.refl _ _⟩ | exact Below.refl _ _
    · refine stepG_plain rfl rfl fun g ac W hK hk => ?_
      have h41 : ac.tmps[41]? = some (.bool true) := hk.has 10 _ 41 rfl rfl rfl (by simp) rfl
      have h44 : ac.tmps[44]? = some (.bool true) := hk.has 13 _ 44 rfl rfl rfl (by simp) rfl
      refine wpOp_of rfl rfl ?_
      unfold Oper.wp
      simp [execOp, go_sem, h41, h44]
      first | exact ⟨rfl, Below.refl _ _⟩ | exact Below.refl _ _
    · refine stepG_plain rfl rfl fun g ac W hK hk => ?_
      have h45 : ac.tmps[45]? = some (.bool true) := hk.has 14 _ 45 rfl rfl rfl (by simp) rfl
      refine wpOp_of rfl rfl ?_
      unfold Oper.wp
      simp [execOp, go_sem, h45]
      first | exact ⟨rfl, Below.refl _ _⟩ | exact Below.refl _ _
    · refine stepG_plain rfl rfl fun g ac W hK hk => ?_
      have h4 : ac.tmps[4]? = some (.slice (some ⟨b, off, none⟩) 1 cp) := hk.keep 4 rfl
      have hg : ac.tmps[46]? = some (.bool true) := hk.has 15 _ 46 rfl rfl rfl (by simp) rfl
      refine wpOp_of rfl (by simp [Region.wanted, yielded, hg]) ?_
      unfold Oper.wp
      simp [execOp, go_sem, h4]
      first | exact ⟨rfl, Below.refl _ _⟩ | exact Below.refl _ _
    · refine stepG_plain rfl rfl fun g ac W hK hk => ?_
      have h47 : ac.tmps[47]? = some (.slice (some ⟨b, off, none⟩) 1 cp) := hk.has 16 _ 47 rfl rfl rfl (by simp) rfl
      have hg : ac.tmps[46]? = some (.bool true) := hk.has 15 _ 46 rfl rfl rfl (by simp) rfl
      refine wpOp_of rfl (by simp [Region.wanted, yielded, hg]) ?_
      unfold Oper.wp
      simp [execOp, go_sem, h47]
      first | exact ⟨rfl, Below.refl _ _⟩ | exact Below.refl _ _
    · refine stepG_plain rfl rfl fun g ac W hK hk => ?_
      have h48 : ac.tmps[48]? = some (.int .i64 1) := hk.has 17 _ 48 rfl rfl rfl (by simp) rfl
      have hg : ac.tmps[46]? = some (.bool true) := hk.has 15 _ 46 rfl rfl rfl (by simp) rfl
      refine wpOp_of rfl (by simp [Region.wanted, yielded, hg]) ?_
      unfold Oper.wp
      simp [execOp, go_sem, h48]
      first | exact ⟨rfl, Below.refl _ _⟩ | exact Below.refl _ _
    · refine stepG_plain rfl rfl fun g ac W hK hk => ?_
      have h46 : ac.tmps[46]? = some (.bool true) := hk.has 15 _ 46 rfl rfl rfl (by simp) rfl
      have h49 : ac.tmps[49]? = some (.bool true) := hk.has 18 _ 49 rfl rfl rfl (by simp) rfl
      refine wpOp_of rfl rfl ?_
      unfold Oper.wp
      simp [execOp, go_sem, h46, h49]
      first | exact ⟨rfl, Below.refl _ _⟩ | exact Below.refl _ _
    · refine stepG_plain rfl rfl fun g ac W hK hk => ?_
      have h50 : ac.tmps[50]? = some (.bool true) := hk.has 19 _ 50 rfl rfl rfl (by simp) rfl
      refine wpOp_of rfl rfl ?_
      unfold Oper.wp
      simp [execOp, go_sem, h50]
      first | exact ⟨rfl, Below.refl _ _⟩ | exact Below.refl _ _
    · refine stepG_plain rfl rfl fun g ac W hK hk => ?_
      have h6 : ac.tmps[6]? = some (.slice a4 1 c4) := hk.keep 6 rfl
      have hg : ac.tmps[51]? = some (.bool true) := hk.has 20 _ 51 rfl rfl rfl (by simp) rfl
      refine wpOp_of rfl (by simp [Region.wanted, yielded, hg]) ?_
      unfold Oper.wp
      simp [execOp, go_sem, h6]
      first | exact ⟨rfl, Below.refl _ _⟩ | exact Below.refl _ _
    · refine stepG_plain rfl rfl fun g ac W hK hk => ?_
      have h52 : ac.tmps[52]? = some (.slice a4 1 c4) := hk.has 21 _ 52 rfl rfl rfl (by simp) rfl
      have hg : ac.tmps[51]? = some (.bool true) := hk.has 20 _ 51 rfl rfl rfl (by simp) rfl
      refine wpOp_of rfl (by simp [Region.wanted, yielded, hg]) ?_
      unfold Oper.wp
      simp [execOp, go_sem, h52]
      first | exact ⟨rfl, Below.refl _ _⟩ | exact Below.refl _ _
    · refine stepG_plain rfl rfl fun g ac W hK hk => ?_
      have h53 : ac.tmps[53]? = some (.int .i64 1) := hk.has 22 _ 53 rfl rfl rfl (by simp) rfl
      have hg : ac.tmps[51]? = some (.bool true) := hk.has 20 _ 51 rfl rfl rfl (by simp) rfl
      refine wpOp_of rfl (by simp [Region.wanted, yielded, hg]) ?_
      unfold Oper.wp
      simp [execOp, go_sem, h53]
      first | exact ⟨rfl, Below.refl _ _⟩ | exact Below.refl _ _
    · refine stepG_plain rfl rfl fun g ac W hK hk => ?_
      have h51 : ac.tmps[51]? = some (.bool true) := hk.has 20 _ 51 rfl rfl rfl (by simp) rfl
      have h54 : ac.tmps[54]? = some (.bool true) := hk.has 23 _ 54 rfl rfl rfl (by simp) rfl
      refine wpOp_of rfl rfl ?_
      unfold Oper.wp
      simp [execOp, go_sem, h51, h54]
      first | exact ⟨rfl, Below.refl _ _⟩ | exact Below.refl _ _
    · refine stepG_plain rfl rfl fun g ac W hK hk => ?_
      have h55 : ac.tmps[55]? = some (.bool true) := hk.has 24 _ 55 rfl rfl rfl (by simp) rfl
      refine wpOp_of rfl rfl ?_
      unfold Oper.wp
      simp [execOp, go_sem, h55]
      first | exact ⟨rfl, Below.refl _ _⟩ | exact Below.refl _ _
    · refine stepG_plain rfl rfl fun g ac W hK hk => ?_
      have h4 : ac.tmps[4]? = some (.slice (some ⟨b, off, none⟩) 1 cp) := hk.keep 4 rfl
      have hg : ac.tmps[56]? = some (.bool true) := hk.has 25 _ 56 rfl rfl rfl (by simp) rfl
      refine wpOp_of rfl (by simp [Region.wanted, yielded, hg]) ?_
      unfold Oper.wp
      simp [execOp, go_sem, h4]
      first | exact ⟨rfl, Below.refl _ _⟩ | exact Below.refl _ _
    · refine stepG_plain rfl rfl fun g ac W hK hk => ?_
      have h57 : ac.tmps[57]? = some (.slice (some ⟨b, off, none⟩) 1 cp) := hk.has 26 _ 57 rfl rfl rfl (by simp) rfl
      have hg : ac.tmps[56]? = some (.bool true) := hk.has 25 _ 56 rfl rfl rfl (by simp) rfl
      refine wpOp_of rfl (by simp [Region.wanted, yielded, hg]) ?_
      unfold Oper.wp
      simp [execOp, go_sem, h57]
      first | exact ⟨rfl, Below.refl _ _⟩ | exact Below.refl _ _
    · refine stepG_plain rfl rfl fun g ac W hK hk => ?_
      have h58 : ac.tmps[58]? = some (.pointer (some ⟨b, off, none⟩)) := hk.has 27 _ 58 rfl rfl rfl (by simp) rfl
      have hg : ac.tmps[56]? = some (.bool true) := hk.has 25 _ 56 rfl rfl rfl (by simp) rfl
      have q0 := (hK.1.cell (p := ⟨b, off, none⟩) hbl).trans HE2.out
      have q1 := (hK.1.cell (p := ⟨b, off + 1, none⟩) hbl).trans HE3.out
      refine wpOp_of rfl (by simp [Region.wanted, yielded, hg]) ?_
      unfold Oper.wp
      simp [execOp, go_sem, h58, q0, q1]
      first | exact ⟨rfl, Below.refl _ _⟩ | exact Below.refl _ _
    · refine stepG_plain rfl rfl fun g ac W hK hk => ?_
      have h1 : ac.tmps[1]? = some (.pointer (some ⟨w3.heap.size + 1, 0, none⟩)) := hk.keep 1 rfl
      have hg : ac.tmps[56]? = some (.bool true) := hk.has 25 _ 56 rfl rfl rfl (by simp) rfl
      refine wpOp_of rfl (by simp [Region.wanted, yielded, hg]) ?_
      unfold Oper.wp
      simp [execOp, go_sem, h1]
      first | exact ⟨rfl, Below.refl _ _⟩ | exact Below.refl _ _
    · refine stepG_plain rfl rfl fun g ac W hK hk => ?_
      have h60 : ac.tmps[60]? = some (.pointer (some ⟨w3.heap.size + 1, 0, none⟩)) := hk.has 29 _ 60 rfl rfl rfl (by simp) rfl
      have hg : ac.tmps[56]? = some (.bool true) := hk.has 25 _ 56 rfl rfl rfl (by simp) rfl
      have mxq := hK.get 1 rfl
      have q0 : W.cell? ⟨w3.heap.size + 1, 0, none⟩ = some (.slice (some ⟨w3.heap.size, 0, none⟩) 3 3) := by rw [Lib.cell_of_heap mxq]; rfl
      refine wpOp_of rfl (by simp [Region.wanted, yielded, hg]) ?_
      unfold Oper.wp
      simp [execOp, go_sem, h60, q0]
      first | exact ⟨rfl, Below.refl _ _⟩ | exact Below.refl _ _
    · refine stepG_plain rfl rfl fun g ac W hK hk => ?_
      have h61 : ac.tmps[61]? = some (.slice (some ⟨w3.heap.size, 0, none⟩) 3 3) := hk.has 30 _ 61 rfl rfl rfl (by simp) rfl
      have hg : ac.tmps[56]? = some (.bool true) := hk.has 25 _ 56 rfl rfl rfl (by simp) rfl
      refine wpOp_of rfl (by simp [Region.wanted, yielded, hg]) ?_
      unfold Oper.wp
      simp [execOp, go_sem, h61]
      first | exact ⟨rfl, Below.refl _ _⟩ | exact Below.refl _ _
    · refine stepG_plain rfl rfl fun g ac W hK hk => ?_
      have h62 : ac.tmps[62]? = some (.slice (some ⟨w3.heap.size, 0, none⟩) 2 3) := hk.has 31 _ 62 rfl rfl rfl (by simp) rfl
      have hg : ac.tmps[56]? = some (.bool true) := hk.has 25 _ 56 rfl rfl rfl (by simp) rfl
      refine wpOp_of rfl (by simp [Region.wanted, yielded, hg]) ?_
      unfold Oper.wp
      simp [execOp, go_sem, h62]
      first | exact ⟨rfl, Below.refl _ _⟩ | exact Below.refl _ _
    · refine stepG_plain rfl rfl fun g ac W hK hk => ?_
      have h63 : ac.tmps[63]? = some (.agg #[.slice (some ⟨w3.heap.size, 0, none⟩) 2 3]) := hk.has 32 _ 63 rfl rfl rfl (by simp) rfl
      have hg : ac.tmps[56]? = some (.bool true) := hk.has 25 _ 56 rfl rfl rfl (by simp) rfl
      refine wpOp_of rfl (by simp [Region.wanted, yielded, hg]) ?_
      unfold Oper.wp
      simp [execOp, go_sem, h63]
      refine (HH2.out W _ (HREC.out W (hK.get 0 rfl)).2.1).mono ?_
      rintro e w' ⟨rfl, hb⟩
      exact ⟨rfl, hb⟩
    · refine stepG_plain rfl rfl fun g ac W hK hk => ?_
      have h59 : ac.tmps[59]? = some (.agg #[.int .u64 p0, .int .u64 p1]) := hk.has 28 _ 59 rfl rfl rfl (by simp) rfl
      have h64 : ac.tmps[64]? = some (.agg #[.int .u64 p0, .int .u64 p1]) := hk.has 33 _ 64 rfl rfl rfl (by simp) rfl
      have hg : ac.tmps[56]? = some (.bool true) := hk.has 25 _ 56 rfl rfl rfl (by simp) rfl
      refine wpOp_of rfl (by simp [Region.wanted, yielded, hg]) ?_
      unfold Oper.wp
      simp [execOp, go_sem, h59, h64]
      first | exact ⟨rfl, Below.refl _ _⟩ | exact Below.refl _ _
    · refine stepG_plain rfl rfl fun g ac W hK hk => ?_
      have h56 : ac.tmps[56]? = some (.bool true) := hk.has 25 _ 56 rfl rfl rfl (by simp) rfl
      have h65 : ac.tmps[65]? = some (.bool true) := hk.has 34 _ 65 rfl rfl rfl (by simp) rfl
      refine wpOp_of rfl rfl ?_
      unfold Oper.wp
      simp [execOp, go_sem, h56, h65]
      first | exact ⟨rfl, Below.refl _ _⟩ | exact Below.refl _ _
    · refine stepG_plain rfl rfl fun g ac W hK hk => ?_
      have h66 : ac.tmps[66]? = some (.bool true) := hk.has 35 _ 66 rfl rfl rfl (by simp) rfl
      refine wpOp_of rfl rfl ?_
      unfold Oper.wp
      simp [execOp, go_sem, h66]
      first | exact ⟨rfl, Below.refl _ _⟩ | exact Below.refl _ _
    · refine stepG_plain rfl rfl fun g ac W hK hk => ?_
      have h1 : ac.tmps[1]? = some (.pointer (some ⟨w3.heap.size + 1, 0, none⟩)) := hk.keep 1 rfl
      have hg : ac.tmps[67]? = some (.bool true) := hk.has 36 _ 67 rfl rfl rfl (by simp) rfl
      have mxq := hK.get 1 rfl
      have q0 : W.cell? ⟨w3.heap.size + 1, 0, none⟩ = some (.slice (some ⟨w3.heap.size, 0, none⟩) 3 3) := by rw [Lib.cell_of_heap mxq]; rfl
      refine wpOp_of rfl (by simp [Region.wanted, yielded, hg]) ?_
      unfold Oper.wp
      simp [execOp, go_sem, h1, q0]
      first | exact ⟨rfl, Below.refl _ _⟩ | exact Below.refl _ _
    · refine stepG_plain rfl rfl fun g ac W hK hk => ?_
      have h68 : ac.tmps[68]? = some (.agg #[.slice (some ⟨w3.heap.size, 0, none⟩) 3 3]) := hk.has 37 _ 68 rfl rfl rfl (by simp) rfl
      have hg : ac.tmps[67]? = some (.bool true) := hk.has 36 _ 67 rfl rfl rfl (by simp) rfl
      refine wpOp_of rfl (by simp [Region.wanted, yielded, hg]) ?_
      unfold Oper.wp
      simp [execOp, go_sem, h68]
      refine (HH3.out W _ (HREC.out W (hK.get 0 rfl)).1).mono ?_
      rintro e w' ⟨rfl, hb⟩
      exact ⟨rfl, hb⟩
    · refine stepG_plain rfl rfl fun g ac W hK hk => ?_
      have hg : ac.tmps[67]? = some (.bool true) := hk.has 36 _ 67 rfl rfl rfl (by simp) rfl
      refine wpOp_of rfl (by simp [Region.wanted, yielded, hg]) ?_
      unfold Oper.wp
      simp [execOp, go_sem]
      refine (record_any _ W).mono ?_
      rintro e w' ⟨rfl, hb⟩
      exact ⟨rfl, hb⟩
    · refine stepG_plain rfl rfl fun g ac W hK hk => ?_
      have h4 : ac.tmps[4]? = some (.slice (some ⟨b, off, none⟩) 1 cp) := hk.keep 4 rfl
      have hg : ac.tmps[67]? = some (.bool true) := hk.has 36 _ 67 rfl rfl rfl (by simp) rfl
      refine wpOp_of rfl (by simp [Region.wanted, yielded, hg]) ?_
      unfold Oper.wp
      simp [execOp, go_sem, h4]
      first | exact ⟨rfl, Below.refl _ _⟩ | exact Below.refl _ _
    · refine stepG_plain rfl rfl fun g ac W hK hk => ?_
      have h69 : ac.tmps[69]? = some (.agg #[.int .u64 x0, .int .u64 x1]) := hk.has 38 _ 69 rfl rfl rfl (by simp) rfl
      have h70 : ac.tmps[70]? = some (.agg #[.int .i64 5, .string ⟨#[97, 110, 110]⟩, .string ⟨#[108, 97, 110, 100]⟩, .string ⟨#[99]⟩]) := hk.has 39 _ 70 rfl rfl rfl (by simp) rfl
      have h71 : ac.tmps[71]? = some (.slice (some ⟨b, off, none⟩) 1 cp) := hk.has 40 _ 71 rfl rfl rfl (by simp) rfl
      have hg : ac.tmps[67]? = some (.bool true) := hk.has 36 _ 67 rfl rfl rfl (by simp) rfl
      refine wpOp_of rfl (by simp [Region.wanted, yielded, hg]) ?_
      unfold Oper.wp
      simp [execOp, go_sem, h69, h70, h71]
      refine (HO.out W _ (HU7.out.below hK.1)).mono ?_
      rintro e w' ⟨rfl, hb⟩
      exact ⟨rfl, hb⟩
    · refine stepG_plain rfl rfl fun g ac W hK hk => ?_
      have h67 : ac.tmps[67]? = some (.bool true) := hk.has 36 _ 67 rfl rfl rfl (by simp) rfl
      have h72 : ac.tmps[72]? = some (.bool true) := hk.has 41 _ 72 rfl rfl rfl (by simp) rfl
      refine wpOp_of rfl rfl ?_
      unfold Oper.wp
      simp [execOp, go_sem, h67, h72]
      first | exact ⟨rfl, Below.refl _ _⟩ | exact Below.refl _ _
    · refine stepG_plain rfl rfl fun g ac W hK hk => ?_
      have h73 : ac.tmps[73]? = some (.bool true) := hk.has 42 _ 73 rfl rfl rfl (by simp) rfl
      refine wpOp_of rfl rfl ?_
      unfold Oper.wp
      simp [execOp, go_sem, h73]
      first | exact ⟨rfl, Below.refl _ _⟩ | exact Below.refl _ _
  · intro g W hK hsz hB hd
    simp [frameOf, Act.put, valG]
    have HW := Lib.hid (bl HB7.out hK.1)
    clear hK hB hd hsz
    go_wp2
    go_ret
    exact ⟨rfl, HW.out⟩
theorem ex_ok : chkL exL = 0 := by decide +kernel
theorem ex_ok2 : chkL [exR 97, exR 98] = 0 := chk_take exL 2 ex_ok
theorem ex_ok1 : chkL [exR 97] = 0 := chk_take exL 1 ex_ok
theorem ex_fit : ∀ x ∈ exL, x.Fit := by
  intro x hx
  simp only [exL, List.mem_cons, List.not_mem_nil, or_false] at hx
  rcases hx with rfl | rfl | rfl <;> exact ⟨by decide, by decide, by decide⟩
theorem left3 : leftN 3 = 2 := by decide
theorem left2 : leftN 2 = 1 := by decide
theorem ex_proof : proveM exL 2 = [headM [exR 97, exR 98]] := by
  unfold proveM prfD
  rw [if_pos ex_ok, if_pos (by decide), head_ok ex_ok2]
  show proofT 4 [recD (exR 97), recD (exR 98), recD (exR 99)] 2 = [rt [recD (exR 97), recD (exR 98)]]
  rw [proofT, if_neg (by simp), show ([recD (exR 97), recD (exR 98), recD (exR 99)] : List Dig).length = 3 from rfl, left3, if_neg (by omega), rt_of (by simp) (by simp)]
  rw [show List.drop 2 [recD (exR 97), recD (exR 98), recD (exR 99)] = [recD (exR 99)] from rfl, proofT, if_pos (by rfl)]
  rfl
theorem ex_ext : (extM exL 2).length = 1 := by
  unfold extM
  rw [if_pos ⟨ex_ok, by decide, by decide⟩]
  show (grT 4 2 [recD (exR 97), recD (exR 98), recD (exR 99)] true).length = 1
  rw [grT, if_neg (by simp), show ([recD (exR 97), recD (exR 98), recD (exR 99)] : List Dig).length = 3 from rfl, left3, if_pos (by omega), grT, if_pos (by rfl)]
  rfl
theorem ex_one : proveM [exR 97] 0 = [] := by
  unfold proveM prfD
  rw [if_pos ex_ok1, if_pos (by decide)]
  show proofT 2 [recD (exR 97)] 0 = []
  rw [proofT, if_pos (by rfl)]
theorem ex_holds : holdM (headM exL).1 (headM exL).2 3 2 (exR 99) (proveM exL 2) = true := record_holds exL 2 (by decide) ex_ok
theorem awake_any (w : World) : Calls Try.prog 11 #[] w fun e w' => e = .returned (.bool true) ∧ Below w.heap.size w w' := by
  have f2 : ∀ x ∈ [exR 97, exR 98], x.Fit := fun x hx => ex_fit x (List.mem_of_mem_take (i := 2) hx)
  have f1 : ∀ x ∈ [exR 97], x.Fit := fun x hx => ex_fit x (List.mem_of_mem_take (i := 1) hx)
  refine awake_walk w (proveM exL 2) (extM exL 2) (headM [exR 97, exR 98]).1 (headM [exR 97, exR 98]).2 (headM exL).1 (headM exL).2 (by rw [ex_proof]; rfl) ex_ext ?_ ?_ ?_ ?_ ?_ ?_ ?_
  · intro W u hu
    rw [ex_proof] at hu
    obtain ⟨b, off, c, rfl, _, _, hb, e0, e1, _⟩ := IsDigs.last (M := []) hu
    exact ⟨b, off, c, rfl, hb, by simpa using e0, by simpa using e1⟩
  · intro W v hv
    refine (prove_any [exR 97] v 0 W hv f1 (by decide)).mono ?_
    rintro e w' ⟨u, rfl, hu, hb⟩
    refine ⟨u, ?_, by rw [← ex_one]; exact hu, hb⟩
    rw [show proveE [exR 97] 0 = 0 from prove_code (i := 0) ex_ok1 (by decide)]
  · intro W v hv
    refine (prove_any exL v 2 W hv ex_fit (by decide)).mono ?_
    rintro e w' ⟨u, rfl, hu, hb⟩
    refine ⟨u, ?_, hu, hb⟩
    rw [show proveE exL 2 = 0 from prove_code (i := 2) ex_ok (by decide)]
  · intro W v hv
    refine (extend_any exL v 2 W hv ex_fit (by decide)).mono ?_
    rintro e w' ⟨u, rfl, hu, hb⟩
    refine ⟨u, ?_, hu, hb⟩
    rw [show extE exL 2 = 0 from ext_code (n := 2) ex_ok (by decide)]
  · exact fun W v hv => head_any _ v W hv f2
  · exact fun W v hv => head_any _ v W hv ex_fit
  · intro W u hu
    refine (holds_any (headM exL).1 (headM exL).2 3 2 (exR 99) _ u W (ex_fit _ (by simp [exL])) hu).mono ?_
    rintro e w' ⟨rfl, hb⟩
    exact ⟨by rw [ex_holds], hb⟩
end Go.Proofs.Ytfheflihofafdaa
