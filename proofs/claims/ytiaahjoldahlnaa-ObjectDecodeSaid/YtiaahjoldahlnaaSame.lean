/- The reference's Same, at this translation. -/
import Derived.Test.YtiaahjoldahlnaaDecM
import Derived.Test.YtiaahjoldahlnaaCommit
namespace Go.Proofs.Ytiaahjoldahlnaa
open Go.RowKit Go.Great

theorem eq_arr_n (n : Nat) (a b c d : Int) (w : World) : (Op.equalIn (n + 1 + 1) 25 (.agg #[.int .u64 a, .int .u64 b]) (.agg #[.int .u64 c, .int .u64 d])).run Try.prog w = .ok (a == c && b == d) w := by
  have hi := fun (n : Nat) (x y : Int) (w : World) => run_equalIn_int (P := Try.prog) w n 23 .u64 .u64 x y Try.underlying23
  unfold Op.equalIn
  simp [go_sem, run_underlying Try.underlying25, Try.sizeOf23]
  rw [show List.range' 0 2 = [0, 1] from rfl]
  simp only [List.forIn_cons, List.forIn_nil]
  cases h1 : (a == c) <;> cases h2 : (b == d) <;> simp [go_sem, Try.isAgg23, hi, h1, h2]
theorem eq_ent (n1 n2 : BA) (a1 a2 : Bool) (p q r s : Int) (w : World) :
    (Op.equalIn 10000 45 (.agg #[.string n1, .bool a1, .int .u64 p, .int .u64 q]) (.agg #[.string n2, .bool a2, .int .u64 r, .int .u64 s])).run Try.prog w = .ok (n1.toList == n2.toList && a1 == a2 && (p == r && q == s)) w := by
  have hS : Try.prog.underlying 45 = some (.struct (Try.prog.fieldsOf 45)) := by kernel_rfl
  have hp : Try.prog.stoodInHeld 45 = false := by kernel_rfl
  have h25 := fun (w : World) => eq_arr_n 9997 p q r s w
  rw [show (10000 : Nat) = 9999 + 1 from rfl, run_equalIn_agg w 9999 45 _ _ hS hp]
  simp only [Program.fieldsOf, Try.underlying45]
  simp [Op.eqFields, go_sem, Try.isAgg9, Try.isAgg4, Try.isAgg25, Try.sizeOf9, Try.sizeOf4, Try.sizeOf25, h25]
  by_cases h1 : n1.toList = n2.toList <;> by_cases h2 : a1 = a2 <;> by_cases h3 : p = r <;> by_cases h4 : q = s <;> simp [h1, h2, h3, h4]
theorem neq_ent (n1 n2 : BA) (a1 a2 : Bool) (p q r s : Int) (w : World) :
    (binOp .neq 45 (.agg #[.string n1, .bool a1, .int .u64 p, .int .u64 q]) (.agg #[.string n2, .bool a2, .int .u64 r, .int .u64 s])).run Try.prog w = .ok (.bool (!(n1.toList == n2.toList && a1 == a2 && (p == r && q == s)))) w := by
  rw [run_neq_struct, eq_ent]
  rfl
theorem two_drewN {w wr : World} {N M : Nat} {x y : Obj} (h : wr.heap[N]? = some x ∧ wr.heap[M]? = some y ∧ Below w.heap.size w wr) (n : Nat) : (wr.drewN n).heap[N]? = some x ∧ (wr.drewN n).heap[M]? = some y ∧ Below w.heap.size w (wr.drewN n) := ⟨h.1, h.2.1, below_drewN h.2.2 n⟩
attribute [local go_sem] eq_arr
attribute [local go_sem 2000] eq_ent neq_ent

theorem ne_str {x y : BA} (h : x ≠ y) : (x.toList == y.toList) = false := by rw [str_eq]; simpa using h

set_option maxRecDepth 100000 in
set_option maxHeartbeats 4000000 in
theorem same_kind (ka kb : Int) (d d2 : BA) (n1 m1 t1 t2 u1 u2 n2 m2 : Nat) (au av : BA) (ti tj : Int) (ms mt : BA) (a b a2 b2 : Option Addr) (c1 c2 c3 c4 : Nat) (h : ka ≠ kb) (w : World) :
    Calls Try.prog 23 #[.agg #[.int .i64 ka, .string d, .slice a n1 c1, .int .u64 t1, .int .u64 t2, .slice b n2 c2, .string au, .int .i64 ti, .string ms], .agg #[.int .i64 kb, .string d2, .slice a2 m1 c3, .int .u64 u1, .int .u64 u2, .slice b2 m2 c4, .string av, .int .i64 tj, .string mt]] w fun e w' => e = .returned (.bool false) ∧ Below w.heap.size w w' := by
  have hb := ((Below.refl w.heap.size w).alloc (Nat.le_refl _) (oc' ka d (.slice a n1 c1) t1 t2 (.slice b n2 c2) au ti ms)).alloc (by simp) (oc' kb d2 (.slice a2 m1 c3) u1 u2 (.slice b2 m2 c4) av tj mt)
  have e : (ka != kb) = true := by simpa using h
  clear h
  go_enter Try.func23, Try.ntmps23
  go_wp2
  go_ret
  exact ⟨rfl, hb⟩

set_option maxRecDepth 100000 in
set_option maxHeartbeats 4000000 in
theorem same_data (k : Int) (d d2 : BA) (n1 m1 t1 t2 u1 u2 n2 m2 : Nat) (au av : BA) (ti tj : Int) (ms mt : BA) (a b a2 b2 : Option Addr) (c1 c2 c3 c4 : Nat) (h : d ≠ d2) (w : World) :
    Calls Try.prog 23 #[.agg #[.int .i64 k, .string d, .slice a n1 c1, .int .u64 t1, .int .u64 t2, .slice b n2 c2, .string au, .int .i64 ti, .string ms], .agg #[.int .i64 k, .string d2, .slice a2 m1 c3, .int .u64 u1, .int .u64 u2, .slice b2 m2 c4, .string av, .int .i64 tj, .string mt]] w fun e w' => e = .returned (.bool false) ∧ Below w.heap.size w w' := by
  have hb := ((Below.refl w.heap.size w).alloc (Nat.le_refl _) (oc' k d (.slice a n1 c1) t1 t2 (.slice b n2 c2) au ti ms)).alloc (by simp) (oc' k d2 (.slice a2 m1 c3) u1 u2 (.slice b2 m2 c4) av tj mt)
  have e := ne_str h
  clear h
  go_enter Try.func23, Try.ntmps23
  go_wp2
  go_ret
  exact ⟨rfl, hb⟩

set_option maxRecDepth 100000 in
set_option maxHeartbeats 4000000 in
theorem same_tree (k : Int) (d : BA) (n1 m1 t1 t2 u1 u2 n2 m2 : Nat) (au av : BA) (ti tj : Int) (ms mt : BA) (a b a2 b2 : Option Addr) (c1 c2 c3 c4 : Nat) (h : ¬ (t1 = u1 ∧ t2 = u2)) (w : World) :
    Calls Try.prog 23 #[.agg #[.int .i64 k, .string d, .slice a n1 c1, .int .u64 t1, .int .u64 t2, .slice b n2 c2, .string au, .int .i64 ti, .string ms], .agg #[.int .i64 k, .string d, .slice a2 m1 c3, .int .u64 u1, .int .u64 u2, .slice b2 m2 c4, .string av, .int .i64 tj, .string mt]] w fun e w' => e = .returned (.bool false) ∧ Below w.heap.size w w' := by
  have hb := ((Below.refl w.heap.size w).alloc (Nat.le_refl _) (oc' k d (.slice a n1 c1) t1 t2 (.slice b n2 c2) au ti ms)).alloc (by simp) (oc' k d (.slice a2 m1 c3) u1 u2 (.slice b2 m2 c4) av tj mt)
  have e : (((t1 : Nat) : Int) == (u1 : Int) && ((t2 : Nat) : Int) == (u2 : Int)) = false := by simp; omega
  clear h
  go_enter Try.func23, Try.ntmps23
  go_wp2
  go_ret
  exact ⟨rfl, hb⟩

set_option maxRecDepth 100000 in
set_option maxHeartbeats 4000000 in
theorem same_author (k : Int) (d : BA) (n1 m1 t1 t2 n2 m2 : Nat) (au av : BA) (ti tj : Int) (ms mt : BA) (a b a2 b2 : Option Addr) (c1 c2 c3 c4 : Nat) (h : au ≠ av) (w : World) :
    Calls Try.prog 23 #[.agg #[.int .i64 k, .string d, .slice a n1 c1, .int .u64 t1, .int .u64 t2, .slice b n2 c2, .string au, .int .i64 ti, .string ms], .agg #[.int .i64 k, .string d, .slice a2 m1 c3, .int .u64 t1, .int .u64 t2, .slice b2 m2 c4, .string av, .int .i64 tj, .string mt]] w fun e w' => e = .returned (.bool false) ∧ Below w.heap.size w w' := by
  have hb := ((Below.refl w.heap.size w).alloc (Nat.le_refl _) (oc' k d (.slice a n1 c1) t1 t2 (.slice b n2 c2) au ti ms)).alloc (by simp) (oc' k d (.slice a2 m1 c3) t1 t2 (.slice b2 m2 c4) av tj mt)
  have e := ne_str h
  clear h
  go_enter Try.func23, Try.ntmps23
  go_wp2
  go_ret
  exact ⟨rfl, hb⟩

set_option maxRecDepth 100000 in
set_option maxHeartbeats 4000000 in
theorem same_time (k : Int) (d : BA) (n1 m1 t1 t2 n2 m2 : Nat) (au : BA) (ti tj : Int) (ms mt : BA) (a b a2 b2 : Option Addr) (c1 c2 c3 c4 : Nat) (h : ti ≠ tj) (w : World) :
    Calls Try.prog 23 #[.agg #[.int .i64 k, .string d, .slice a n1 c1, .int .u64 t1, .int .u64 t2, .slice b n2 c2, .string au, .int .i64 ti, .string ms], .agg #[.int .i64 k, .string d, .slice a2 m1 c3, .int .u64 t1, .int .u64 t2, .slice b2 m2 c4, .string au, .int .i64 tj, .string mt]] w fun e w' => e = .returned (.bool false) ∧ Below w.heap.size w w' := by
  have hb := ((Below.refl w.heap.size w).alloc (Nat.le_refl _) (oc' k d (.slice a n1 c1) t1 t2 (.slice b n2 c2) au ti ms)).alloc (by simp) (oc' k d (.slice a2 m1 c3) t1 t2 (.slice b2 m2 c4) au tj mt)
  have e : (ti != tj) = true := by simpa using h
  clear h
  go_enter Try.func23, Try.ntmps23
  go_wp2
  go_ret
  exact ⟨rfl, hb⟩

set_option maxRecDepth 100000 in
set_option maxHeartbeats 4000000 in
theorem same_msg (k : Int) (d : BA) (n1 m1 t1 t2 n2 m2 : Nat) (au : BA) (ti : Int) (ms mt : BA) (a b a2 b2 : Option Addr) (c1 c2 c3 c4 : Nat) (h : ms ≠ mt) (w : World) :
    Calls Try.prog 23 #[.agg #[.int .i64 k, .string d, .slice a n1 c1, .int .u64 t1, .int .u64 t2, .slice b n2 c2, .string au, .int .i64 ti, .string ms], .agg #[.int .i64 k, .string d, .slice a2 m1 c3, .int .u64 t1, .int .u64 t2, .slice b2 m2 c4, .string au, .int .i64 ti, .string mt]] w fun e w' => e = .returned (.bool false) ∧ Below w.heap.size w w' := by
  have hb := ((Below.refl w.heap.size w).alloc (Nat.le_refl _) (oc' k d (.slice a n1 c1) t1 t2 (.slice b n2 c2) au ti ms)).alloc (by simp) (oc' k d (.slice a2 m1 c3) t1 t2 (.slice b2 m2 c4) au ti mt)
  have e := ne_str h
  clear h
  go_enter Try.func23, Try.ntmps23
  go_wp2
  go_ret
  exact ⟨rfl, hb⟩

set_option maxRecDepth 100000 in
set_option maxHeartbeats 4000000 in
theorem same_ents (k : Int) (d : BA) (n1 m1 t1 t2 n2 m2 : Nat) (au : BA) (ti : Int) (ms : BA) (a b a2 b2 : Option Addr) (c1 c2 c3 c4 : Nat) (h : n1 ≠ m1) (w : World) :
    Calls Try.prog 23 #[.agg #[.int .i64 k, .string d, .slice a n1 c1, .int .u64 t1, .int .u64 t2, .slice b n2 c2, .string au, .int .i64 ti, .string ms], .agg #[.int .i64 k, .string d, .slice a2 m1 c3, .int .u64 t1, .int .u64 t2, .slice b2 m2 c4, .string au, .int .i64 ti, .string ms]] w fun e w' => e = .returned (.bool false) ∧ Below w.heap.size w w' := by
  have hb := ((Below.refl w.heap.size w).alloc (Nat.le_refl _) (oc' k d (.slice a n1 c1) t1 t2 (.slice b n2 c2) au ti ms)).alloc (by simp) (oc' k d (.slice a2 m1 c3) t1 t2 (.slice b2 m2 c4) au ti ms)
  have e : ((n1 : Int) != (m1 : Int)) = true := by simp; omega
  clear h
  go_enter Try.func23, Try.ntmps23
  go_wp2
  go_ret
  exact ⟨rfl, hb⟩

set_option maxRecDepth 100000 in
set_option maxHeartbeats 4000000 in
theorem same_pars (k : Int) (d : BA) (n1 t1 t2 n2 m2 : Nat) (au : BA) (ti : Int) (ms : BA) (a b a2 b2 : Option Addr) (c1 c2 c3 c4 : Nat) (h : n2 ≠ m2) (w : World) :
    Calls Try.prog 23 #[.agg #[.int .i64 k, .string d, .slice a n1 c1, .int .u64 t1, .int .u64 t2, .slice b n2 c2, .string au, .int .i64 ti, .string ms], .agg #[.int .i64 k, .string d, .slice a2 n1 c3, .int .u64 t1, .int .u64 t2, .slice b2 m2 c4, .string au, .int .i64 ti, .string ms]] w fun e w' => e = .returned (.bool false) ∧ Below w.heap.size w w' := by
  have hb := ((Below.refl w.heap.size w).alloc (Nat.le_refl _) (oc' k d (.slice a n1 c1) t1 t2 (.slice b n2 c2) au ti ms)).alloc (by simp) (oc' k d (.slice a2 n1 c3) t1 t2 (.slice b2 m2 c4) au ti ms)
  have e : ((n2 : Int) != (m2 : Int)) = true := by simp; omega
  clear h
  go_enter Try.func23, Try.ntmps23
  go_wp2
  go_ret
  exact ⟨rfl, hb⟩

set_option maxRecDepth 100000 in
set_option maxHeartbeats 8000000 in
theorem same_rest (k : Int) (d : BA) (L M : List Ent) (t1 t2 : Nat) (P Q : List Dig) (au : BA) (ti : Int) (ms : BA) (a b a2 b2 : Option Addr) (c1 c2 c3 c4 : Nat) (w : World)
    (h1 : IsEnts w (.slice a L.length c1) L) (h2 : IsEnts w (.slice a2 L.length c3) M) (h3 : IsDigs w (.slice b P.length c2) P) (h4 : IsDigs w (.slice b2 P.length c4) Q) (hl : L.length = M.length) (hp : P.length = Q.length) (q : Bool) (hq : q = true ↔ L = M ∧ P = Q) :
    Calls Try.prog 23 #[.agg #[.int .i64 k, .string d, .slice a L.length c1, .int .u64 t1, .int .u64 t2, .slice b P.length c2, .string au, .int .i64 ti, .string ms], .agg #[.int .i64 k, .string d, .slice a2 L.length c3, .int .u64 t1, .int .u64 t2, .slice b2 P.length c4, .string au, .int .i64 ti, .string ms]] w fun e w' => e = .returned (.bool q) ∧ Below w.heap.size w w' := by
  have HL := Lib.hid hl
  have HP := Lib.hid hp
  have HQ := Lib.hid hq
  obtain ⟨_, _, e1, m1, _, hc1⟩ := h1
  obtain ⟨_, _, e2, _, _, hc2⟩ := h2
  obtain ⟨_, _, e3, m3, _, hc3⟩ := h3
  obtain ⟨_, _, e4, _, _, hc4⟩ := h4
  cases e1
  injection e2 with e2a e2b e2c
  cases e3
  injection e4 with e4a e4b e4c
  subst e2a e2c e4a e4c
  have H1 := Lib.hid hc1
  have H2 := Lib.hid hc2
  have H3 := Lib.hid hc3
  have H4 := Lib.hid hc4
  have hb := ((Below.refl w.heap.size w).alloc (Nat.le_refl _) (oc' k d (.slice a L.length c1) t1 t2 (.slice b P.length c2) au ti ms)).alloc (by simp) (oc' k d (.slice a2 L.length c3) t1 t2 (.slice b2 P.length c4) au ti ms)
  have xA : ((w.alloc (oc' k d (.slice a L.length c1) t1 t2 (.slice b P.length c2) au ti ms)).alloc (oc' k d (.slice a2 L.length c3) t1 t2 (.slice b2 P.length c4) au ti ms)).heap[w.heap.size]? = some (.cells #[.int .i64 k, .string d, .slice a L.length c1, .int .u64 t1, .int .u64 t2, .slice b P.length c2, .string au, .int .i64 ti, .string ms] 28 (0, 0)) := (Below.heap_alloc _ _ _ (by simp)).trans (World.alloc_heap_new _ _)
  have xB : ((w.alloc (oc' k d (.slice a L.length c1) t1 t2 (.slice b P.length c2) au ti ms)).alloc (oc' k d (.slice a2 L.length c3) t1 t2 (.slice b2 P.length c4) au ti ms)).heap[w.heap.size + 1]? = some (.cells #[.int .i64 k, .string d, .slice a2 L.length c3, .int .u64 t1, .int .u64 t2, .slice b2 P.length c4, .string au, .int .i64 ti, .string ms] 28 (0, 0)) := by
    have := World.alloc_heap_new (w.alloc (oc' k d (.slice a L.length c1) t1 t2 (.slice b P.length c2) au ti ms)) (oc' k d (.slice a2 L.length c3) t1 t2 (.slice b2 P.length c4) au ti ms)
    rwa [World.size_alloc] at this
  have X := Lib.hid (And.intro xA (And.intro xB hb))
  clear xA xB hb hl hp hq hc1 hc2 hc3 hc4 e2b e4b
  unfold maxLen at m1 m3
  go_enter Try.func23, Try.ntmps23
  go_wp2
  go_loopw [5] (fun s5 wr => ∃ j : Nat, j ≤ L.length ∧ s5 = .int .i64 j ∧ Hid (∀ i (h : i < L.length) (h' : i < M.length), i < j → L[i] = M[i]) ∧ Hid (wr.heap[w.heap.size]? = some (.cells #[.int .i64 k, .string d, .slice a L.length c1, .int .u64 t1, .int .u64 t2, .slice b P.length c2, .string au, .int .i64 ti, .string ms] 28 (0, 0)) ∧ wr.heap[w.heap.size + 1]? = some (.cells #[.int .i64 k, .string d, .slice a2 L.length c3, .int .u64 t1, .int .u64 t2, .slice b2 P.length c4, .string au, .int .i64 ti, .string ms] 28 (0, 0)) ∧ Below w.heap.size w wr)) (fun i _ => L.length - (intOf i).toNat)
  case atStart => exact ⟨0, Nat.zero_le _, rfl, Lib.hid (fun i _ _ h => absurd h (Nat.not_lt_zero _)), X⟩
  case round =>
    obtain ⟨j, hj, rfl, HJ, HB⟩ := hrel
    clear X
    have yA : wr.cell? ⟨w.heap.size, 2, none⟩ = some (.slice a L.length c1) := by rw [Lib.cell_of_heap HB.out.1]; rfl
    have yB : wr.cell? ⟨w.heap.size + 1, 2, none⟩ = some (.slice a2 L.length c3) := by rw [Lib.cell_of_heap HB.out.2.1]; rfl
    by_cases hlt : j < L.length
    · have hlt2 : j < M.length := by have := HL.out; omega
      obtain ⟨b1, o1, rfl, hb1, hcell⟩ := H1.out.resolve_left (by intro e; rw [e] at hlt; simp at hlt)
      obtain ⟨b3, o3, rfl, hb3, hcell2⟩ := H2.out.resolve_left (by intro e; rw [e] at hlt2; simp at hlt2)
      obtain ⟨p0, p1, p2, p3⟩ := (hcell j hlt).below HB.out.2.2 hb1
      obtain ⟨q0, q1, q2, q3⟩ := (hcell2 j hlt2).below HB.out.2.2 hb3
      obtain ⟨x, hx⟩ : ∃ x, L[j] = x := ⟨_, rfl⟩
      obtain ⟨y, hy⟩ : ∃ y, M[j] = y := ⟨_, rfl⟩
      rw [hx] at p0 p1 p2 p3
      rw [hy] at q0 q1 q2 q3
      have HX := Lib.hid hx
      have HY := Lib.hid hy
      clear hx hy hcell hcell2
      by_cases hxy : x = y
      · subst hxy
        have HJ2 : Hid (∀ i (h : i < L.length) (h' : i < M.length), i < j + 1 → L[i] = M[i]) := Lib.hid fun i h h' hi => by
          rcases Nat.lt_or_ge i j with h9 | h9
          · exact HJ.out i h h' h9
          · obtain rfl : i = j := by omega
            rw [HX.out, HY.out]
        obtain ⟨nm, dir, d1, d2⟩ := x
        simp only at p0 p1 p2 p3 q0 q1 q2 q3
        clear HX HY hlt2
        go_wp2
        go_quiet (fail)
        have HB2 := Lib.hid (two_drewN HB.out nq)
        go_wp2
        go_roundw
        case rel => exact ⟨j + 1, by omega, by go_num, HJ2, HB2⟩
        case measure => simp [intOf]; omega
      · obtain rfl : q = false := by
          cases q with
          | false => rfl
          | true =>
            have := (HQ.out.1 rfl).1
            subst this
            exact absurd (HX.out.symm.trans HY.out) hxy
        obtain ⟨nm, dir, d1, d2⟩ := x
        obtain ⟨nm', dir', d1', d2'⟩ := y
        simp only at p0 p1 p2 p3 q0 q1 q2 q3
        clear HX HY hlt2
        by_cases z1 : nm = nm'
        · subst z1
          by_cases z2 : dir = dir'
          · subst z2
            by_cases z4 : d1 = d1'
            · subst z4
              have z3 : ¬ d2 = d2' := fun h => hxy (by rw [h])
              have i3 : (((d2 : Nat) : Int) == (d2' : Int)) = false := by simp; omega
              have n3 : (d2 == d2') = false := by simpa using z3
              clear hxy
              go_wp2
              go_quiet (fail)
              go_wp2
              go_ret
              exact ⟨rfl, below_drewN HB.out.2.2 nq⟩
            · have i3 : (((d1 : Nat) : Int) == (d1' : Int)) = false := by simp; omega
              have n3 : (d1 == d1') = false := by simpa using z4
              clear hxy
              go_wp2
              go_quiet (fail)
              go_wp2
              go_ret
              exact ⟨rfl, below_drewN HB.out.2.2 nq⟩
          · have ez : (dir == dir') = false := by simpa using z2
            clear hxy z2
            go_wp2
            go_quiet (fail)
            go_wp2
            go_ret
            exact ⟨rfl, below_drewN HB.out.2.2 nq⟩
        · have ez := ne_str z1
          clear hxy z1
          go_wp2
          go_quiet (fail)
          go_wp2
          go_ret
          exact ⟨rfl, below_drewN HB.out.2.2 nq⟩
    · have eL : L = M := List.ext_getElem HL.out fun i h h' => HJ.out i h h' (by omega)
      have EL := Lib.hid eL
      clear HJ eL
      obtain rfl : j = L.length := by omega
      go_wp2
      clear yA yB
      go_loopw [6] (fun s6 wr => ∃ j : Nat, j ≤ P.length ∧ s6 = .int .i64 j ∧ Hid (∀ i (h : i < P.length) (h' : i < Q.length), i < j → P[i] = Q[i]) ∧ Hid (wr.heap[w.heap.size]? = some (.cells #[.int .i64 k, .string d, .slice a L.length c1, .int .u64 t1, .int .u64 t2, .slice b P.length c2, .string au, .int .i64 ti, .string ms] 28 (0, 0)) ∧ wr.heap[w.heap.size + 1]? = some (.cells #[.int .i64 k, .string d, .slice a2 L.length c3, .int .u64 t1, .int .u64 t2, .slice b2 P.length c4, .string au, .int .i64 ti, .string ms] 28 (0, 0)) ∧ Below w.heap.size w wr)) (fun i _ => P.length - (intOf i).toNat)
      case atStart => exact ⟨0, Nat.zero_le _, rfl, Lib.hid (fun i _ _ h => absurd h (Nat.not_lt_zero _)), HB⟩
      case round =>
        clear HB hlt hj
        obtain ⟨j, hj, rfl, HJ, HB⟩ := hrel
        have yA : wr.cell? ⟨w.heap.size, 5, none⟩ = some (.slice b P.length c2) := by rw [Lib.cell_of_heap HB.out.1]; rfl
        have yB : wr.cell? ⟨w.heap.size + 1, 5, none⟩ = some (.slice b2 P.length c4) := by rw [Lib.cell_of_heap HB.out.2.1]; rfl
        by_cases hlt : j < P.length
        · have hlt2 : j < Q.length := by have := HP.out; omega
          obtain ⟨b1, o1, rfl, hb1, hcell⟩ := H3.out.resolve_left (by intro e; rw [e] at hlt; simp at hlt)
          obtain ⟨b3, o3, rfl, hb3, hcell2⟩ := H4.out.resolve_left (by intro e; rw [e] at hlt2; simp at hlt2)
          have p0 := (HB.out.2.2.cell (p := ⟨b1, o1 + j * 2, none⟩) hb1).trans (hcell j hlt).1
          have p1 := (HB.out.2.2.cell (p := ⟨b1, o1 + j * 2 + 1, none⟩) hb1).trans (hcell j hlt).2
          have q0 := (HB.out.2.2.cell (p := ⟨b3, o3 + j * 2, none⟩) hb3).trans (hcell2 j hlt2).1
          have q1 := (HB.out.2.2.cell (p := ⟨b3, o3 + j * 2 + 1, none⟩) hb3).trans (hcell2 j hlt2).2
          obtain ⟨x, hx⟩ : ∃ x, P[j] = x := ⟨_, rfl⟩
          obtain ⟨y, hy⟩ : ∃ y, Q[j] = y := ⟨_, rfl⟩
          rw [hx] at p0 p1
          rw [hy] at q0 q1
          have HX := Lib.hid hx
          have HY := Lib.hid hy
          clear hx hy hcell hcell2
          by_cases hxy : x = y
          · subst hxy
            have HJ2 : Hid (∀ i (h : i < P.length) (h' : i < Q.length), i < j + 1 → P[i] = Q[i]) := Lib.hid fun i h h' hi => by
              rcases Nat.lt_or_ge i j with h9 | h9
              · exact HJ.out i h h' h9
              · obtain rfl : i = j := by omega
                rw [HX.out, HY.out]
            obtain ⟨d1, d2⟩ := x
            simp only at p0 p1 q0 q1
            clear HX HY hlt2
            go_wp2
            go_quiet (fail)
            have HB2 := Lib.hid (two_drewN HB.out nq)
            go_wp2
            go_roundw
            case rel => exact ⟨j + 1, by omega, by go_num, HJ2, HB2⟩
            case measure => simp [intOf]; omega
          · obtain rfl : q = false := by
              cases q with
              | false => rfl
              | true =>
                have := (HQ.out.1 rfl).2
                subst this
                exact absurd (HX.out.symm.trans HY.out) hxy
            obtain ⟨d1, d2⟩ := x
            obtain ⟨d1', d2'⟩ := y
            simp only at p0 p1 q0 q1
            clear HX HY hlt2
            by_cases z4 : d1 = d1'
            · subst z4
              have z3 : ¬ d2 = d2' := fun h => hxy (by rw [h])
              have i3 : (((d2 : Nat) : Int) == (d2' : Int)) = false := by simp; omega
              have n3 : (d2 == d2') = false := by simpa using z3
              clear hxy
              go_wp2
              go_quiet (fail)
              go_wp2
              go_ret
              exact ⟨rfl, below_drewN HB.out.2.2 nq⟩
            · have i3 : (((d1 : Nat) : Int) == (d1' : Int)) = false := by simp; omega
              have n3 : (d1 == d1') = false := by simpa using z4
              clear hxy
              go_wp2
              go_quiet (fail)
              go_wp2
              go_ret
              exact ⟨rfl, below_drewN HB.out.2.2 nq⟩
        · obtain rfl : q = true := HQ.out.2 ⟨EL.out, List.ext_getElem HP.out fun i h h' => HJ.out i h h' (by omega)⟩
          have hb := HB.out.2.2
          go_wp2
          go_ret
          exact ⟨rfl, hb⟩

theorem same_any (x y : Ob) (v u : Value) (w : World) (h1 : IsOb w v x) (h2 : IsOb w u y) (q : Bool) (hq : q = true ↔ x = y) :
    Calls Try.prog 23 #[v, u] w fun e w' => e = .returned (.bool q) ∧ Below w.heap.size w w' := by
  obtain ⟨ve, vp, rfl, hE, hP⟩ := h1
  obtain ⟨ue, up, rfl, hF, hQ⟩ := h2
  have gE := hE; have gP := hP; have gF := hF; have gQ := hQ
  obtain ⟨a, c1, rfl, _, _, _⟩ := hE
  obtain ⟨b, c2, rfl, _, _, _⟩ := hP
  obtain ⟨a2, c3, rfl, _, _, _⟩ := hF
  obtain ⟨b2, c4, rfl, _, _, _⟩ := hQ
  obtain ⟨k, d, L, ⟨t1, t2⟩, P, au, ti, ms⟩ := x
  obtain ⟨k', d', M, ⟨u1, u2⟩, Q, av, tj, mt⟩ := y
  simp only at gE gP gF gQ ⊢
  have no : ¬ (Ob.mk k d L (t1, t2) P au ti ms = Ob.mk k' d' M (u1, u2) Q av tj mt) → q = false := fun h => by
    cases q with
    | false => rfl
    | true => exact absurd (hq.1 rfl) h
  by_cases e1 : k = k'
  · subst e1
    by_cases e2 : d = d'
    · subst e2
      by_cases e3 : t1 = u1 ∧ t2 = u2
      · obtain ⟨rfl, rfl⟩ := e3
        by_cases e4 : au = av
        · subst e4
          by_cases e5 : ti = tj
          · subst e5
            by_cases e6 : ms = mt
            · subst e6
              by_cases e7 : L.length = M.length
              · by_cases e8 : P.length = Q.length
                · have gF' : IsEnts w (.slice a2 L.length c3) M := by rw [e7]; exact gF
                  have gQ' : IsDigs w (.slice b2 P.length c4) Q := by rw [e8]; exact gQ
                  rw [← e7, ← e8]
                  refine same_rest k d L M t1 t2 P Q au ti ms a b a2 b2 c1 c2 c3 c4 w gE gF' gP gQ' e7 e8 q (hq.trans ?_)
                  simp
                · rw [no (fun h => e8 (by cases h; rfl)), ← e7]
                  exact same_pars k d L.length t1 t2 P.length Q.length au ti ms a b a2 b2 c1 c2 c3 c4 e8 w
              · rw [no (fun h => e7 (by cases h; rfl))]
                exact same_ents k d L.length M.length t1 t2 P.length Q.length au ti ms a b a2 b2 c1 c2 c3 c4 e7 w
            · rw [no (fun h => e6 (by cases h; rfl))]
              exact same_msg k d L.length M.length t1 t2 P.length Q.length au ti ms mt a b a2 b2 c1 c2 c3 c4 e6 w
          · rw [no (fun h => e5 (by cases h; rfl))]
            exact same_time k d L.length M.length t1 t2 P.length Q.length au ti tj ms mt a b a2 b2 c1 c2 c3 c4 e5 w
        · rw [no (fun h => e4 (by cases h; rfl))]
          exact same_author k d L.length M.length t1 t2 P.length Q.length au av ti tj ms mt a b a2 b2 c1 c2 c3 c4 e4 w
      · rw [no (fun h => e3 (by cases h; exact ⟨rfl, rfl⟩))]
        exact same_tree k d L.length M.length t1 t2 u1 u2 P.length Q.length au av ti tj ms mt a b a2 b2 c1 c2 c3 c4 e3 w
    · rw [no (fun h => e2 (by cases h; rfl))]
      exact same_data k d d' L.length M.length t1 t2 u1 u2 P.length Q.length au av ti tj ms mt a b a2 b2 c1 c2 c3 c4 e2 w
  · rw [no (fun h => e1 (by cases h; rfl))]
    exact same_kind k k' d d' L.length M.length t1 t2 u1 u2 P.length Q.length au av ti tj ms mt a b a2 b2 c1 c2 c3 c4 e1 w
end Go.Proofs.Ytiaahjoldahlnaa
