/- For every object ObjectRoundTrip returns true, and for every string ObjectCanonical: what Encode yields of a valid object, Decode reads as that object; what Decode reads is the valid object whose encoding the string is; else it returns nothing. The arguments stay as they were. No condition. -/
import Derived.Test.YtiaahjoldahlnaaAwake
import Derived.Test.YtiaahjoldahlnaaDecA
import Derived.Test.YtiaahjoldahlnaaRefChk
import Derived.Test.YtiaahjoldahlnaaSame
import Derived.Test.YtiaahjoldahlnaaGreat
import Derived.Test.YtiaahjoldahlnaaOpen
namespace Go.Proofs.Ytiaahjoldahlnaa
theorem split_at' (s : BA) (k : Nat) : s = s.extract 0 k ++ s.extract k s.size := by
  apply Cd.nats_inj
  rw [Cd.nats_append, Cd.nats_extract, Cd.nats_extract, List.drop_zero]
  have e : (Cd.nats s).take s.size = Cd.nats s := List.take_of_length_le (by rw [Cd.nats_length]; exact Nat.le_refl _)
  rw [e, List.take_append_drop]
theorem rdI_inv {r r' : Rd} {m : Nat} (h : rdI r = (m, r')) (hb : r'.2 = false) : r.1 = numS m ++ r'.1 ∧ r.2 = false ∧ m ≤ 1099511627776 := by
  obtain ⟨s, b⟩ := r
  unfold rdI at h
  rcases hg : Cd.getL 12 13 6 0 0 (Cd.nats s) with ⟨x, k, er⟩
  rw [hg] at h
  simp only at h
  by_cases he : er = 0
  · subst he
    rw [if_pos rfl] at h
    obtain ⟨rfl, rfl⟩ := Prod.mk.inj h
    obtain ⟨_, _, f3, f4, f5, t, ht⟩ := Cd.getL_fits s x k hg
    refine ⟨?_, hb, f4⟩
    have e1 : s.extract 0 k = numS x := by
      apply Cd.nats_inj
      rw [Cd.nats_extract, List.drop_zero, nats_num, ← ht, ← f5, List.take_left]
    have := split_at' s k
    rw [e1] at this
    exact this
  · rw [if_neg he] at h
    obtain ⟨_, rfl⟩ := Prod.mk.inj h
    cases hb
theorem rdT_inv {r r' : Rd} {x : BA} (h : rdT r = (x, r')) (hb : r'.2 = false) : r.1 = txtS x ++ r'.1 ∧ r.2 = false ∧ x.size ≤ 65536 := by
  obtain ⟨s, b⟩ := r
  unfold rdT at h
  rcases hg : Cd.getT s with ⟨y, k, er⟩
  simp only at h
  rw [hg] at h
  simp only at h
  by_cases he : er = 0
  · subst he
    rw [if_pos rfl] at h
    obtain ⟨rfl, rfl⟩ := Prod.mk.inj h
    obtain ⟨f1, _, f3, f4, _⟩ := Cd.canon_T s y k hg
    refine ⟨?_, hb, f4⟩
    have e1 : s.extract 0 k = txtS y := by
      apply Cd.nats_inj
      rw [f1, nats_txt]
    have := split_at' s k
    rw [e1] at this
    exact this
  · rw [if_neg he] at h
    obtain ⟨_, rfl⟩ := Prod.mk.inj h
    cases hb
theorem s8_num8 (x : BA) (hx : x.size = 8) : s8 (num8 x) = x := by
  apply Cd.nats_inj
  rw [nats_s8]
  have hl : (Cd.nats x).length = 8 := by rw [Cd.nats_length, hx]
  have hb := Cd.nats_lt x
  unfold num8
  generalize Cd.nats x = l at hl hb
  obtain ⟨a, b, c, d, e, f, g, h, rfl⟩ : ∃ a b c d e f g h, l = [a, b, c, d, e, f, g, h] := by
    match l, hl with
    | [a, b, c, d, e, f, g, h], _ => exact ⟨a, b, c, d, e, f, g, h, rfl⟩
  simp only [List.mem_cons, List.not_mem_nil, or_false, forall_eq_or_imp, forall_eq] at hb
  obtain ⟨h1, h2, h3, h4, h5, h6, h7, h8⟩ := hb
  simp only [List.foldl_cons, List.foldl_nil, Nat.reducePow, Nat.div_one, List.cons.injEq, and_true]
  omega
theorem rdB_inv {r r' : Rd} {m : Nat} (h : rdB r = (m, r')) (hb : r'.2 = false) : r.1 = s8 m ++ r'.1 ∧ r.2 = false := by
  obtain ⟨s, b⟩ := r
  unfold rdB rdY at h
  by_cases hk : 8 ≤ s.size
  · rw [if_pos hk] at h
    obtain ⟨rfl, rfl⟩ := Prod.mk.inj h
    refine ⟨?_, hb⟩
    rw [s8_num8 _ (by simp only [ByteArray.size_extract]; omega)]
    exact split_at' s 8
  · rw [if_neg hk] at h
    obtain ⟨_, rfl⟩ := Prod.mk.inj h
    cases hb
theorem rdD_inv {r r' : Rd} {d : Dig} (h : rdD r = (d, r')) (hb : r'.2 = false) : r.1 = digS d ++ r'.1 ∧ r.2 = false := by
  unfold rdD at h
  rcases e1 : rdB r with ⟨a, r1⟩
  rw [e1] at h
  rcases e2 : rdB r1 with ⟨b, r2⟩
  rw [e2] at h
  obtain ⟨rfl, rfl⟩ := Prod.mk.inj h
  obtain ⟨g1, g2⟩ := rdB_inv e2 hb
  obtain ⟨g3, g4⟩ := rdB_inv e1 g2
  refine ⟨?_, g4⟩
  rw [g3, g1, digS, dgS, app_assoc]
theorem rdC_inv {r r' : Rd} {n : Nat} (h : rdC r = (n, r')) (hb : r'.2 = false) : r.1 = numS n ++ r'.1 ∧ r.2 = false := by
  unfold rdC at h
  split at h
  · obtain ⟨_, rfl⟩ := Prod.mk.inj h
    cases hb
  · have := rdI_inv h hb
    exact ⟨this.1, this.2.1⟩
theorem rdO_inv {r r' : Rd} {q : Bool} (h : rdO r = (q, r')) (hb : r'.2 = false) : r.1 = numS (b01 q) ++ r'.1 ∧ r.2 = false := by
  unfold rdO at h
  rcases e : rdI r with ⟨m, r1⟩
  rw [e] at h
  simp only at h
  by_cases hm : 1 < m
  · rw [if_pos hm] at h
    obtain ⟨_, rfl⟩ := Prod.mk.inj h
    cases hb
  · rw [if_neg hm] at h
    obtain ⟨rfl, rfl⟩ := Prod.mk.inj h
    obtain ⟨g1, g2, _⟩ := rdI_inv e hb
    refine ⟨?_, g2⟩
    have : b01 (decide (m = 1)) = m := by
      by_cases h1 : m = 1
      · subst h1; rfl
      · rw [decide_eq_false h1]
        show 0 = m
        omega
    rw [this]
    exact g1
theorem rdX_inv {r r' : Rd} {x : Ent} (h : rdX r = (x, r')) (hb : r'.2 = false) : r.1 = entS x ++ r'.1 ∧ r.2 = false := by
  unfold rdX at h
  rcases e1 : rdT r with ⟨t, r1⟩
  rw [e1] at h
  rcases e2 : rdO r1 with ⟨q, r2⟩
  simp only [e2] at h
  rcases e3 : rdD r2 with ⟨d, r3⟩
  rw [e3] at h
  obtain ⟨rfl, rfl⟩ := Prod.mk.inj h
  obtain ⟨g1, g2⟩ := rdD_inv e3 hb
  obtain ⟨g3, g4⟩ := rdO_inv e2 g2
  obtain ⟨g5, g6, _⟩ := rdT_inv e1 g4
  refine ⟨?_, g6⟩
  rw [g5, g3, g1]
  simp only [entS, digS, app_assoc]
theorem rdXs_inv (n : Nat) (A : List Ent) (r : Rd) (L : List Ent) (r' : Rd) (h : rdXs n A r = (L, r')) (hb : r'.2 = false) : ∃ M, L = A ++ M ∧ M.length = n ∧ r.1 = catS (M.map entS) ++ r'.1 ∧ r.2 = false := by
  induction n generalizing A r with
  | zero =>
    obtain ⟨rfl, rfl⟩ := Prod.mk.inj h
    exact ⟨[], by simp, rfl, by simp [catS, empty_app], hb⟩
  | succ n ih =>
    unfold rdXs at h
    obtain ⟨M, rfl, hM, g1, g2⟩ := ih _ _ h
    rcases e : rdX r with ⟨x, r1⟩
    rw [e] at g1 g2
    obtain ⟨g3, g4⟩ := rdX_inv e g2
    refine ⟨x :: M, by simp, by simp [hM], ?_, g4⟩
    rw [g3]
    simp only at g1
    rw [g1]
    simp only [List.map_cons, catS, app_assoc]
theorem rdDs_inv (n : Nat) (A : List Dig) (r : Rd) (L : List Dig) (r' : Rd) (h : rdDs n A r = (L, r')) (hb : r'.2 = false) : ∃ M, L = A ++ M ∧ M.length = n ∧ r.1 = catS (M.map digS) ++ r'.1 ∧ r.2 = false := by
  induction n generalizing A r with
  | zero =>
    obtain ⟨rfl, rfl⟩ := Prod.mk.inj h
    exact ⟨[], by simp, rfl, by simp [catS, empty_app], hb⟩
  | succ n ih =>
    unfold rdDs at h
    obtain ⟨M, rfl, hM, g1, g2⟩ := ih _ _ h
    rcases e : rdD r with ⟨x, r1⟩
    rw [e] at g1 g2
    obtain ⟨g3, g4⟩ := rdD_inv e g2
    refine ⟨x :: M, by simp, by simp [hM], ?_, g4⟩
    rw [g3]
    simp only at g1
    rw [g1]
    simp only [List.map_cons, catS, app_assoc]

/-- What can be read whole is the encoding. -/
theorem prs_canon (s : BA) (o : Ob) (h : prs s = (o, ((⟨#[]⟩, false) : Rd))) : encS o = s := by
  unfold prs at h
  rcases hI : rdI (s, false) with ⟨k, r1⟩
  rw [hI] at h
  unfold prK at h
  simp only at h
  by_cases k14 : k = 1 ∨ k = 4
  · rw [if_pos k14] at h
    unfold prB at h
    rcases hT : rdT r1 with ⟨x, r2⟩
    rw [hT] at h
    obtain ⟨rfl, rfl⟩ := Prod.mk.inj h
    obtain ⟨g1, g2, _⟩ := rdT_inv hT rfl
    obtain ⟨g3, _, _⟩ := rdI_inv hI g2
    simp only at g1 g3
    unfold encS
    have c2 : ¬ ((zOb k).kind = 2) := by show ¬ ((k : Int) = 2); omega
    have c3 : ¬ ((zOb k).kind = 3) := by show ¬ ((k : Int) = 3); omega
    rw [if_neg c2, if_neg c3, g3, g1, app_empty]
    rfl
  rw [if_neg k14] at h
  by_cases k2 : k = 2
  · rw [if_pos k2] at h
    subst k2
    unfold prE at h
    rcases hC : rdC r1 with ⟨n, r2⟩
    rw [hC] at h
    simp only at h
    rcases hP : rdXs n [] r2 with ⟨L, r3⟩
    rw [hP] at h
    obtain ⟨rfl, rfl⟩ := Prod.mk.inj h
    obtain ⟨M, rfl, hM, g1, g2⟩ := rdXs_inv n [] r2 L _ hP rfl
    obtain ⟨g3, g4⟩ := rdC_inv hC g2
    obtain ⟨g5, _, _⟩ := rdI_inv hI g4
    simp only at g1 g3 g5
    unfold encS
    have c2 : (zOb 2).kind = 2 := rfl
    rw [if_pos c2, g5, g3, g1, app_empty, ← hM]
    simp only [app_assoc]
  rw [if_neg k2] at h
  by_cases k3 : k = 3
  · rw [if_pos k3] at h
    subst k3
    unfold prC at h
    rcases hT : rdD r1 with ⟨d, r2⟩
    rcases hC : rdC r2 with ⟨n, r3⟩
    rcases hP : rdDs n [] r3 with ⟨P, r4⟩
    rcases hA : rdT r4 with ⟨au, r5⟩
    rcases hM : rdI r5 with ⟨m, r6⟩
    rcases hS : rdT r6 with ⟨ms, r7⟩
    simp only [hT, hC, hP, hA, hM, hS] at h
    obtain ⟨rfl, rfl⟩ := Prod.mk.inj h
    obtain ⟨g1, g2, _⟩ := rdT_inv hS rfl
    obtain ⟨g3, g4, _⟩ := rdI_inv hM g2
    obtain ⟨g5, g6, _⟩ := rdT_inv hA g4
    obtain ⟨Q, rfl, hQ, g7, g8⟩ := rdDs_inv n [] r3 P _ hP g6
    obtain ⟨g9, g10⟩ := rdC_inv hC g8
    obtain ⟨g11, g12⟩ := rdD_inv hT g10
    obtain ⟨g13, _, _⟩ := rdI_inv hI g12
    simp only at g1 g3 g5 g7 g9 g11 g13
    unfold encS comHead comTail
    rw [if_neg (by simp only; omega), if_pos rfl, g13, g11, g9, g7, g5, g3, g1, app_empty, ← hQ]
    simp only [app_assoc]
    rfl
  · rw [if_neg k3] at h
    obtain ⟨_, h2⟩ := Prod.mk.inj h
    have := congrArg Prod.snd h2
    cases this
/-- What is read whole, with valid fields, is valid. -/
theorem canon_chk {s : BA} {o : Ob} (h : encS o = s) (hs : s.size ≤ 65536) (hc : chkFields o = 0) (hd : o.data.size ≤ 65536) : chk o = 0 := by
  unfold chk
  rw [if_neg (by omega)]
  rcases encS_size hc hd with ⟨_, e⟩ | ⟨e1, _⟩
  · rw [if_neg]
    rw [← e, h]
    omega
  · rw [if_neg]
    have := szD_le o.data.size hd
    have := Cd.enc6 o.data.size (by omega)
    have : o.data.size = 0 := by rw [e1]; rfl
    omega
open Go.ChangeShapes Go.WideShapes Go.ChangeAt Go.RowKit Go.Great
open Go.ChangeMaps (open_string shut_string)
attribute [local go_sem] eq_arr
set_option maxRecDepth 100000 in
set_option maxHeartbeats 4000000 in
theorem rtLaw_great (k : Int) (d : BA) (ve : Value) (t1 t2 : Nat) (vp : Value) (au : BA) (ti : Int) (ms : BA) (w : World)
    (G : ∀ W, Below w.heap.size w W → Calls Try.prog 10 #[.agg #[.int .i64 k, .string d, ve, .int .u64 t1, .int .u64 t2, vp, .string au, .int .i64 ti, .string ms]] W fun e w' => e = .returned (.bool true) ∧ Below W.heap.size W w') :
    Calls Try.prog 6 #[.agg #[.int .i64 k, .string d, ve, .int .u64 t1, .int .u64 t2, vp, .string au, .int .i64 ti, .string ms]] w fun e w' => e = .returned (.bool true) ∧ Below w.heap.size w w' := by
  have HG := Lib.hid G
  have h0 := Bo.fresh w k d ve t1 t2 vp au ti ms
  clear G
  go_enter Try.func6, Try.ntmps6
  go_wp2_with fail
  ((with_reducible refine (HG.out _ h0.b).mono ?_); rintro e w1 ⟨rfl, hb1⟩)
  have hb := (h0.on hb1).b
  clear h0 hb1
  go_wp2_with fail
  ((with_reducible refine (awake_any _).mono ?_); rintro e w2 ⟨rfl, hb2⟩)
  have hb' := hb.trans (hb2.mono hb.size)
  go_wp2
  go_ret
  exact ⟨rfl, hb'⟩


theorem nine_of {W : World} {N : Nat} {v0 v1 v2 v3 v4 v5 v6 v7 v8 : Value} (h : W.heap[N]? = some (.cells #[v0, v1, v2, v3, v4, v5, v6, v7, v8] 28 (0, 0))) :
    W.cell? ⟨N, 0, none⟩ = some v0 ∧ W.cell? ⟨N, 1, none⟩ = some v1 ∧ W.cell? ⟨N, 2, none⟩ = some v2 ∧ W.cell? ⟨N, 3, none⟩ = some v3 ∧ W.cell? ⟨N, 4, none⟩ = some v4 ∧ W.cell? ⟨N, 5, none⟩ = some v5 ∧ W.cell? ⟨N, 6, none⟩ = some v6 ∧ W.cell? ⟨N, 7, none⟩ = some v7 ∧ W.cell? ⟨N, 8, none⟩ = some v8 := by
  refine ⟨?_, ?_, ?_, ?_, ?_, ?_, ?_, ?_, ?_⟩ <;> rw [Lib.cell_of_heap h] <;> rfl
theorem encS_fit' {o : Ob} (h : chk o = 0) : (encS o).size ≤ maxLen := by
  obtain ⟨h0, hd⟩ := chk_fields h
  unfold maxLen
  rcases encS_size h0 hd with ⟨_, e⟩ | ⟨_, e⟩
  · have := szD_le o.data.size hd
    have := Cd.enc6 o.data.size (by omega)
    omega
  · omega
/-- An object's nine cells, opened. -/
theorem ob_form {W : World} {v : Value} {o : Ob} (h : IsOb W v o) : ∃ a n c b m e, v = .agg #[.int .i64 o.kind, .string o.data, .slice a n c, .int .u64 o.tree.1, .int .u64 o.tree.2, .slice b m e, .string o.author, .int .i64 o.time, .string o.msg] := by
  obtain ⟨ve, vp, rfl, hE, hP⟩ := h
  obtain ⟨a, c, rfl, _⟩ := hE
  obtain ⟨b, e, rfl, _⟩ := hP
  exact ⟨_, _, _, _, _, _, rfl⟩

set_option maxRecDepth 100000 in
set_option maxHeartbeats 8000000 in
theorem rtLaw_bad (k : Int) (d : BA) (ve : Value) (t1 t2 : Nat) (vp : Value) (au : BA) (ti : Int) (ms : BA) (w : World) (r : Int) (hr : r ≠ 0)
    (G : ∀ W, Below w.heap.size w W → Calls Try.prog 10 #[.agg #[.int .i64 k, .string d, ve, .int .u64 t1, .int .u64 t2, vp, .string au, .int .i64 ti, .string ms]] W fun e w' => e = .returned (.bool false) ∧ Below W.heap.size W w')
    (E : ∀ W, Below w.heap.size w W → Calls Try.prog 17 #[.agg #[.int .i64 k, .string d, ve, .int .u64 t1, .int .u64 t2, vp, .string au, .int .i64 ti, .string ms]] W fun e w' => e = .returned (.tuple #[.string ⟨#[]⟩, .int .i64 r]) ∧ Below W.heap.size W w')
    (C : ∀ W, Below w.heap.size w W → Calls Try.prog 12 #[.agg #[.int .i64 k, .string d, ve, .int .u64 t1, .int .u64 t2, vp, .string au, .int .i64 ti, .string ms]] W fun e w' => e = .returned (.int .i64 r) ∧ Below W.heap.size W w') :
    Calls Try.prog 6 #[.agg #[.int .i64 k, .string d, ve, .int .u64 t1, .int .u64 t2, vp, .string au, .int .i64 ti, .string ms]] w fun e w' => e = .returned (.bool true) ∧ Below w.heap.size w w' := by
  have HG := Lib.hid G
  have HE := Lib.hid E
  have HC := Lib.hid C
  have h0 := Bo.fresh w k d ve t1 t2 vp au ti ms
  have hne : (r != 0) = true := by simpa using hr
  have hrr : (r == r) = true := by simp
  clear G E C hr
  go_enter Try.func6, Try.ntmps6
  go_wp2_with fail
  ((with_reducible refine (HG.out _ h0.b).mono ?_); rintro e w1 ⟨rfl, hb1⟩)
  have h1 := Lib.hid (h0.on hb1)
  clear h0 hb1
  obtain ⟨y0, y1, y2, y3, y4, y5, y6, y7, y8, -, yb⟩ := h1.out
  go_wp2_with fail
  ((with_reducible refine (HE.out _ yb).mono ?_); rintro e w2 ⟨rfl, hb2⟩)
  have h2 := Lib.hid (h1.out.on hb2)
  clear y0 y1 y2 y3 y4 y5 y6 y7 y8 yb h1 hb2
  obtain ⟨y0, y1, y2, y3, y4, y5, y6, y7, y8, -, yb⟩ := h2.out
  go_wp2_with fail
  ((with_reducible refine (HC.out _ yb).mono ?_); rintro e w3 ⟨rfl, hb3⟩)
  have h3 := Lib.hid (h2.out.on hb3)
  clear y0 y1 y2 y3 y4 y5 y6 y7 y8 yb h2 hb3
  go_wp2_with fail
  ((with_reducible refine (awake_any _).mono ?_); rintro e w4 ⟨rfl, hb4⟩)
  have hb := (h3.out.on hb4).b
  go_wp2
  go_ret
  exact ⟨rfl, hb⟩

set_option maxRecDepth 100000 in
set_option maxHeartbeats 8000000 in
theorem rtLaw_good (k : Int) (d : BA) (ve : Value) (t1 t2 : Nat) (vp : Value) (au : BA) (ti : Int) (ms : BA) (w : World) (s : BA) (o : Ob)
    (G : ∀ W, Below w.heap.size w W → Calls Try.prog 10 #[.agg #[.int .i64 k, .string d, ve, .int .u64 t1, .int .u64 t2, vp, .string au, .int .i64 ti, .string ms]] W fun e w' => e = .returned (.bool false) ∧ Below W.heap.size W w')
    (E : ∀ W, Below w.heap.size w W → Calls Try.prog 17 #[.agg #[.int .i64 k, .string d, ve, .int .u64 t1, .int .u64 t2, vp, .string au, .int .i64 ti, .string ms]] W fun e w' => e = .returned (.tuple #[.string s, .int .i64 0]) ∧ Below W.heap.size W w')
    (C : ∀ W, Below w.heap.size w W → Calls Try.prog 12 #[.agg #[.int .i64 k, .string d, ve, .int .u64 t1, .int .u64 t2, vp, .string au, .int .i64 ti, .string ms]] W fun e w' => e = .returned (.int .i64 0) ∧ Below W.heap.size W w')
    (D : ∀ W, Calls Try.prog 21 #[.string s] W fun e w' => ∃ v, e = .returned (.tuple #[v, .int .i64 0]) ∧ IsOb w' v o ∧ Below W.heap.size W w')
    (S : ∀ W v, Below w.heap.size w W → IsOb W v o → Calls Try.prog 23 #[v, .agg #[.int .i64 k, .string d, ve, .int .u64 t1, .int .u64 t2, vp, .string au, .int .i64 ti, .string ms]] W fun e w' => e = .returned (.bool true) ∧ Below W.heap.size W w') :
    Calls Try.prog 6 #[.agg #[.int .i64 k, .string d, ve, .int .u64 t1, .int .u64 t2, vp, .string au, .int .i64 ti, .string ms]] w fun e w' => e = .returned (.bool true) ∧ Below w.heap.size w w' := by
  have HG := Lib.hid G
  have HE := Lib.hid E
  have HC := Lib.hid C
  have HD := Lib.hid D
  have HS := Lib.hid S
  have h0 := Bo.fresh w k d ve t1 t2 vp au ti ms
  clear G E C D S
  go_enter Try.func6, Try.ntmps6
  go_wp2_with fail
  ((with_reducible refine (HG.out _ h0.b).mono ?_); rintro e w1 ⟨rfl, hb1⟩)
  have h1 := Lib.hid (h0.on hb1)
  clear h0 hb1
  obtain ⟨y0, y1, y2, y3, y4, y5, y6, y7, y8, -, yb⟩ := h1.out
  go_wp2_with fail
  ((with_reducible refine (HE.out _ yb).mono ?_); rintro e w2 ⟨rfl, hb2⟩)
  have h2 := Lib.hid (h1.out.on hb2)
  clear y0 y1 y2 y3 y4 y5 y6 y7 y8 yb h1 hb2
  go_wp2_with fail
  ((with_reducible refine (HD.out _).mono ?_); rintro e w3 ⟨v, rfl, hv, hb3⟩)
  have h3 := h2.out.on hb3
  have HV := Lib.hid hv
  obtain ⟨a9, n9, c9, b9, m9, e9, rfl⟩ := ob_form hv
  generalize o.tree.1 = o3 at HV HS ⊢
  generalize o.tree.2 = o4 at HV HS ⊢
  generalize o.kind = o0 at HV HS ⊢
  generalize o.data = o1 at HV HS ⊢
  generalize o.author = o6 at HV HS ⊢
  generalize o.time = o7 at HV HS ⊢
  generalize o.msg = o8 at HV HS ⊢
  have h4 := Lib.hid (h3.alloc (oc' o0 o1 (.slice a9 n9 c9) o3 o4 (.slice b9 m9 e9) o6 o7 o8))
  have hx := Lib.hid (HV.out.below ((Below.refl _ _).alloc (Nat.le_refl _) (oc' o0 o1 (.slice a9 n9 c9) o3 o4 (.slice b9 m9 e9) o6 o7 o8)) (Nat.le_refl _))
  have xx : (w3.alloc (oc' o0 o1 (.slice a9 n9 c9) o3 o4 (.slice b9 m9 e9) o6 o7 o8)).heap[w3.heap.size]? = some (.cells #[.int .i64 o0, .string o1, .slice a9 n9 c9, .int .u64 o3, .int .u64 o4, .slice b9 m9 e9, .string o6, .int .i64 o7, .string o8] 28 (0, 0)) := World.alloc_heap_new _ _
  have HX := Lib.hid xx
  clear h2 hb3 h3 hv HV xx
  obtain ⟨y0, y1, y2, y3, y4, y5, y6, y7, y8, -, yb⟩ := h4.out
  go_wp2_with fail
  ((with_reducible refine (HC.out _ yb).mono ?_); rintro e w5 ⟨rfl, hb5⟩)
  have h5 := Lib.hid (h4.out.on hb5)
  have hx5 := Lib.hid (hx.out.below hb5 (Nat.le_refl _))
  have xx5 := (hb5.block _ (Array.getElem?_eq_some_iff.1 HX.out).1).trans HX.out
  clear y0 y1 y2 y3 y4 y5 y6 y7 y8 yb h4 hb5 HX hx
  obtain ⟨y0, y1, y2, y3, y4, y5, y6, y7, y8, -, yb⟩ := h5.out
  obtain ⟨z0, z1, z2, z3, z4, z5, z6, z7, z8⟩ := nine_of xx5
  clear xx5
  go_wp2_with fail
  ((with_reducible refine (HS.out _ _ yb hx5.out).mono ?_); rintro e w6 ⟨rfl, hb6⟩)
  have h6 := Lib.hid (h5.out.on hb6)
  clear y0 y1 y2 y3 y4 y5 y6 y7 y8 yb h5 hb6 z0 z1 z2 z3 z4 z5 z6 z7 z8
  go_wp2_with fail
  ((with_reducible refine (awake_any _).mono ?_); rintro e w7 ⟨rfl, hb7⟩)
  have hb := (h6.out.on hb7).b
  go_wp2
  go_ret
  exact ⟨rfl, hb⟩

theorem rtLaw_any (o : Ob) (v : Value) (w : World) (hv : IsOb w v o) (hf : o.Fit) (hu : o.Digs64) :
    Calls Try.prog 6 #[v] w fun e w' => e = .returned (.bool true) ∧ Below w.heap.size w w' := by
  have hv0 := hv
  obtain ⟨ve, vp, rfl, hE, hP⟩ := hv
  have hB := fun (W : World) (hW : Below w.heap.size w W) => hv0.below hW (Nat.le_refl _)
  by_cases hs : o.Small
  · have hd : o.data.size ≤ 2 ^ 60 := Nat.le_trans hs.1 (by decide)
    by_cases h : chk o = 0
    · obtain ⟨h0, hd2⟩ := chk_fields h
      have he : decO (encS o) = (o, 0) := by
        refine decO_ok (prs_enc o h0 hd2 hu) ?_ rfl h0
        rcases encS_size h0 hd2 with ⟨_, e⟩ | ⟨_, e⟩
        · have := szD_le o.data.size hd2
          have := Cd.enc6 o.data.size (by omega)
          have := hs.1
          omega
        · omega
      have hD : ∀ W, Calls Try.prog 21 #[.string (encS o)] W fun e w' => ∃ v, e = .returned (.tuple #[v, .int .i64 0]) ∧ IsOb w' v o ∧ Below W.heap.size W w' := by
        intro W
        have := decode_any (encS o) (encS_fit' h) W
        rw [he] at this
        exact this
      exact rtLaw_good o.kind o.data ve o.tree.1 o.tree.2 vp o.author o.time o.msg w (encS o) o (fun W hW => great_no o _ W (hB W hW) hs) (fun W hW => encode_any o _ W (hB W hW) hf hd _ (by rw [encD, if_pos h]) 0 h) (fun W hW => check_any o _ W (hB W hW) hf hd 0 h) hD
        (fun W v hW hvo => same_any o o v _ W hvo (hB W hW) true ⟨fun _ => rfl, fun _ => rfl⟩)
    · exact rtLaw_bad o.kind o.data ve o.tree.1 o.tree.2 vp o.author o.time o.msg w (chk o) h (fun W hW => great_no o _ W (hB W hW) hs) (fun W hW => encode_any o _ W (hB W hW) hf hd _ (by rw [encD, if_neg h]) _ rfl) (fun W hW => check_any o _ W (hB W hW) hf hd _ rfl)
  · exact rtLaw_great o.kind o.data ve o.tree.1 o.tree.2 vp o.author o.time o.msg w (fun W hW => great_yes o _ W (hB W hW) hf hs)

set_option maxRecDepth 100000 in
theorem rt_lifted (os : Os) (started : os.Started) (H : Type) (enc : TypeId × Value → H) :
    ReturnsInHanded {} Try.checked os 6 .any (Rows.objectRoundTripSpec.pre6 enc Try.prog Try.f6 Rows.objectRoundTripRow.domain false) (Rows.objectRoundTripSpec.post enc Try.prog Try.f6 false true false false) := by
  refine returnsInHanded_of_change (C := Try.checked) ownK started (by kernel_rfl) Try.func6
    (ChangeSpec.witness6 (enc := enc) (C := Try.checked) false ⟨#[], #[ov 0 ⟨#[]⟩ (.slice none 0 0) (0, 0) (.slice none 0 0) ⟨#[]⟩ 0 ⟨#[]⟩], []⟩ 8 (by kernel_rfl) (by kernel_rfl) (by kernel_rfl) (by kernel_rfl)) ?_
  intro W base args ds gs before hval0 hW hcnd _
  have hval : ∀ (j : Nat) t v, Try.f6.params[j]? = some t → args[j]? = some v → Value.okWide Try.prog W .any base t v := hval0
  have hW' := hW
  obtain ⟨p, q, hA0, hV, rfl, hfz, hnd⟩ := hW
  have hA : DataW.TrodAll enc Try.prog W 0 (fun _ => true) true Try.f6.params.toList args.toList ds p := hA0
  rw [Try.params6] at hA hval
  obtain ⟨v0, d0, rfl, rfl, h0⟩ := trodAll_one hA
  obtain ⟨rfl, rfl⟩ := trodVars_none hV
  have k0 := h0
  have lt0 : ∀ x ∈ p, x.block < W.heap.size := by obtain ⟨m, hm⟩ := k0; exact DataW.trod_lt m _ _ _ hm
  obtain ⟨o, i0, hf, hu⟩ := open_ob (hval 0 28 v0 rfl rfl) h0
  clear hA0 hval0
  refine (rtLaw_any o v0 W i0 hf hu).mono fun e W' ⟨he, bel⟩ => ?_
  subst he
  exact ⟨_, rfl, _, _, _, [], _, [], hW', trodAll_mk1 (shut_bool Try.underlying4 _), trodAll_mk1 (Below.trod laidOut (by kernel_rfl) (of_decide_eq_true (by kernel_rfl)) k0 bel lt0), rfl, bel.frame _, fun h => by cases h⟩

theorem rt_holds : Rows.ObjectRoundTripSaid :=
  OpenClaim.holds_of_wide 6 Try.f6 rfl rfl rfl rfl rfl rfl rfl ⟨rfl, rfl, rfl, rfl, rfl⟩ rfl rfl rfl rfl rfl (by kernel_rfl) Try.func6 (by kernel_rfl)
    (of_decide_eq_true (by kernel_rfl)) (by unfold Func.isWrapper; rw [if_neg (of_decide_eq_false (by kernel_rfl))]; exact ⟨rfl, rfl⟩)
    (fun os started H enc _ => rt_lifted os started H enc)
#print axioms rt_holds
set_option maxHeartbeats 1000000 in
theorem cn_long (s : BA) (h : 600 < s.size) (_hm : s.size ≤ maxLen) (w : World) : Calls Try.prog 7 #[.string s] w fun e w' => e = .returned (.bool true) ∧ Below w.heap.size w w' := by
  have hp : (600 : Int) < s.size := by omega
  go_enter Try.func7, Try.ntmps7
  go_wp2_with fail
  ((with_reducible refine (awake_any _).mono ?_); rintro e w1 ⟨rfl, hb1⟩)
  go_wp2
  go_ret
  exact ⟨rfl, hb1⟩

set_option maxRecDepth 100000 in
set_option maxHeartbeats 8000000 in
theorem cn_bad (s : BA) (h : s.size ≤ 600) (w : World) (o : Ob)
    (D : ∀ W, Calls Try.prog 21 #[.string s] W fun e w' => ∃ v, e = .returned (.tuple #[v, .int .i64 13]) ∧ IsOb w' v o ∧ Below W.heap.size W w')
    (S : ∀ W v, IsOb W v o → Calls Try.prog 23 #[v, .agg #[.int .i64 0, .string ⟨#[]⟩, .slice none 0 0, .int .u64 0, .int .u64 0, .slice none 0 0, .string ⟨#[]⟩, .int .i64 0, .string ⟨#[]⟩]] W fun e w' => e = .returned (.bool true) ∧ Below W.heap.size W w') :
    Calls Try.prog 7 #[.string s] w fun e w' => e = .returned (.bool true) ∧ Below w.heap.size w w' := by
  have HD := Lib.hid D
  have HS := Lib.hid S
  have hp : ¬ (600 : Int) < s.size := by omega
  clear D S
  go_enter Try.func7, Try.ntmps7
  go_wp2_with fail
  ((with_reducible refine (HD.out _).mono ?_); rintro e w3 ⟨v, rfl, hv, hb3⟩)
  have HV := Lib.hid hv
  obtain ⟨a9, n9, c9, b9, m9, e9, rfl⟩ := ob_form hv
  generalize o.tree.1 = o3 at HV HS ⊢
  generalize o.tree.2 = o4 at HV HS ⊢
  generalize o.kind = o0 at HV HS ⊢
  generalize o.data = o1 at HV HS ⊢
  generalize o.author = o6 at HV HS ⊢
  generalize o.time = o7 at HV HS ⊢
  generalize o.msg = o8 at HV HS ⊢
  have hx := Lib.hid (HV.out.below ((Below.refl _ _).alloc (Nat.le_refl _) (oc' o0 o1 (.slice a9 n9 c9) o3 o4 (.slice b9 m9 e9) o6 o7 o8)) (Nat.le_refl _))
  have h4 := hb3.alloc hb3.size (oc' o0 o1 (.slice a9 n9 c9) o3 o4 (.slice b9 m9 e9) o6 o7 o8)
  clear hb3 hv HV
  go_wp2_with fail
  ((with_reducible refine (HS.out _ _ hx.out).mono ?_); rintro e w6 ⟨rfl, hb6⟩)
  have h6 := h4.trans (hb6.mono h4.size)
  clear h4 hb6 hx
  go_wp2_with fail
  ((with_reducible refine (awake_any _).mono ?_); rintro e w7 ⟨rfl, hb7⟩)
  have hb := h6.trans (hb7.mono h6.size)
  go_wp2
  go_ret
  exact ⟨rfl, hb⟩

set_option maxRecDepth 100000 in
set_option maxHeartbeats 8000000 in
theorem cn_good (s : BA) (h : s.size ≤ 600) (w : World) (o : Ob)
    (D : ∀ W, Calls Try.prog 21 #[.string s] W fun e w' => ∃ v, e = .returned (.tuple #[v, .int .i64 0]) ∧ IsOb w' v o ∧ Below W.heap.size W w')
    (E : ∀ W v, IsOb W v o → Calls Try.prog 17 #[v] W fun e w' => e = .returned (.tuple #[.string s, .int .i64 0]) ∧ Below W.heap.size W w') :
    Calls Try.prog 7 #[.string s] w fun e w' => e = .returned (.bool true) ∧ Below w.heap.size w w' := by
  have HD := Lib.hid D
  have HE := Lib.hid E
  have hp : ¬ (600 : Int) < s.size := by omega
  have hss : (s.toList == s.toList) = true := by simp
  clear D E
  go_enter Try.func7, Try.ntmps7
  go_wp2_with fail
  ((with_reducible refine (HD.out _).mono ?_); rintro e w3 ⟨v, rfl, hv, hb3⟩)
  have HV := Lib.hid hv
  obtain ⟨a9, n9, c9, b9, m9, e9, rfl⟩ := ob_form hv
  generalize o.tree.1 = o3 at HV HE ⊢
  generalize o.tree.2 = o4 at HV HE ⊢
  generalize o.kind = o0 at HV HE ⊢
  generalize o.data = o1 at HV HE ⊢
  generalize o.author = o6 at HV HE ⊢
  generalize o.time = o7 at HV HE ⊢
  generalize o.msg = o8 at HV HE ⊢
  have hx := Lib.hid (HV.out.below ((Below.refl _ _).alloc (Nat.le_refl _) (oc' o0 o1 (.slice a9 n9 c9) o3 o4 (.slice b9 m9 e9) o6 o7 o8)) (Nat.le_refl _))
  have h4 := hb3.alloc hb3.size (oc' o0 o1 (.slice a9 n9 c9) o3 o4 (.slice b9 m9 e9) o6 o7 o8)
  clear hb3 hv HV
  go_wp2_with fail
  ((with_reducible refine (HE.out _ _ hx.out).mono ?_); rintro e w6 ⟨rfl, hb6⟩)
  have h6 := h4.trans (hb6.mono h4.size)
  clear h4 hb6 hx
  go_wp2_with fail
  ((with_reducible refine (awake_any _).mono ?_); rintro e w7 ⟨rfl, hb7⟩)
  have hb := h6.trans (hb7.mono h6.size)
  go_wp2
  go_ret
  exact ⟨rfl, hb⟩

/-- What is read fits. -/
theorem prs_fit (s : BA) : (prs s).1.Fit ∧ (prs s).1.Digs64 ∧ (prs s).1.data.size ≤ 65536 := by
  have z0 : Dig64 (0, 0) := ⟨by decide, by decide⟩
  unfold prs
  generalize (rdI (s, false)).1 = k
  generalize (rdI (s, false)).2 = r1
  have m : (65536 : Nat) ≤ maxLen := by decide
  unfold prK
  by_cases k14 : k = 1 ∨ k = 4
  · rw [if_pos k14]
    have hx := rdT_val r1
    exact ⟨⟨Nat.le_trans hx m, Nat.zero_le _, Nat.zero_le _, by simp [prB, zOb]⟩, ⟨z0, by simp [prB, zOb], by simp [prB, zOb]⟩, hx⟩
  rw [if_neg k14]
  by_cases k2 : k = 2
  · rw [if_pos k2]
    have h3 := rdXs_all (rdC r1).1 [] (rdC r1).2 (by simp)
    exact ⟨⟨Nat.zero_le _, Nat.zero_le _, Nat.zero_le _, fun x hx => Nat.le_trans (h3.2 x hx).1 m⟩, ⟨z0, by simp [prE, zOb], fun x hx => (h3.2 x hx).2⟩, Nat.zero_le _⟩
  rw [if_neg k2]
  by_cases k3 : k = 3
  · rw [if_pos k3]
    unfold prC
    obtain ⟨x, r2, hT⟩ : ∃ x q, rdD r1 = (x, q) := ⟨_, _, rfl⟩
    obtain ⟨n, r3, hC⟩ : ∃ x q, rdC r2 = (x, q) := ⟨_, _, rfl⟩
    obtain ⟨P, r4, hP⟩ : ∃ x q, rdDs n [] r3 = (x, q) := ⟨_, _, rfl⟩
    obtain ⟨au, r5, hA⟩ : ∃ x q, rdT r4 = (x, q) := ⟨_, _, rfl⟩
    obtain ⟨m9, r6, hM⟩ : ∃ x q, rdI r5 = (x, q) := ⟨_, _, rfl⟩
    obtain ⟨ms, r7, hS⟩ : ∃ x q, rdT r6 = (x, q) := ⟨_, _, rfl⟩
    have u1 := rdD_dig r1
    have u2 := (rdDs_all n [] r3 (by simp)).2.1
    have u3 := rdT_val r4
    have u4 := rdT_val r6
    rw [hT] at u1
    rw [hP] at u2
    rw [hA] at u3
    rw [hS] at u4
    simp only [hT, hC, hP, hA, hM, hS]
    exact ⟨⟨Nat.zero_le _, Nat.le_trans u3 m, Nat.le_trans u4 m, by simp⟩, ⟨u1, u2, by simp⟩, Nat.zero_le _⟩
  · rw [if_neg k3]
    exact ⟨⟨Nat.zero_le _, Nat.zero_le _, Nat.zero_le _, by simp [zOb]⟩, ⟨z0, by simp [zOb], by simp [zOb]⟩, Nat.zero_le _⟩

theorem cn_any (s : BA) (hm : s.size ≤ maxLen) (w : World) : Calls Try.prog 7 #[.string s] w fun e w' => e = .returned (.bool true) ∧ Below w.heap.size w w' := by
  by_cases hs : s.size ≤ 600
  · by_cases hg : s.size ≤ 65536 ∧ (prs s).2 = ((⟨#[]⟩, false) : Rd) ∧ chkFields (prs s).1 = 0
    · have e : decO s = ((prs s).1, 0) := by unfold decO; rw [if_pos hg]
      have hd := fun W => decode_any s hm W
      rw [e] at hd
      obtain ⟨f1, f2, f3⟩ := prs_fit s
      have hc := prs_canon s (prs s).1 (Prod.ext rfl hg.2.1)
      have hk := canon_chk hc hg.1 hg.2.2 f3
      exact cn_good s hs w (prs s).1 hd (fun W v hv => encode_any (prs s).1 v W hv f1 (Nat.le_trans f3 (by decide)) s (by rw [encD, if_pos hk, hc]) 0 hk)
    · have e : decO s = (zOb 0, 13) := by unfold decO; rw [if_neg hg]
      have hd := fun W => decode_any s hm W
      rw [e] at hd
      exact cn_bad s hs w (zOb 0) hd (fun W v hv => same_any (zOb 0) (zOb 0) v _ W hv (isOb_zero W) true ⟨fun _ => rfl, fun _ => rfl⟩)
  · exact cn_long s (by omega) hm w

set_option maxRecDepth 100000 in
theorem cn_lifted (os : Os) (started : os.Started) (H : Type) (enc : TypeId × Value → H) :
    ReturnsInHanded {} Try.checked os 7 .any (Rows.objectCanonicalSpec.pre6 enc Try.prog Try.f7 Rows.objectCanonicalRow.domain false) (Rows.objectCanonicalSpec.post enc Try.prog Try.f7 false true false false) := by
  refine returnsInHanded_of_change (C := Try.checked) ownK started (by kernel_rfl) Try.func7
    (ChangeSpec.witness6 (enc := enc) (C := Try.checked) false ⟨#[], #[.string ⟨#[]⟩], []⟩ 8 (by kernel_rfl) (by kernel_rfl) (by kernel_rfl) (by kernel_rfl)) ?_
  intro W base args ds gs before hval0 hW hcnd _
  have hval : ∀ (j : Nat) t v, Try.f7.params[j]? = some t → args[j]? = some v → Value.okWide Try.prog W .any base t v := hval0
  have hW' := hW
  obtain ⟨p, q, hA0, hV, rfl, hfz, hnd⟩ := hW
  have hA : DataW.TrodAll enc Try.prog W 0 (fun _ => true) true Try.f7.params.toList args.toList ds p := hA0
  rw [Try.params7] at hA hval
  obtain ⟨v0, d0, rfl, rfl, h0⟩ := trodAll_one hA
  obtain ⟨rfl, rfl⟩ := trodVars_none hV
  obtain ⟨s, rfl, rfl, rfl, w1⟩ := open_string Try.underlying9 (hval 0 9 v0 rfl rfl) h0
  clear hA0 hval0
  refine (cn_any s w1 W).mono fun e W' ⟨he, bel⟩ => ?_
  subst he
  exact ⟨_, rfl, _, _, _, [], _, [], hW', trodAll_mk1 (shut_bool Try.underlying4 _), trodAll_mk1 (shut_string Try.underlying9 w1), rfl, bel.frame _, fun h => by cases h⟩

theorem cn_holds : Rows.ObjectCanonicalSaid :=
  OpenClaim.holds_of_wide 7 Try.f7 rfl rfl rfl rfl rfl rfl rfl ⟨rfl, rfl, rfl, rfl, rfl⟩ rfl rfl rfl rfl rfl (by kernel_rfl) Try.func7 (by kernel_rfl)
    (of_decide_eq_true (by kernel_rfl)) (by unfold Func.isWrapper; rw [if_neg (of_decide_eq_false (by kernel_rfl))]; exact ⟨rfl, rfl⟩)
    (fun os started H enc _ => cn_lifted os started H enc)
#print axioms cn_holds
end Go.Proofs.Ytiaahjoldahlnaa
