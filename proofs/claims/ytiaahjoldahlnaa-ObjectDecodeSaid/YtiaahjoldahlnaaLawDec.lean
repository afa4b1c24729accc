/- For every string ObjectDecode returns true and leaves its argument as it was: Decode returns what the reference returns (of the sizes that the statement names). No condition. -/
import Derived.Test.YtiaahjoldahlnaaAwake
import Derived.Test.YtiaahjoldahlnaaRDec2
import Derived.Test.YtiaahjoldahlnaaRefChk
import Derived.Test.YtiaahjoldahlnaaSame
import Derived.Test.YtiaahjoldahlnaaOpen
namespace Go.Proofs.Ytiaahjoldahlnaa
theorem split_at' (s : BA) (k : Nat) : s = s.extract 0 k ++ s.extract k s.size := by
  apply Cd.nats_inj
  rw [Cd.nats_append, Cd.nats_extract, Cd.nats_extract, List.drop_zero]
  have e : (Cd.nats s).take s.size = Cd.nats s := List.take_of_length_le (by rw [Cd.nats_length]; exact Nat.le_refl _)
  rw [e, List.take_append_drop]
theorem rdI_inv {r r' : Rd} {m : Nat} (h : rdI r = (m, r')) (hb : r'.2 = false) : r.1 = numS m ++ r'.1 ∧ r.2 = false ∧ m ≤ 1099511627776 := by
  obtain ⟨s, b⟩ := r
  unfold rdI at h
  rcases hg : Cd.getL 12 13 6 0 0 (Cd.nats s) with ⟨x, k, er⟩
  rw [hg] at h
  simp only at h
  by_cases he : er = 0
  · subst he
    rw [if_pos rfl] at h
    obtain ⟨rfl, rfl⟩ := Prod.mk.inj h
    obtain ⟨_, _, f3, f4, f5, t, ht⟩ := Cd.getL_fits s x k hg
    refine ⟨?_, hb, f4⟩
    have e1 : s.extract 0 k = numS x := by
      apply Cd.nats_inj
      rw [Cd.nats_extract, List.drop_zero, nats_num, ← ht, ← f5, List.take_left]
    have := split_at' s k
    rw [e1] at this
    exact this
  · rw [if_neg he] at h
    obtain ⟨_, rfl⟩ := Prod.mk.inj h
    cases hb
theorem rdT_inv {r r' : Rd} {x : BA} (h : rdT r = (x, r')) (hb : r'.2 = false) : r.1 = txtS x ++ r'.1 ∧ r.2 = false ∧ x.size ≤ 65536 := by
  obtain ⟨s, b⟩ := r
  unfold rdT at h
  rcases hg : Cd.getT s with ⟨y, k, er⟩
  simp only at h
  rw [hg] at h
  simp only at h
  by_cases he : er = 0
  · subst he
    rw [if_pos rfl] at h
    obtain ⟨rfl, rfl⟩ := Prod.mk.inj h
    obtain ⟨f1, _, f3, f4, _⟩ := Cd.canon_T s y k hg
    refine ⟨?_, hb, f4⟩
    have e1 : s.extract 0 k = txtS y := by
      apply Cd.nats_inj
      rw [f1, nats_txt]
    have := split_at' s k
    rw [e1] at this
    exact this
  · rw [if_neg he] at h
    obtain ⟨_, rfl⟩ := Prod.mk.inj h
    cases hb
theorem s8_num8 (x : BA) (hx : x.size = 8) : s8 (num8 x) = x := by
  apply Cd.nats_inj
  rw [nats_s8]
  have hl : (Cd.nats x).length = 8 := by rw [Cd.nats_length, hx]
  have hb := Cd.nats_lt x
  unfold num8
  generalize Cd.nats x = l at hl hb
  obtain ⟨a, b, c, d, e, f, g, h, rfl⟩ : ∃ a b c d e f g h, l = [a, b, c, d, e, f, g, h] := by
    match l, hl with
    | [a, b, c, d, e, f, g, h], _ => exact ⟨a, b, c, d, e, f, g, h, rfl⟩
  simp only [List.mem_cons, List.not_mem_nil, or_false, forall_eq_or_imp, forall_eq] at hb
  obtain ⟨h1, h2, h3, h4, h5, h6, h7, h8⟩ := hb
  simp only [List.foldl_cons, List.foldl_nil, Nat.reducePow, Nat.div_one, List.cons.injEq, and_true]
  omega
theorem rdB_inv {r r' : Rd} {m : Nat} (h : rdB r = (m, r')) (hb : r'.2 = false) : r.1 = s8 m ++ r'.1 ∧ r.2 = false := by
  obtain ⟨s, b⟩ := r
  unfold rdB rdY at h
  by_cases hk : 8 ≤ s.size
  · rw [if_pos hk] at h
    obtain ⟨rfl, rfl⟩ := Prod.mk.inj h
    refine ⟨?_, hb⟩
    rw [s8_num8 _ (by simp only [ByteArray.size_extract]; omega)]
    exact split_at' s 8
  · rw [if_neg hk] at h
    obtain ⟨_, rfl⟩ := Prod.mk.inj h
    cases hb
theorem rdD_inv {r r' : Rd} {d : Dig} (h : rdD r = (d, r')) (hb : r'.2 = false) : r.1 = digS d ++ r'.1 ∧ r.2 = false := by
  unfold rdD at h
  rcases e1 : rdB r with ⟨a, r1⟩
  rw [e1] at h
  rcases e2 : rdB r1 with ⟨b, r2⟩
  rw [e2] at h
  obtain ⟨rfl, rfl⟩ := Prod.mk.inj h
  obtain ⟨g1, g2⟩ := rdB_inv e2 hb
  obtain ⟨g3, g4⟩ := rdB_inv e1 g2
  refine ⟨?_, g4⟩
  rw [g3, g1, digS, dgS, app_assoc]
theorem rdC_inv {r r' : Rd} {n : Nat} (h : rdC r = (n, r')) (hb : r'.2 = false) : r.1 = numS n ++ r'.1 ∧ r.2 = false := by
  unfold rdC at h
  split at h
  · obtain ⟨_, rfl⟩ := Prod.mk.inj h
    cases hb
  · have := rdI_inv h hb
    exact ⟨this.1, this.2.1⟩
theorem rdO_inv {r r' : Rd} {q : Bool} (h : rdO r = (q, r')) (hb : r'.2 = false) : r.1 = numS (b01 q) ++ r'.1 ∧ r.2 = false := by
  unfold rdO at h
  rcases e : rdI r with ⟨m, r1⟩
  rw [e] at h
  simp only at h
  by_cases hm : 1 < m
  · rw [if_pos hm] at h
    obtain ⟨_, rfl⟩ := Prod.mk.inj h
    cases hb
  · rw [if_neg hm] at h
    obtain ⟨rfl, rfl⟩ := Prod.mk.inj h
    obtain ⟨g1, g2, _⟩ := rdI_inv e hb
    refine ⟨?_, g2⟩
    have : b01 (decide (m = 1)) = m := by
      by_cases h1 : m = 1
      · subst h1; rfl
      · rw [decide_eq_false h1]
        show 0 = m
        omega
    rw [this]
    exact g1
theorem rdX_inv {r r' : Rd} {x : Ent} (h : rdX r = (x, r')) (hb : r'.2 = false) : r.1 = entS x ++ r'.1 ∧ r.2 = false := by
  unfold rdX at h
  rcases e1 : rdT r with ⟨t, r1⟩
  rw [e1] at h
  rcases e2 : rdO r1 with ⟨q, r2⟩
  simp only [e2] at h
  rcases e3 : rdD r2 with ⟨d, r3⟩
  rw [e3] at h
  obtain ⟨rfl, rfl⟩ := Prod.mk.inj h
  obtain ⟨g1, g2⟩ := rdD_inv e3 hb
  obtain ⟨g3, g4⟩ := rdO_inv e2 g2
  obtain ⟨g5, g6, _⟩ := rdT_inv e1 g4
  refine ⟨?_, g6⟩
  rw [g5, g3, g1]
  simp only [entS, digS, app_assoc]
theorem rdXs_inv (n : Nat) (A : List Ent) (r : Rd) (L : List Ent) (r' : Rd) (h : rdXs n A r = (L, r')) (hb : r'.2 = false) : ∃ M, L = A ++ M ∧ M.length = n ∧ r.1 = catS (M.map entS) ++ r'.1 ∧ r.2 = false := by
  induction n generalizing A r with
  | zero =>
    obtain ⟨rfl, rfl⟩ := Prod.mk.inj h
    exact ⟨[], by simp, rfl, by simp [catS, empty_app], hb⟩
  | succ n ih =>
    unfold rdXs at h
    obtain ⟨M, rfl, hM, g1, g2⟩ := ih _ _ h
    rcases e : rdX r with ⟨x, r1⟩
    rw [e] at g1 g2
    obtain ⟨g3, g4⟩ := rdX_inv e g2
    refine ⟨x :: M, by simp, by simp [hM], ?_, g4⟩
    rw [g3]
    simp only at g1
    rw [g1]
    simp only [List.map_cons, catS, app_assoc]
theorem rdDs_inv (n : Nat) (A : List Dig) (r : Rd) (L : List Dig) (r' : Rd) (h : rdDs n A r = (L, r')) (hb : r'.2 = false) : ∃ M, L = A ++ M ∧ M.length = n ∧ r.1 = catS (M.map digS) ++ r'.1 ∧ r.2 = false := by
  induction n generalizing A r with
  | zero =>
    obtain ⟨rfl, rfl⟩ := Prod.mk.inj h
    exact ⟨[], by simp, rfl, by simp [catS, empty_app], hb⟩
  | succ n ih =>
    unfold rdDs at h
    obtain ⟨M, rfl, hM, g1, g2⟩ := ih _ _ h
    rcases e : rdD r with ⟨x, r1⟩
    rw [e] at g1 g2
    obtain ⟨g3, g4⟩ := rdD_inv e g2
    refine ⟨x :: M, by simp, by simp [hM], ?_, g4⟩
    rw [g3]
    simp only at g1
    rw [g1]
    simp only [List.map_cons, catS, app_assoc]

/-- What can be read whole is the encoding. -/
theorem prs_canon (s : BA) (o : Ob) (h : prs s = (o, ((⟨#[]⟩, false) : Rd))) : encS o = s := by
  unfold prs at h
  rcases hI : rdI (s, false) with ⟨k, r1⟩
  rw [hI] at h
  unfold prK at h
  simp only at h
  by_cases k14 : k = 1 ∨ k = 4
  · rw [if_pos k14] at h
    unfold prB at h
    rcases hT : rdT r1 with ⟨x, r2⟩
    rw [hT] at h
    obtain ⟨rfl, rfl⟩ := Prod.mk.inj h
    obtain ⟨g1, g2, _⟩ := rdT_inv hT rfl
    obtain ⟨g3, _, _⟩ := rdI_inv hI g2
    simp only at g1 g3
    unfold encS
    have c2 : ¬ ((zOb k).kind = 2) := by show ¬ ((k : Int) = 2); omega
    have c3 : ¬ ((zOb k).kind = 3) := by show ¬ ((k : Int) = 3); omega
    rw [if_neg c2, if_neg c3, g3, g1, app_empty]
    rfl
  rw [if_neg k14] at h
  by_cases k2 : k = 2
  · rw [if_pos k2] at h
    subst k2
    unfold prE at h
    rcases hC : rdC r1 with ⟨n, r2⟩
    rw [hC] at h
    simp only at h
    rcases hP : rdXs n [] r2 with ⟨L, r3⟩
    rw [hP] at h
    obtain ⟨rfl, rfl⟩ := Prod.mk.inj h
    obtain ⟨M, rfl, hM, g1, g2⟩ := rdXs_inv n [] r2 L _ hP rfl
    obtain ⟨g3, g4⟩ := rdC_inv hC g2
    obtain ⟨g5, _, _⟩ := rdI_inv hI g4
    simp only at g1 g3 g5
    unfold encS
    have c2 : (zOb 2).kind = 2 := rfl
    rw [if_pos c2, g5, g3, g1, app_empty, ← hM]
    simp only [app_assoc]
  rw [if_neg k2] at h
  by_cases k3 : k = 3
  · rw [if_pos k3] at h
    subst k3
    unfold prC at h
    rcases hT : rdD r1 with ⟨d, r2⟩
    rcases hC : rdC r2 with ⟨n, r3⟩
    rcases hP : rdDs n [] r3 with ⟨P, r4⟩
    rcases hA : rdT r4 with ⟨au, r5⟩
    rcases hM : rdI r5 with ⟨m, r6⟩
    rcases hS : rdT r6 with ⟨ms, r7⟩
    simp only [hT, hC, hP, hA, hM, hS] at h
    obtain ⟨rfl, rfl⟩ := Prod.mk.inj h
    obtain ⟨g1, g2, _⟩ := rdT_inv hS rfl
    obtain ⟨g3, g4, _⟩ := rdI_inv hM g2
    obtain ⟨g5, g6, _⟩ := rdT_inv hA g4
    obtain ⟨Q, rfl, hQ, g7, g8⟩ := rdDs_inv n [] r3 P _ hP g6
    obtain ⟨g9, g10⟩ := rdC_inv hC g8
    obtain ⟨g11, g12⟩ := rdD_inv hT g10
    obtain ⟨g13, _, _⟩ := rdI_inv hI g12
    simp only at g1 g3 g5 g7 g9 g11 g13
    unfold encS comHead comTail
    rw [if_neg (by simp only; omega), if_pos rfl, g13, g11, g9, g7, g5, g3, g1, app_empty, ← hQ]
    simp only [app_assoc]
    rfl
  · rw [if_neg k3] at h
    obtain ⟨_, h2⟩ := Prod.mk.inj h
    have := congrArg Prod.snd h2
    cases this
/-- What is read whole, with valid fields, is valid. -/
theorem canon_chk {s : BA} {o : Ob} (h : encS o = s) (hs : s.size ≤ 65536) (hc : chkFields o = 0) (hd : o.data.size ≤ 65536) : chk o = 0 := by
  unfold chk
  rw [if_neg (by omega)]
  rcases encS_size hc hd with ⟨_, e⟩ | ⟨e1, _⟩
  · rw [if_neg]
    rw [← e, h]
    omega
  · rw [if_neg]
    have := szD_le o.data.size hd
    have := Cd.enc6 o.data.size (by omega)
    have : o.data.size = 0 := by rw [e1]; rfl
    omega
open Go.ChangeShapes Go.WideShapes Go.ChangeAt Go.RowKit Go.Great
open Go.ChangeMaps (open_string shut_string)
attribute [local go_sem] eq_arr

/-- What is read fits. -/
theorem prs_fit (s : BA) : (prs s).1.Fit ∧ (prs s).1.Digs64 ∧ (prs s).1.data.size ≤ 65536 := by
  have z0 : Dig64 (0, 0) := ⟨by decide, by decide⟩
  unfold prs
  generalize (rdI (s, false)).1 = k
  generalize (rdI (s, false)).2 = r1
  have m : (65536 : Nat) ≤ maxLen := by decide
  unfold prK
  by_cases k14 : k = 1 ∨ k = 4
  · rw [if_pos k14]
    have hx := rdT_val r1
    exact ⟨⟨Nat.le_trans hx m, Nat.zero_le _, Nat.zero_le _, by simp [prB, zOb]⟩, ⟨z0, by simp [prB, zOb], by simp [prB, zOb]⟩, hx⟩
  rw [if_neg k14]
  by_cases k2 : k = 2
  · rw [if_pos k2]
    have h3 := rdXs_all (rdC r1).1 [] (rdC r1).2 (by simp)
    exact ⟨⟨Nat.zero_le _, Nat.zero_le _, Nat.zero_le _, fun x hx => Nat.le_trans (h3.2 x hx).1 m⟩, ⟨z0, by simp [prE, zOb], fun x hx => (h3.2 x hx).2⟩, Nat.zero_le _⟩
  rw [if_neg k2]
  by_cases k3 : k = 3
  · rw [if_pos k3]
    unfold prC
    obtain ⟨x, r2, hT⟩ : ∃ x q, rdD r1 = (x, q) := ⟨_, _, rfl⟩
    obtain ⟨n, r3, hC⟩ : ∃ x q, rdC r2 = (x, q) := ⟨_, _, rfl⟩
    obtain ⟨P, r4, hP⟩ : ∃ x q, rdDs n [] r3 = (x, q) := ⟨_, _, rfl⟩
    obtain ⟨au, r5, hA⟩ : ∃ x q, rdT r4 = (x, q) := ⟨_, _, rfl⟩
    obtain ⟨m9, r6, hM⟩ : ∃ x q, rdI r5 = (x, q) := ⟨_, _, rfl⟩
    obtain ⟨ms, r7, hS⟩ : ∃ x q, rdT r6 = (x, q) := ⟨_, _, rfl⟩
    have u1 := rdD_dig r1
    have u2 := (rdDs_all n [] r3 (by simp)).2.1
    have u3 := rdT_val r4
    have u4 := rdT_val r6
    rw [hT] at u1
    rw [hP] at u2
    rw [hA] at u3
    rw [hS] at u4
    simp only [hT, hC, hP, hA, hM, hS]
    exact ⟨⟨Nat.zero_le _, Nat.le_trans u3 m, Nat.le_trans u4 m, by simp⟩, ⟨u1, u2, by simp⟩, Nat.zero_le _⟩
  · rw [if_neg k3]
    exact ⟨⟨Nat.zero_le _, Nat.zero_le _, Nat.zero_le _, by simp [zOb]⟩, ⟨z0, by simp [zOb], by simp [zOb]⟩, Nat.zero_le _⟩

theorem nine_of {W : World} {N : Nat} {v0 v1 v2 v3 v4 v5 v6 v7 v8 : Value} (h : W.heap[N]? = some (.cells #[v0, v1, v2, v3, v4, v5, v6, v7, v8] 28 (0, 0))) :
    W.cell? ⟨N, 0, none⟩ = some v0 ∧ W.cell? ⟨N, 1, none⟩ = some v1 ∧ W.cell? ⟨N, 2, none⟩ = some v2 ∧ W.cell? ⟨N, 3, none⟩ = some v3 ∧ W.cell? ⟨N, 4, none⟩ = some v4 ∧ W.cell? ⟨N, 5, none⟩ = some v5 ∧ W.cell? ⟨N, 6, none⟩ = some v6 ∧ W.cell? ⟨N, 7, none⟩ = some v7 ∧ W.cell? ⟨N, 8, none⟩ = some v8 := by
  refine ⟨?_, ?_, ?_, ?_, ?_, ?_, ?_, ?_, ?_⟩ <;> rw [Lib.cell_of_heap h] <;> rfl
/-- An object's nine cells, opened. -/
theorem ob_form {W : World} {v : Value} {o : Ob} (h : IsOb W v o) : ∃ a n c b m e, v = .agg #[.int .i64 o.kind, .string o.data, .slice a n c, .int .u64 o.tree.1, .int .u64 o.tree.2, .slice b m e, .string o.author, .int .i64 o.time, .string o.msg] := by
  obtain ⟨ve, vp, rfl, hE, hP⟩ := h
  obtain ⟨a, c, rfl, _⟩ := hE
  obtain ⟨b, e, rfl, _⟩ := hP
  exact ⟨_, _, _, _, _, _, rfl⟩


theorem rfI_of (m : Nat) (hm : m ≤ 1099511627776) (t : BA) : rfI (numS m ++ t, false) = (m, (t, false)) := by
  have h : Cd.getL 12 13 6 0 0 (Cd.nats (numS m ++ t)) = (m, (numS m).size, 0) := by
    rw [Cd.nats_append, nats_num, Cd.back_int m hm, numS_size]
  unfold rfI
  rw [if_pos ⟨rfl, by rw [h]⟩]
  simp only [h, ext_app]
theorem rfT_of (x : BA) (hx : x.size ≤ 65536) (t : BA) : rfT (txtS x ++ t, false) = (x, (t, false)) := by
  have h : Cd.getT (txtS x ++ t) = (x, (txtS x).size, 0) := by
    rw [Cd.getT_of (txtS x ++ t) x (Cd.nats t) hx (by rw [Cd.nats_append, nats_txt]), txtS, Cd.strN_size]
  unfold rfT
  rw [if_pos ⟨rfl, by rw [h]⟩]
  simp only [h, ext_app]
theorem rfD_of (d : Dig) (h : Dig64 d) (t : BA) : rfD (digS d ++ t, false) = (d, (t, false)) := by
  have e1 : (digS d ++ t).extract 0 8 = s8 d.1 := by
    have := ext_pre (s8 d.1) (s8 d.2 ++ t)
    rw [s8_size] at this
    rw [digS, dgS, app_assoc]
    exact this
  have e2 : (digS d ++ t).extract 8 16 = s8 d.2 := by
    apply Cd.nats_inj
    rw [Cd.nats_extract, digS, dgS, Cd.nats_append, Cd.nats_append, nats_s8, nats_s8]
    rfl
  have e3 := ext_app (digS d) t
  rw [digS_size] at e3
  unfold rfD
  rw [if_pos ⟨rfl, by rw [ByteArray.size_append, digS_size]; omega⟩]
  simp only [e1, e2, e3, num8_s8 d.1 h.1, num8_s8 d.2 h.2]
theorem rfX_of (x : Ent) (hn : x.name.size ≤ 65536) (hd : Dig64 x.dig) (t : BA) : rfX (entS x ++ t, false) = (x, (t, false)) := by
  have e : entS x ++ t = txtS x.name ++ (numS (b01 x.dir) ++ (digS x.dig ++ t)) := by
    unfold entS digS
    simp only [app_assoc]
  have hb : decide (b01 x.dir = 1) = x.dir := by cases x.dir <;> rfl
  unfold rfX
  rw [e]
  simp only [rfT_of x.name hn, rfI_of (b01 x.dir) (by have := b01_le x.dir; omega), rfD_of x.dig hd, hb]
theorem rfXs_of (L : List Ent) (hn : ∀ x ∈ L, x.name.size ≤ 65536) (hd : ∀ x ∈ L, Dig64 x.dig) (t : BA) (A : List Ent) : rfXs L.length A (catS (L.map entS) ++ t, false) = (A ++ L, (t, false)) := by
  induction L generalizing A with
  | nil => simp [rfXs, catS, empty_app]
  | cons x L ih =>
    simp only [List.length_cons, List.map_cons, catS, app_assoc]
    rw [rfXs_step _ _ _ rfl, rfX_of x (hn x (by simp)) (hd x (by simp))]
    rw [ih (fun y hy => hn y (by simp [hy])) (fun y hy => hd y (by simp [hy]))]
    simp
theorem rfDs_of (L : List Dig) (hd : ∀ x ∈ L, Dig64 x) (t : BA) (A : List Dig) : rfDs L.length A (catS (L.map digS) ++ t, false) = (A ++ L, (t, false)) := by
  induction L generalizing A with
  | nil => simp [rfDs, catS, empty_app]
  | cons x L ih =>
    simp only [List.length_cons, List.map_cons, catS, app_assoc]
    rw [rfDs_step _ _ _ rfl, rfD_of x (hd x (by simp))]
    rw [ih (fun y hy => hd y (by simp [hy]))]
    simp
/-- What the reference reads. -/
def rfK (k : Nat) (r : Rd) : Ob × Rd :=
  if k = 2 then ({ zOb 2 with ents := (rfXs (rfI r).1 [] (rfI r).2).1 }, (rfXs (rfI r).1 [] (rfI r).2).2)
  else if k = 3 then
    let t := rfD r
    let n := rfI t.2
    let p := rfDs n.1 [] n.2
    let a := rfT p.2
    let m := rfI a.2
    let s := rfT m.2
    (⟨3, ⟨#[]⟩, [], t.1, p.1, a.1, m.1, s.1⟩, s.2)
  else ({ zOb k with data := (rfT r).1 }, (rfT r).2)
def rfs (s : BA) : Ob × Rd := rfK (rfI (s, false)).1 (rfI (s, false)).2
theorem rfs_enc (o : Ob) (hc : chkFields o = 0) (hd : o.data.size ≤ 65536) (hu : o.Digs64) : rfs (encS o) = (o, (⟨#[]⟩, false)) := by
  obtain ⟨k, d, E, T, P, au, ti, ms⟩ := o
  rcases chkFields_ok hc with ⟨h1, h2, h3⟩ | ⟨h1, h2, h3, h4⟩ | ⟨h1, h2, h3, h4⟩
  · obtain ⟨rfl, b2, rfl, rfl, rfl⟩ := (bare_iff _).1 h2
    obtain rfl := List.eq_nil_of_length_eq_zero b2
    obtain rfl := List.eq_nil_of_length_eq_zero h3
    obtain ⟨n, rfl⟩ : ∃ n : Nat, k = n := ⟨k.toNat, by rcases h1 with rfl | rfl <;> rfl⟩
    have hn : n = 1 ∨ n = 4 := by simp only at h1; omega
    have e : encS ⟨n, d, [], (0, 0), [], ⟨#[]⟩, 0, ⟨#[]⟩⟩ = numS n ++ (txtS d ++ ⟨#[]⟩) := by
      unfold encS
      rw [if_neg (by simp only; omega), if_neg (by simp only; omega), app_empty]; rfl
    rw [e]
    unfold rfs
    rw [rfI_of n (by omega)]
    unfold rfK
    simp only
    rw [if_neg (by omega), if_neg (by omega), rfT_of d hd]
    rfl
  · simp only at h1 h3 h4
    subst h1
    obtain ⟨rfl, b2, rfl, rfl, rfl⟩ := (bare_iff _).1 h2
    obtain rfl := List.eq_nil_of_length_eq_zero b2
    subst h3
    obtain ⟨l1, l2⟩ := chkEnts_ok h4
    have e : encS ⟨2, ⟨#[]⟩, E, (0, 0), [], ⟨#[]⟩, 0, ⟨#[]⟩⟩ = numS 2 ++ (numS E.length ++ (catS (E.map entS) ++ ⟨#[]⟩)) := by
      unfold encS
      rw [if_pos rfl, app_empty, app_assoc]
    rw [e]
    unfold rfs
    rw [rfI_of 2 (by omega)]
    unfold rfK
    simp only
    rw [if_pos trivial, rfI_of E.length (by omega)]
    simp only
    rw [rfXs_of E (fun x hx => Nat.le_trans (l2 x hx) (by decide)) hu.2.2]
    rfl
  · simp only at h1 h2 h3 h4
    subst h1 h2
    obtain rfl := List.eq_nil_of_length_eq_zero h3
    obtain ⟨_, c2, _, c4, c5, c6, c7⟩ := chkCommit_ok h4
    simp only at c2 c4 c5 c6 c7
    obtain ⟨m, rfl⟩ : ∃ m : Nat, ti = m := ⟨ti.toNat, by omega⟩
    have e : encS ⟨3, ⟨#[]⟩, [], T, P, au, m, ms⟩ = numS 3 ++ (digS T ++ (numS P.length ++ (catS (P.map digS) ++ (txtS au ++ (numS m ++ (txtS ms ++ ⟨#[]⟩)))))) := by
      unfold encS comHead comTail
      rw [if_neg (by simp only; omega), if_pos rfl, app_empty]
      simp only [app_assoc]
      rfl
    rw [e]
    unfold rfs
    rw [rfI_of 3 (by omega)]
    unfold rfK
    simp only
    rw [if_neg (by omega), if_pos trivial]
    simp only [rfD_of T hu.1, rfI_of P.length (by omega), rfDs_of P hu.2.1, rfT_of au (Nat.le_trans (isName_le c4) (by decide)), rfI_of m (by omega), rfT_of ms (Nat.le_trans c7 (by decide))]
    rfl
theorem rfT_val (r : Rd) : (rfT r).1.size ≤ 65536 := by
  unfold rfT
  split
  · rename_i h
    exact (Cd.getT_fits r.1 h.2).2.2.1
  · exact Nat.zero_le _
theorem rfI_val (r : Rd) : (rfI r).1 ≤ 1099511627776 := by
  unfold rfI
  split
  · rename_i h
    rcases hg : Cd.getL 12 13 6 0 0 (Cd.nats r.1) with ⟨x, k, er⟩
    rw [hg] at h
    obtain ⟨_, rfl⟩ := h
    exact (Cd.getL_fits r.1 x k hg).2.2.2.1
  · exact Nat.zero_le _
theorem rfD_dig (r : Rd) : Dig64 (rfD r).1 := by
  unfold rfD
  split
  · exact ⟨num8_lt _ (by simp only [ByteArray.size_extract]; omega), num8_lt _ (by simp only [ByteArray.size_extract]; omega)⟩
  · exact ⟨by show 0 < 2 ^ 64; decide, by show 0 < 2 ^ 64; decide⟩
theorem rfXs_all (n : Nat) (A : List Ent) (r : Rd) (hA : ∀ x ∈ A, x.name.size ≤ 65536 ∧ Dig64 x.dig) (hl : A.length ≤ 65537) (hr : r.2 = false → A.length + r.1.size ≤ 65536) : (rfXs n A r).1.length ≤ 65537 ∧ ∀ x ∈ (rfXs n A r).1, x.name.size ≤ 65536 ∧ Dig64 x.dig := by
  induction n generalizing A r with
  | zero => exact ⟨hl, hA⟩
  | succ n ih =>
    cases hb : r.2 with
    | true => rw [rfXs_stop _ _ _ (.inr hb)]; exact ⟨hl, hA⟩
    | false =>
      rw [rfXs_step _ _ _ hb]
      have h1 := hr hb
      refine ih _ _ (fun x hx => ?_) (by rw [List.length_append, List.length_singleton]; omega) (fun e => ?_)
      · rcases List.mem_append.1 hx with hx | hx
        · exact hA x hx
        · obtain rfl := List.mem_singleton.1 hx
          exact ⟨rfT_val _, rfD_dig _⟩
      · rw [List.length_append, List.length_singleton]
        have := (rfD_le _ _ (rfI_le _ _ (rfT_le r _ (Nat.le_refl _)))).2 e
        show A.length + 1 + (rfD (rfI (rfT r).2).2).2.1.size ≤ 65536
        omega
theorem rfDs_all (n : Nat) (A : List Dig) (r : Rd) (hA : ∀ x ∈ A, Dig64 x) (hl : A.length ≤ 65537) (hs : r.1.size ≤ 65536) (hr : r.2 = false → A.length + r.1.size ≤ 65536) : (rfDs n A r).1.length ≤ 65537 ∧ (∀ x ∈ (rfDs n A r).1, Dig64 x) ∧ (rfDs n A r).2.1.size ≤ 65536 := by
  induction n generalizing A r with
  | zero => exact ⟨hl, hA, hs⟩
  | succ n ih =>
    cases hb : r.2 with
    | true => rw [rfDs_stop _ _ _ (.inr hb)]; exact ⟨hl, hA, hs⟩
    | false =>
      rw [rfDs_step _ _ _ hb]
      have h1 := hr hb
      have h2 := rfD_le r _ (Nat.le_refl _)
      refine ih _ _ (fun x hx => ?_) (by rw [List.length_append, List.length_singleton]; omega) (by omega) (fun e => ?_)
      · rcases List.mem_append.1 hx with hx | hx
        · exact hA x hx
        · obtain rfl := List.mem_singleton.1 hx
          exact rfD_dig _
      · rw [List.length_append, List.length_singleton]
        have := h2.2 e
        omega

/-- What the reference's Decode returns. -/
def refO (s : BA) : Ob × Int := if (rfs s).2.2 = false ∧ chk (rfs s).1 = 0 ∧ encS (rfs s).1 = s then ((rfs s).1, 0) else (zOb 0, 13)
theorem refO_no {s : BA} {o : Ob} {r : Rd} (h : rfs s = (o, r)) (hn : ¬ (r.2 = false ∧ chk o = 0 ∧ encS o = s)) : refO s = (zOb 0, 13) := by
  unfold refO
  rw [h]
  simp only
  rw [if_neg hn]
theorem refO_yes {s : BA} {o : Ob} {r : Rd} (h : rfs s = (o, r)) (hn : r.2 = false ∧ chk o = 0 ∧ encS o = s) : refO s = (o, 0) := by
  unfold refO
  rw [h]
  simp only
  rw [if_pos hn]

theorem refDecode_any (s : BA) (hs : s.size ≤ 65536) (w : World) : (Calls Try.prog 22 #[.string s] w fun e w' => ∃ v, e = .returned (.tuple #[v, .int .i64 (refO s).2]) ∧ IsOb w' v (refO s).1 ∧ Below w.heap.size w w') ∧ (rfs s).1.Digs64 := by
  have m : (65536 : Nat) ≤ maxLen := by decide
  have z0 : Dig64 (0, 0) := ⟨by decide, by decide⟩
  rcases hI : rfI (s, false) with ⟨k, r1⟩
  have h1 := rfI_le (s, false) 65536 hs
  rw [hI] at h1
  simp only at h1
  by_cases k2 : k = 2
  · subst k2
    rcases hC : rfI r1 with ⟨n, r2⟩
    have h2 := rfI_le r1 65536 h1
    have hn := rfI_val r1
    rw [hC] at h2 hn
    simp only at h2 hn
    rcases hP : rfXs n [] r2 with ⟨L, rl⟩
    have hL := rfXs_all n [] r2 (by simp) (Nat.zero_le _) (fun _ => by rw [List.length_nil, Nat.zero_add]; exact h2)
    rw [hP] at hL
    simp only at hL
    have e : rfs s = (⟨2, ⟨#[]⟩, L, (0, 0), [], ⟨#[]⟩, 0, ⟨#[]⟩⟩, rl) := by
      unfold rfs
      rw [hI]
      unfold rfK
      simp only
      rw [if_pos trivial, hC]
      simp only [hP]
      rfl
    have hu : Ob.Digs64 ⟨2, ⟨#[]⟩, L, (0, 0), [], ⟨#[]⟩, 0, ⟨#[]⟩⟩ := ⟨z0, by simp, fun x hx => (hL.2 x hx).2⟩
    refine ⟨?_, by rw [e]; exact hu⟩
    have F : ∀ (tt : BA) (c : Int), encD ⟨2, ⟨#[]⟩, L, (0, 0), [], ⟨#[]⟩, 0, ⟨#[]⟩⟩ = tt → chk ⟨2, ⟨#[]⟩, L, (0, 0), [], ⟨#[]⟩, 0, ⟨#[]⟩⟩ = c → ∀ W (ve : Value), W.ownsRow (w.heap.size + 1 + 1 + 1) 45 4 ve L.length (rowX L) → Calls Try.prog 18 #[.agg #[.int .i64 2, .string ⟨#[]⟩, ve, .int .u64 0, .int .u64 0, .slice none 0 0, .string ⟨#[]⟩, .int .i64 0, .string ⟨#[]⟩]] W fun e w' => e = .returned (.tuple #[.string tt, .int .i64 c]) ∧ Below W.heap.size W w' :=
      fun tt c h8 h9 W ve ho => refEncode_any ⟨2, ⟨#[]⟩, L, (0, 0), [], ⟨#[]⟩, 0, ⟨#[]⟩⟩ _ W ⟨_, _, rfl, own_ents ho rfl (Nat.le_trans hL.1 (by decide)), isDigs_nil W⟩ ⟨Nat.zero_le _, Nat.zero_le _, Nat.zero_le _, fun x hx => Nat.le_trans (hL.2 x hx).1 m⟩ hu tt h8 c h9
    cases hb : rl.2 with
    | true =>
      rw [refO_no e (fun h => by rw [hb] at h; cases h.1)]
      exact rdec2_bad s (Nat.le_trans hs m) w r1 hI h1 n r2 hC hn h2 L rl hP (Lib.hid hb) _ _ (Lib.hid (F _ _ rfl rfl))
    | false =>
      by_cases hc : chk ⟨2, ⟨#[]⟩, L, (0, 0), [], ⟨#[]⟩, 0, ⟨#[]⟩⟩ = 0
      · have hd : encD ⟨2, ⟨#[]⟩, L, (0, 0), [], ⟨#[]⟩, 0, ⟨#[]⟩⟩ = encS ⟨2, ⟨#[]⟩, L, (0, 0), [], ⟨#[]⟩, 0, ⟨#[]⟩⟩ := by rw [encD, if_pos hc]
        by_cases he : encS ⟨2, ⟨#[]⟩, L, (0, 0), [], ⟨#[]⟩, 0, ⟨#[]⟩⟩ = s
        · rw [refO_yes e ⟨hb, hc, he⟩]
          exact rdec2_ok s (Nat.le_trans hs m) w r1 hI h1 n r2 hC hn h2 L rl hP (Lib.hid hb) (Lib.hid (F _ _ (hd.trans he) hc))
        · rw [refO_no e (fun h => he h.2.2)]
          exact rdec2_dif s (Nat.le_trans hs m) w r1 hI h1 n r2 hC hn h2 L rl hP (Lib.hid hb) _ he (Lib.hid (F _ _ hd hc))
      · rw [refO_no e (fun h => hc h.2.1)]
        exact rdec2_chk s (Nat.le_trans hs m) w r1 hI h1 n r2 hC hn h2 L rl hP (Lib.hid hb) _ _ hc (Lib.hid (F _ _ rfl rfl))
  by_cases k3 : k = 3
  · subst k3
    obtain ⟨x, y, r2, hT⟩ : ∃ x y q, rfD r1 = ((x, y), q) := ⟨_, _, _, rfl⟩
    have h2 := (rfD_le r1 65536 h1).1
    have ux := rfD_dig r1
    rw [hT] at h2 ux
    simp only at h2 ux
    rcases hC : rfI r2 with ⟨n, r3⟩
    have h3 := rfI_le r2 65536 h2
    have hn := rfI_val r2
    rw [hC] at h3 hn
    simp only at h3 hn
    rcases hP : rfDs n [] r3 with ⟨P, r4⟩
    have hL := rfDs_all n [] r3 (by simp) (Nat.zero_le _) h3 (fun _ => by rw [List.length_nil, Nat.zero_add]; exact h3)
    rw [hP] at hL
    simp only at hL
    rcases hA : rfT r4 with ⟨au, r5⟩
    have h5 := rfT_le r4 65536 hL.2.2
    have v5 := rfT_val r4
    rw [hA] at h5 v5
    simp only at h5 v5
    rcases hM : rfI r5 with ⟨mt, r6⟩
    have h6 := rfI_le r5 65536 h5
    rw [hM] at h6
    simp only at h6
    rcases hS : rfT r6 with ⟨ms, rl⟩
    have v7 := rfT_val r6
    rw [hS] at v7
    simp only at v7
    have e : rfs s = (⟨3, ⟨#[]⟩, [], (x, y), P, au, mt, ms⟩, rl) := by
      unfold rfs
      rw [hI]
      unfold rfK
      simp only
      rw [if_neg k2, if_pos trivial]
      simp only [hT, hC, hP, hA, hM, hS]
    have hu : Ob.Digs64 ⟨3, ⟨#[]⟩, [], (x, y), P, au, mt, ms⟩ := ⟨ux, hL.2.1, by simp⟩
    refine ⟨?_, by rw [e]; exact hu⟩
    have F : ∀ (tt : BA) (c : Int), encD ⟨3, ⟨#[]⟩, [], (x, y), P, au, mt, ms⟩ = tt → chk ⟨3, ⟨#[]⟩, [], (x, y), P, au, mt, ms⟩ = c → ∀ W (vp : Value), W.ownsRow (w.heap.size + 1 + 1 + 1) 25 2 vp P.length (rowD P) → Calls Try.prog 18 #[.agg #[.int .i64 3, .string ⟨#[]⟩, .slice none 0 0, .int .u64 x, .int .u64 y, vp, .string au, .int .i64 mt, .string ms]] W fun e w' => e = .returned (.tuple #[.string tt, .int .i64 c]) ∧ Below W.heap.size W w' :=
      fun tt c h8 h9 W vp ho => refEncode_any ⟨3, ⟨#[]⟩, [], (x, y), P, au, mt, ms⟩ _ W ⟨_, _, rfl, isEnts_nil W, own_digs ho rfl (Nat.le_trans hL.1 (by decide))⟩ ⟨Nat.zero_le _, Nat.le_trans v5 m, Nat.le_trans v7 m, by simp⟩ hu tt h8 c h9
    cases hb : rl.2 with
    | true =>
      rw [refO_no e (fun h => by rw [hb] at h; cases h.1)]
      exact rdec3_bad s (Nat.le_trans hs m) w r1 hI h1 x y r2 hT h2 n r3 hC hn h3 P r4 hP hL.2.2 au r5 hA h5 mt r6 hM h6 ms rl hS (Lib.hid hb) _ _ (Lib.hid (F _ _ rfl rfl))
    | false =>
      by_cases hc : chk ⟨3, ⟨#[]⟩, [], (x, y), P, au, mt, ms⟩ = 0
      · have hd : encD ⟨3, ⟨#[]⟩, [], (x, y), P, au, mt, ms⟩ = encS ⟨3, ⟨#[]⟩, [], (x, y), P, au, mt, ms⟩ := by rw [encD, if_pos hc]
        by_cases he : encS ⟨3, ⟨#[]⟩, [], (x, y), P, au, mt, ms⟩ = s
        · rw [refO_yes e ⟨hb, hc, he⟩]
          exact rdec3_ok s (Nat.le_trans hs m) w r1 hI h1 x y r2 hT h2 n r3 hC hn h3 P r4 hP hL.2.2 au r5 hA h5 mt r6 hM h6 ms rl hS (Lib.hid hb) (Lib.hid (F _ _ (hd.trans he) hc))
        · rw [refO_no e (fun h => he h.2.2)]
          exact rdec3_dif s (Nat.le_trans hs m) w r1 hI h1 x y r2 hT h2 n r3 hC hn h3 P r4 hP hL.2.2 au r5 hA h5 mt r6 hM h6 ms rl hS (Lib.hid hb) _ he (Lib.hid (F _ _ hd hc))
      · rw [refO_no e (fun h => hc h.2.1)]
        exact rdec3_chk s (Nat.le_trans hs m) w r1 hI h1 x y r2 hT h2 n r3 hC hn h3 P r4 hP hL.2.2 au r5 hA h5 mt r6 hM h6 ms rl hS (Lib.hid hb) _ _ hc (Lib.hid (F _ _ rfl rfl))
  · rcases hT : rfT r1 with ⟨x, rl⟩
    have v := rfT_val r1
    rw [hT] at v
    simp only at v
    have e : rfs s = (⟨k, x, [], (0, 0), [], ⟨#[]⟩, 0, ⟨#[]⟩⟩, rl) := by
      unfold rfs
      rw [hI]
      unfold rfK
      simp only
      rw [if_neg k2, if_neg k3, hT]
      rfl
    have hu : Ob.Digs64 ⟨k, x, [], (0, 0), [], ⟨#[]⟩, 0, ⟨#[]⟩⟩ := ⟨z0, by simp, by simp⟩
    refine ⟨?_, by rw [e]; exact hu⟩
    have F : ∀ (tt : BA) (c : Int), encD ⟨k, x, [], (0, 0), [], ⟨#[]⟩, 0, ⟨#[]⟩⟩ = tt → chk ⟨k, x, [], (0, 0), [], ⟨#[]⟩, 0, ⟨#[]⟩⟩ = c → ∀ W, Calls Try.prog 18 #[.agg #[.int .i64 k, .string x, .slice none 0 0, .int .u64 0, .int .u64 0, .slice none 0 0, .string ⟨#[]⟩, .int .i64 0, .string ⟨#[]⟩]] W fun e w' => e = .returned (.tuple #[.string tt, .int .i64 c]) ∧ Below W.heap.size W w' :=
      fun tt c h8 h9 W => refEncode_any ⟨k, x, [], (0, 0), [], ⟨#[]⟩, 0, ⟨#[]⟩⟩ _ W ⟨_, _, rfl, isEnts_nil W, isDigs_nil W⟩ ⟨Nat.le_trans v m, Nat.zero_le _, Nat.zero_le _, by simp⟩ hu tt h8 c h9
    cases hb : rl.2 with
    | true =>
      rw [refO_no e (fun h => by rw [hb] at h; cases h.1)]
      exact rdec0_bad s (Nat.le_trans hs m) w k k2 k3 r1 hI (Nat.le_trans h1 m) x rl hT (Lib.hid hb) _ _ (Lib.hid (F _ _ rfl rfl))
    | false =>
      by_cases hc : chk ⟨k, x, [], (0, 0), [], ⟨#[]⟩, 0, ⟨#[]⟩⟩ = 0
      · have hd : encD ⟨k, x, [], (0, 0), [], ⟨#[]⟩, 0, ⟨#[]⟩⟩ = encS ⟨k, x, [], (0, 0), [], ⟨#[]⟩, 0, ⟨#[]⟩⟩ := by rw [encD, if_pos hc]
        by_cases he : encS ⟨k, x, [], (0, 0), [], ⟨#[]⟩, 0, ⟨#[]⟩⟩ = s
        · rw [refO_yes e ⟨hb, hc, he⟩]
          exact rdec0_ok s (Nat.le_trans hs m) w k k2 k3 r1 hI (Nat.le_trans h1 m) x rl hT (Lib.hid hb) (Lib.hid (F _ _ (hd.trans he) hc))
        · rw [refO_no e (fun h => he h.2.2)]
          exact rdec0_dif s (Nat.le_trans hs m) w k k2 k3 r1 hI (Nat.le_trans h1 m) x rl hT (Lib.hid hb) _ he (Lib.hid (F _ _ hd hc))
      · rw [refO_no e (fun h => hc h.2.1)]
        exact rdec0_chk s (Nat.le_trans hs m) w k k2 k3 r1 hI (Nat.le_trans h1 m) x rl hT (Lib.hid hb) _ _ hc (Lib.hid (F _ _ rfl rfl))
/-- The two decoders agree. -/
theorem refO_eq (s : BA) (hs : s.size ≤ 65536) (hu : (rfs s).1.Digs64) : refO s = decO s := by
  by_cases hg : s.size ≤ 65536 ∧ (prs s).2 = ((⟨#[]⟩, false) : Rd) ∧ chkFields (prs s).1 = 0
  · have e : decO s = ((prs s).1, 0) := by unfold decO; rw [if_pos hg]
    obtain ⟨_, f2, f3⟩ := prs_fit s
    have hc := prs_canon s (prs s).1 (Prod.ext rfl hg.2.1)
    have hk := canon_chk hc hs hg.2.2 f3
    have h1 := rfs_enc (prs s).1 hg.2.2 f3 f2
    rw [hc] at h1
    rw [e]
    exact refO_yes h1 ⟨rfl, hk, hc⟩
  · have e : decO s = (zOb 0, 13) := by unfold decO; rw [if_neg hg]
    rw [e]
    by_cases hr : (rfs s).2.2 = false ∧ chk (rfs s).1 = 0 ∧ encS (rfs s).1 = s
    · obtain ⟨_, hk, hc⟩ := hr
      obtain ⟨h0, hd⟩ := chk_fields hk
      have h1 := prs_enc (rfs s).1 h0 hd hu
      rw [hc] at h1
      exact absurd ⟨hs, by rw [h1], by rw [h1]; exact h0⟩ hg
    · unfold refO
      rw [if_neg hr]

set_option maxHeartbeats 1000000 in
theorem dl_long (s : BA) (h : 600 < s.size) (_hm : s.size ≤ maxLen) (w : World) : Calls Try.prog 5 #[.string s] w fun e w' => e = .returned (.bool true) ∧ Below w.heap.size w w' := by
  have hp : (600 : Int) < s.size := by omega
  go_enter Try.func5, Try.ntmps5
  go_wp2_with fail
  ((with_reducible refine (awake_any _).mono ?_); rintro e w1 ⟨rfl, hb1⟩)
  go_wp2
  go_ret
  exact ⟨rfl, hb1⟩

set_option maxRecDepth 100000 in
set_option maxHeartbeats 8000000 in
theorem dl_core (s : BA) (h : s.size ≤ 600) (w : World) (o : Ob) (r : Int)
    (D : ∀ W, Calls Try.prog 21 #[.string s] W fun e w' => ∃ v, e = .returned (.tuple #[v, .int .i64 r]) ∧ IsOb w' v o ∧ Below W.heap.size W w')
    (R : ∀ W, Calls Try.prog 22 #[.string s] W fun e w' => ∃ v, e = .returned (.tuple #[v, .int .i64 r]) ∧ IsOb w' v o ∧ Below W.heap.size W w')
    (S : ∀ W v u, IsOb W v o → IsOb W u o → Calls Try.prog 23 #[v, u] W fun e w' => e = .returned (.bool true) ∧ Below W.heap.size W w') :
    Calls Try.prog 5 #[.string s] w fun e w' => e = .returned (.bool true) ∧ Below w.heap.size w w' := by
  have HD := Lib.hid D
  have HR := Lib.hid R
  have HS := Lib.hid S
  have hp : ¬ (600 : Int) < s.size := by omega
  have hrr : (r == r) = true := by simp
  clear D R S
  go_enter Try.func5, Try.ntmps5
  go_wp2_with fail
  ((with_reducible refine (HD.out _).mono ?_); rintro e w3 ⟨v, rfl, hv, hb3⟩)
  have HV := Lib.hid hv
  obtain ⟨a9, n9, c9, b9, m9, e9, rfl⟩ := ob_form hv
  have FO : Hid (∀ W u, IsOb W u o → ∃ a n c b m e, u = .agg #[.int .i64 o.kind, .string o.data, .slice a n c, .int .u64 o.tree.1, .int .u64 o.tree.2, .slice b m e, .string o.author, .int .i64 o.time, .string o.msg]) := Lib.hid fun W u hu => ob_form hu
  generalize o.tree.1 = o3 at HV HR HS FO ⊢
  generalize o.tree.2 = o4 at HV HR HS FO ⊢
  generalize o.kind = o0 at HV HR HS FO ⊢
  generalize o.data = o1 at HV HR HS FO ⊢
  generalize o.author = o6 at HV HR HS FO ⊢
  generalize o.time = o7 at HV HR HS FO ⊢
  generalize o.msg = o8 at HV HR HS FO ⊢
  have hx := Lib.hid (HV.out.below ((Below.refl _ _).alloc (Nat.le_refl _) (oc' o0 o1 (.slice a9 n9 c9) o3 o4 (.slice b9 m9 e9) o6 o7 o8)) (Nat.le_refl _))
  have xx := Lib.hid (World.alloc_heap_new w3 (oc' o0 o1 (.slice a9 n9 c9) o3 o4 (.slice b9 m9 e9) o6 o7 o8))
  have h4 := hb3.alloc hb3.size (oc' o0 o1 (.slice a9 n9 c9) o3 o4 (.slice b9 m9 e9) o6 o7 o8)
  clear hb3 hv HV
  go_wp2_with fail
  ((with_reducible refine (HR.out _).mono ?_); rintro e w5 ⟨u, rfl, hu, hb5⟩)
  have h5 := h4.trans (hb5.mono h4.size)
  have hx5 := hx.out.below hb5 (Nat.le_refl _)
  have xx5 := (hb5.block _ (Array.getElem?_eq_some_iff.1 xx.out).1).trans xx.out
  obtain ⟨a8, n8, c8, b8, m8, e8, rfl⟩ := FO.out _ _ hu
  have hx6 := Lib.hid (hx5.below ((Below.refl _ _).alloc (Nat.le_refl _) (oc' o0 o1 (.slice a8 n8 c8) o3 o4 (.slice b8 m8 e8) o6 o7 o8)) (Nat.le_refl _))
  have hu6 := Lib.hid (hu.below ((Below.refl _ _).alloc (Nat.le_refl _) (oc' o0 o1 (.slice a8 n8 c8) o3 o4 (.slice b8 m8 e8) o6 o7 o8)) (Nat.le_refl _))
  have l5 : w3.heap.size < w5.heap.size := (Array.getElem?_eq_some_iff.1 xx5).1
  have h6 := h5.alloc h5.size (oc' o0 o1 (.slice a8 n8 c8) o3 o4 (.slice b8 m8 e8) o6 o7 o8)
  obtain ⟨z0, z1, z2, z3, z4, z5, z6, z7, z8⟩ := nine_of xx5
  clear h4 hb5 h5 hx5 xx5 hx xx hu
  go_wp2_with fail
  ((with_reducible refine (HS.out _ _ _ hx6.out hu6.out).mono ?_); rintro e w6 ⟨rfl, hb6⟩)
  have h7 := h6.trans (hb6.mono h6.size)
  clear h6 hb6 hx6 hu6 z0 z1 z2 z3 z4 z5 z6 z7 z8
  go_wp2_with fail
  ((with_reducible refine (awake_any _).mono ?_); rintro e w7 ⟨rfl, hb7⟩)
  have hb := h7.trans (hb7.mono h7.size)
  go_wp2
  go_ret
  exact ⟨rfl, hb⟩

theorem dl_any (s : BA) (hm : s.size ≤ maxLen) (w : World) : Calls Try.prog 5 #[.string s] w fun e w' => e = .returned (.bool true) ∧ Below w.heap.size w w' := by
  by_cases hs : s.size ≤ 600
  · have h6 : s.size ≤ 65536 := by omega
    have he := refO_eq s h6 (refDecode_any s h6 w).2
    refine dl_core s hs w (decO s).1 (decO s).2 (fun W => decode_any s hm W) (fun W => ?_) (fun W v u h1 h2 => same_any _ _ v u W h1 h2 true ⟨fun _ => rfl, fun _ => rfl⟩)
    have := (refDecode_any s h6 W).1
    rw [he] at this
    exact this
  · exact dl_long s (by omega) hm w

set_option maxRecDepth 100000 in
theorem dl_lifted (os : Os) (started : os.Started) (H : Type) (enc : TypeId × Value → H) :
    ReturnsInHanded {} Try.checked os 5 .any (Rows.objectDecodeSpec.pre6 enc Try.prog Try.f5 Rows.objectDecodeRow.domain false) (Rows.objectDecodeSpec.post enc Try.prog Try.f5 false true false false) := by
  refine returnsInHanded_of_change (C := Try.checked) ownK started (by kernel_rfl) Try.func5
    (ChangeSpec.witness6 (enc := enc) (C := Try.checked) false ⟨#[], #[.string ⟨#[]⟩], []⟩ 8 (by kernel_rfl) (by kernel_rfl) (by kernel_rfl) (by kernel_rfl)) ?_
  intro W base args ds gs before hval0 hW hcnd _
  have hval : ∀ (j : Nat) t v, Try.f5.params[j]? = some t → args[j]? = some v → Value.okWide Try.prog W .any base t v := hval0
  have hW' := hW
  obtain ⟨p, q, hA0, hV, rfl, hfz, hnd⟩ := hW
  have hA : DataW.TrodAll enc Try.prog W 0 (fun _ => true) true Try.f5.params.toList args.toList ds p := hA0
  rw [Try.params5] at hA hval
  obtain ⟨v0, d0, rfl, rfl, h0⟩ := trodAll_one hA
  obtain ⟨rfl, rfl⟩ := trodVars_none hV
  obtain ⟨s, rfl, rfl, rfl, w1⟩ := open_string Try.underlying9 (hval 0 9 v0 rfl rfl) h0
  clear hA0 hval0
  refine (dl_any s w1 W).mono fun e W' ⟨he, bel⟩ => ?_
  subst he
  exact ⟨_, rfl, _, _, _, [], _, [], hW', trodAll_mk1 (shut_bool Try.underlying4 _), trodAll_mk1 (shut_string Try.underlying9 w1), rfl, bel.frame _, fun h => by cases h⟩

theorem dl_holds : Rows.ObjectDecodeSaid :=
  OpenClaim.holds_of_wide 5 Try.f5 rfl rfl rfl rfl rfl rfl rfl ⟨rfl, rfl, rfl, rfl, rfl⟩ rfl rfl rfl rfl rfl (by kernel_rfl) Try.func5 (by kernel_rfl)
    (of_decide_eq_true (by kernel_rfl)) (by unfold Func.isWrapper; rw [if_neg (of_decide_eq_false (by kernel_rfl))]; exact ⟨rfl, rfl⟩)
    (fun os started H enc _ => dl_lifted os started H enc)
#print axioms dl_holds
end Go.Proofs.Ytiaahjoldahlnaa
