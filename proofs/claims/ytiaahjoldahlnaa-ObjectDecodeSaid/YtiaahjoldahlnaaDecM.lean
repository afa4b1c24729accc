/- Plain mathematics: reading the parts of an object's encoding; what was encoded is read again. -/
import Derived.Test.YtiaahjoldahlnaaEncM
import Derived.Test.YtiaahjoldahlnaaOpen
namespace Go.Proofs.Ytiaahjoldahlnaa

/-- What remains to be read, and whether something was wrong. -/
abbrev Rd := BA × Bool
def rdBad : Rd := (⟨#[]⟩, true)
def rdI (r : Rd) : Nat × Rd :=
  if (Cd.getL 12 13 6 0 0 (Cd.nats r.1)).2.2 = 0 then ((Cd.getL 12 13 6 0 0 (Cd.nats r.1)).1, (r.1.extract (Cd.getL 12 13 6 0 0 (Cd.nats r.1)).2.1 r.1.size, r.2)) else (0, rdBad)
def rdT (r : Rd) : BA × Rd :=
  if (Cd.getT r.1).2.2 = 0 then ((Cd.getT r.1).1, (r.1.extract (Cd.getT r.1).2.1 r.1.size, r.2)) else (⟨#[]⟩, rdBad)
def rdY (k : Nat) (r : Rd) : BA × Rd := if k ≤ r.1.size then (r.1.extract 0 k, (r.1.extract k r.1.size, r.2)) else (⟨#[]⟩, rdBad)
/-- A number out of its bytes. -/
def num8 (s : BA) : Nat := (Cd.nats s).foldl (fun n d => n * 256 + d) 0
def rdB (r : Rd) : Nat × Rd := (num8 (rdY 8 r).1, (rdY 8 r).2)
def rdD (r : Rd) : Dig × Rd := (((rdB r).1, (rdB (rdB r).2).1), (rdB (rdB r).2).2)
def rdC (r : Rd) : Nat × Rd := if (rdI r).2.1.size < (rdI r).1 then (0, rdBad) else rdI r
def rdO (r : Rd) : Bool × Rd := if 1 < (rdI r).1 then (false, rdBad) else (decide ((rdI r).1 = 1), (rdI r).2)
def rdX (r : Rd) : Ent × Rd := (⟨(rdT r).1, (rdO (rdT r).2).1, (rdD (rdO (rdT r).2).2).1⟩, (rdD (rdO (rdT r).2).2).2)
def rdXs : Nat → List Ent → Rd → List Ent × Rd
  | 0, L, r => (L, r)
  | n + 1, L, r => rdXs n (L ++ [(rdX r).1]) (rdX r).2
def rdDs : Nat → List Dig → Rd → List Dig × Rd
  | 0, L, r => (L, r)
  | n + 1, L, r => rdDs n (L ++ [(rdD r).1]) (rdD r).2

theorem ext_app (x t : BA) : (x ++ t).extract x.size (x ++ t).size = t := by
  apply Cd.nats_inj
  rw [Cd.nats_extract, Cd.nats_append, List.take_of_length_le (by rw [List.length_append, Cd.nats_length, Cd.nats_length, ByteArray.size_append]; exact Nat.le_refl _), ← Cd.nats_length, List.drop_left]
theorem ext_pre (x t : BA) : (x ++ t).extract 0 x.size = x := by
  apply ByteArray.ext
  simp only [ByteArray.data_extract, ByteArray.data_append]
  show (x.data ++ t.data).extract 0 x.data.size = x.data
  simp
theorem nats_num (m : Nat) : Cd.nats (numS m) = Cd.enc7 m := Cd.nats_strN _ (Cd.enc7_byte m)
theorem rdI_of (m : Nat) (hm : m ≤ 1099511627776) (t : BA) (b : Bool) : rdI (numS m ++ t, b) = (m, (t, b)) := by
  have h : Cd.getL 12 13 6 0 0 (Cd.nats (numS m ++ t)) = (m, (numS m).size, 0) := by
    rw [Cd.nats_append, nats_num, Cd.back_int m hm, numS_size]
  unfold rdI
  simp only [h, if_pos, ext_app]
theorem nats_txt (x : BA) : Cd.nats (txtS x) = Cd.encT x := Cd.nats_strN _ (Cd.encT_byte x)
theorem rdT_of (x : BA) (hx : x.size ≤ 65536) (t : BA) (b : Bool) : rdT (txtS x ++ t, b) = (x, (t, b)) := by
  have h : Cd.getT (txtS x ++ t) = (x, (txtS x).size, 0) := by
    rw [Cd.getT_of (txtS x ++ t) x (Cd.nats t) hx (by rw [Cd.nats_append, nats_txt]), txtS, Cd.strN_size]
  unfold rdT
  simp only [h, if_pos, ext_app]
theorem bt_nat (n k : Nat) : (bt n k).toNat = n / 256 ^ k % 256 := Int.ofNat_inj.1 (bt_val n k)
theorem nats_s8 (n : Nat) : Cd.nats (s8 n) = [n / 256 ^ 7 % 256, n / 256 ^ 6 % 256, n / 256 ^ 5 % 256, n / 256 ^ 4 % 256, n / 256 ^ 3 % 256, n / 256 ^ 2 % 256, n / 256 ^ 1 % 256, n / 256 ^ 0 % 256] := by
  simp only [Cd.nats, s8, by8, List.map_cons, List.map_nil, bt_nat]
theorem num8_s8 (n : Nat) (h : n < 2 ^ 64) : num8 (s8 n) = n := by
  unfold num8
  rw [nats_s8]
  simp only [List.foldl_cons, List.foldl_nil, Nat.reducePow, Nat.div_one]
  omega
theorem rdB_of (n : Nat) (h : n < 2 ^ 64) (t : BA) (b : Bool) : rdB (s8 n ++ t, b) = (n, (t, b)) := by
  have e : rdY 8 (s8 n ++ t, b) = (s8 n, (t, b)) := by
    have e8 := s8_size n
    have e1 := ext_app (s8 n) t
    have e2 := ext_pre (s8 n) t
    rw [e8] at e1 e2
    unfold rdY
    rw [if_pos (by rw [ByteArray.size_append, e8]; omega)]
    simp only [e1, e2]
  unfold rdB
  rw [e]
  simp only [num8_s8 n h]
theorem rdD_of (d : Dig) (h : Dig64 d) (t : BA) (b : Bool) : rdD (digS d ++ t, b) = (d, (t, b)) := by
  have e1 : rdB (digS d ++ t, b) = (d.1, (s8 d.2 ++ t, b)) := by
    rw [digS, dgS, app_assoc]
    exact rdB_of d.1 h.1 _ b
  unfold rdD
  rw [e1]
  simp only [rdB_of d.2 h.2 t b]
theorem rdO_of (q : Bool) (t : BA) (b : Bool) : rdO (numS (b01 q) ++ t, b) = (q, (t, b)) := by
  have e := rdI_of (b01 q) (by have := b01_le q; omega) t b
  unfold rdO
  rw [e]
  cases q <;> simp [b01]
theorem rdC_of (n : Nat) (hn : n ≤ 1099511627776) (t : BA) (b : Bool) (h : n ≤ t.size) : rdC (numS n ++ t, b) = (n, (t, b)) := by
  have e := rdI_of n hn t b
  unfold rdC
  rw [e]
  simp only
  rw [if_neg (by omega)]
theorem rdX_of (x : Ent) (hn : x.name.size ≤ 65536) (hd : Dig64 x.dig) (t : BA) (b : Bool) : rdX (entS x ++ t, b) = (x, (t, b)) := by
  have e : entS x ++ t = txtS x.name ++ (numS (b01 x.dir) ++ (digS x.dig ++ t)) := by
    unfold entS digS
    simp only [app_assoc]
  unfold rdX
  rw [e]
  simp only [rdT_of x.name hn, rdO_of, rdD_of x.dig hd]
theorem rdXs_of (L : List Ent) (hn : ∀ x ∈ L, x.name.size ≤ 65536) (hd : ∀ x ∈ L, Dig64 x.dig) (t : BA) (b : Bool) (A : List Ent) : rdXs L.length A (catS (L.map entS) ++ t, b) = (A ++ L, (t, b)) := by
  induction L generalizing A with
  | nil => simp [rdXs, catS, empty_app]
  | cons x L ih =>
    simp only [List.length_cons, List.map_cons, catS, app_assoc, rdXs]
    rw [rdX_of x (hn x (by simp)) (hd x (by simp))]
    rw [ih (fun y hy => hn y (by simp [hy])) (fun y hy => hd y (by simp [hy]))]
    simp
theorem rdDs_of (L : List Dig) (hd : ∀ x ∈ L, Dig64 x) (t : BA) (b : Bool) (A : List Dig) : rdDs L.length A (catS (L.map digS) ++ t, b) = (A ++ L, (t, b)) := by
  induction L generalizing A with
  | nil => simp [rdDs, catS, empty_app]
  | cons x L ih =>
    simp only [List.length_cons, List.map_cons, catS, app_assoc, rdDs]
    rw [rdD_of x (hd x (by simp))]
    rw [ih (fun y hy => hd y (by simp [hy]))]
    simp

/-- An object with nothing but a kind. -/
def zOb (k : Nat) : Ob := ⟨k, ⟨#[]⟩, [], (0, 0), [], ⟨#[]⟩, 0, ⟨#[]⟩⟩
/-- What is read, behind the kind. -/
def prB (k : Nat) (r : Rd) : Ob × Rd := ({ zOb k with data := (rdT r).1 }, (rdT r).2)
def prE (r : Rd) : Ob × Rd := ({ zOb 2 with ents := (rdXs (rdC r).1 [] (rdC r).2).1 }, (rdXs (rdC r).1 [] (rdC r).2).2)
def prC (r : Rd) : Ob × Rd :=
  let t := rdD r
  let n := rdC t.2
  let p := rdDs n.1 [] n.2
  let a := rdT p.2
  let m := rdI a.2
  let s := rdT m.2
  (⟨3, ⟨#[]⟩, [], t.1, p.1, a.1, m.1, s.1⟩, s.2)
def prK (k : Nat) (r : Rd) : Ob × Rd := if k = 1 ∨ k = 4 then prB k r else if k = 2 then prE r else if k = 3 then prC r else (zOb k, rdBad)
def prs (s : BA) : Ob × Rd := prK (rdI (s, false)).1 (rdI (s, false)).2

theorem len_cat {α : Type} (f : α → BA) (L : List α) (h : ∀ x, 0 < (f x).size) : L.length ≤ (catS (L.map f)).size := by
  induction L with
  | nil => simp
  | cons x L ih => simp only [List.length_cons, List.map_cons, catS, ByteArray.size_append]; have := h x; omega
theorem numS_pos (n : Nat) : 0 < (numS n).size := by rw [numS_size]; exact Cd.enc7_pos n
/-- What was encoded is read again. -/
theorem prs_enc (o : Ob) (hc : chkFields o = 0) (hd : o.data.size ≤ 65536) (hu : o.Digs64) : prs (encS o) = (o, (⟨#[]⟩, false)) := by
  obtain ⟨k, d, E, T, P, au, ti, ms⟩ := o
  rcases chkFields_ok hc with ⟨h1, h2, h3⟩ | ⟨h1, h2, h3, h4⟩ | ⟨h1, h2, h3, h4⟩
  · obtain ⟨rfl, b2, rfl, rfl, rfl⟩ := (bare_iff _).1 h2
    obtain rfl := List.eq_nil_of_length_eq_zero b2
    obtain rfl := List.eq_nil_of_length_eq_zero h3
    obtain ⟨n, rfl⟩ : ∃ n : Nat, k = n := ⟨k.toNat, by rcases h1 with rfl | rfl <;> rfl⟩
    have hn : n = 1 ∨ n = 4 := by simp only at h1; omega
    have e : encS ⟨n, d, [], (0, 0), [], ⟨#[]⟩, 0, ⟨#[]⟩⟩ = numS n ++ (txtS d ++ ⟨#[]⟩) := by
      unfold encS
      rw [if_neg (by simp only; omega), if_neg (by simp only; omega), app_empty]; rfl
    rw [e]
    unfold prs
    rw [rdI_of n (by omega)]
    unfold prK
    rw [if_pos hn]
    unfold prB
    rw [rdT_of d hd]
    rfl
  · simp only at h1 h3 h4
    subst h1
    obtain ⟨rfl, b2, rfl, rfl, rfl⟩ := (bare_iff _).1 h2
    obtain rfl := List.eq_nil_of_length_eq_zero b2
    subst h3
    obtain ⟨l1, l2⟩ := chkEnts_ok h4
    have e : encS ⟨2, ⟨#[]⟩, E, (0, 0), [], ⟨#[]⟩, 0, ⟨#[]⟩⟩ = numS 2 ++ (numS E.length ++ (catS (E.map entS) ++ ⟨#[]⟩)) := by
      unfold encS
      rw [if_pos rfl, app_empty, app_assoc]
    rw [e]
    unfold prs
    rw [rdI_of 2 (by omega)]
    unfold prK
    simp only
    rw [if_neg (by omega), if_pos trivial]
    unfold prE
    have hl := len_cat entS E (fun x => by unfold entS; rw [ByteArray.size_append, dgS_size]; omega)
    rw [rdC_of E.length (by omega) _ _ (by rw [app_empty]; exact hl)]
    simp only
    rw [rdXs_of E (fun x hx => Nat.le_trans (l2 x hx) (by decide)) hu.2.2]
    rfl
  · simp only at h1 h2 h3 h4
    subst h1 h2
    obtain rfl := List.eq_nil_of_length_eq_zero h3
    obtain ⟨_, c2, _, c4, c5, c6, c7⟩ := chkCommit_ok h4
    simp only at c2 c4 c5 c6 c7
    obtain ⟨m, rfl⟩ : ∃ m : Nat, ti = m := ⟨ti.toNat, by omega⟩
    have e : encS ⟨3, ⟨#[]⟩, [], T, P, au, m, ms⟩ = numS 3 ++ (digS T ++ (numS P.length ++ (catS (P.map digS) ++ (txtS au ++ (numS m ++ (txtS ms ++ ⟨#[]⟩)))))) := by
      unfold encS comHead comTail
      rw [if_neg (by simp only; omega), if_pos rfl, app_empty]
      simp only [app_assoc]
      rfl
    rw [e]
    unfold prs
    rw [rdI_of 3 (by omega)]
    unfold prK
    simp only
    rw [if_neg (by omega), if_neg (by omega), if_pos trivial]
    have hl := len_cat digS P (fun x => by rw [digS_size]; omega)
    have hC := rdC_of P.length (by omega) (catS (P.map digS) ++ (txtS au ++ (numS m ++ (txtS ms ++ ⟨#[]⟩)))) false (by rw [ByteArray.size_append]; omega)
    unfold prC
    simp only [rdD_of T hu.1, hC, rdDs_of P hu.2.1, rdT_of au (Nat.le_trans (isName_le c4) (by decide)), rdI_of m (by omega), rdT_of ms (Nat.le_trans c7 (by decide))]
    rfl
/-- Different objects have different encodings. -/
theorem encS_inj {a b : Ob} (ha : chk a = 0) (hb : chk b = 0) (ua : a.Digs64) (ub : b.Digs64) (h : encS a = encS b) : a = b := by
  have ea : ∀ o : Ob, chk o = 0 → chkFields o = 0 ∧ o.data.size ≤ 65536 := by
    intro o ho
    unfold chk at ho
    by_cases h0 : chkFields o = 0
    · refine ⟨h0, ?_⟩
      rw [if_neg (by omega)] at ho
      split at ho
      · cases ho
      · omega
    · rw [if_pos h0] at ho
      exact absurd ho h0
  have h1 := prs_enc a (ea a ha).1 (ea a ha).2 ua
  have h2 := prs_enc b (ea b hb).1 (ea b hb).2 ub
  rw [h, h2] at h1
  exact (Prod.mk.inj h1).1.symm
end Go.Proofs.Ytiaahjoldahlnaa
