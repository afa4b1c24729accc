/- Plain mathematics of the risks of a test: the chances of all ends make 1 together, and a decision is made at a ratio of the likelihoods. -/
import Derived.Test.YtldpdoakfacdbaaEndsMath
namespace Go.Proofs.Ytldpdoakfacdbaa

theorem sumTo_mul (f : Nat → Nat) (c m : Nat) : sumTo (fun i => f i * c) m = sumTo f m * c := by
  induction m with
  | zero => simp [sumTo]
  | succ m ih => simp only [sumTo, ih, Nat.add_mul]

/-- The chance of a sequence, times the power of the denominator. -/
def ch (a b p f : Nat) : Nat := a ^ p * b ^ f

section
variable (dec : Nat → Nat → Int) (n a b : Nat)
theorem sumTo_one_at (g : Nat → Nat) (q x : Nat) : ∀ m, sumTo (fun i => (if i = q then x else 0) * g i) m = if q < m then x * g q else 0
  | 0 => by simp [sumTo]
  | m + 1 => by
    simp only [sumTo, sumTo_one_at g q x m]
    by_cases h : q < m
    · rw [if_pos h, if_neg (by omega), if_pos (by omega)]; omega
    · by_cases h2 : m = q
      · subst h2; simp
      · rw [if_neg h, if_neg h2, if_neg (by omega)]; simp
theorem nextE_sumP (k : Nat) (row : Nat → Nat) (m : Nat) : ∀ p, p < m → p ≤ k + 1 →
    sumTo (fun j => nextE dec n k row p j * ch a b j (k + 1 - j)) m = sumTo (fun q => keepE dec n k row q * ch a b q (k - q)) p * (a + b)
  | 0, _, _ => by
    rw [sumTo_congr m (g := fun _ => 0) fun i _ => by rw [nextE_zero dec n k row i]; simp, sumTo_zero]; simp [sumTo]
  | p + 1, h, hk => by
    rw [sumTo_congr m (g := fun j => (nextE dec n k row p j * ch a b j (k + 1 - j) + (if j = p then keepE dec n k row p else 0) * ch a b j (k + 1 - j)) + (if j = p + 1 then keepE dec n k row p else 0) * ch a b j (k + 1 - j)) fun j _ => by
      rw [nextE_succ dec n k row p j, Nat.add_mul, Nat.add_mul]]
    rw [sumTo_add, sumTo_add, nextE_sumP k row m p (by omega) (by omega), sumTo_one_at, sumTo_one_at, if_pos (by omega), if_pos h]
    have e1 : ch a b p (k + 1 - p) = ch a b p (k - p) * b := by
      unfold ch; rw [show k + 1 - p = k - p + 1 by omega, Nat.pow_succ]; ac_rfl
    have e2 : ch a b (p + 1) (k + 1 - (p + 1)) = ch a b p (k - p) * a := by
      unfold ch; rw [show k + 1 - (p + 1) = k - p by omega, Nat.pow_succ]; ac_rfl
    rw [e1, e2]
    simp only [sumTo, Nat.add_mul, Nat.mul_add]
    have e3 : keepE dec n k row p * (ch a b p (k - p) * b) = keepE dec n k row p * ch a b p (k - p) * b := by ac_rfl
    have e4 : keepE dec n k row p * (ch a b p (k - p) * a) = keepE dec n k row p * ch a b p (k - p) * a := by ac_rfl
    rw [e3, e4]; omega

/-- One end's chance within m outcomes. -/
def endC (m : Nat) (e : EndR) : Nat := e.c * ch a b e.p e.f * (a + b) ^ (m - e.p - e.f)
def weighP (m : Nat) (l : List EndR) : Nat := (l.map (endC a b m)).sum
theorem weighP_append (m : Nat) (l r : List EndR) : weighP a b m (l ++ r) = weighP a b m l + weighP a b m r := by simp [weighP]
theorem outE_weighP (m k : Nat) (row : Nat → Nat) (p : Nat) (hp : p ≤ k + 1) : weighP a b m (outE dec n k row p) = sumTo (fun q => dropE dec n k row q * ch a b q (k - q)) p * (a + b) ^ (m - k) := by
  induction p with
  | zero => simp [outE, weighP, sumTo]
  | succ p ih =>
    rw [outE, weighP_append, ih (by omega), sumTo, Nat.add_mul]
    congr 1
    have e : m - p - (k - p) = m - k := by omega
    unfold dropE
    by_cases h0 : row p = 0
    · rw [if_pos h0, h0]; simp [weighP]
    · rw [if_neg h0]
      split
      · simp [weighP, endC, e]
      · simp [weighP]
theorem outs_invP (k : Nat) (h : k ≤ n) : weighP a b n (outsE dec n k) + sumTo (fun q => rowE dec n k q * ch a b q (k - q)) (k + 1) * (a + b) ^ (n - k) = (a + b) ^ n := by
  induction k with
  | zero => simp [outsE, weighP, sumTo, rowE, ch]
  | succ k ih =>
    have e : (a + b) ^ (n - k) = (a + b) * (a + b) ^ (n - (k + 1)) := by rw [show n - k = n - (k + 1) + 1 by omega, Nat.pow_succ, Nat.mul_comm]
    have s : sumTo (fun q => keepE dec n k (rowE dec n k) q * ch a b q (k - q)) (k + 1) + sumTo (fun q => dropE dec n k (rowE dec n k) q * ch a b q (k - q)) (k + 1) = sumTo (fun q => rowE dec n k q * ch a b q (k - q)) (k + 1) := by
      rw [← sumTo_add]; exact sumTo_congr _ fun i _ => by rw [← Nat.add_mul, keep_drop dec n k _ i]
    have i := ih (by omega)
    rw [outsE, weighP_append, outE_weighP _ _ _ _ _ _ _ _ (by omega), rowE, nextE_sumP _ _ _ _ _ _ _ _ (by omega) (by omega)]
    rw [← s, Nat.add_mul] at i
    rw [e] at i ⊢
    have m1 : sumTo (fun q => keepE dec n k (rowE dec n k) q * ch a b q (k - q)) (k + 1) * (a + b) * (a + b) ^ (n - (k + 1)) = sumTo (fun q => keepE dec n k (rowE dec n k) q * ch a b q (k - q)) (k + 1) * ((a + b) * (a + b) ^ (n - (k + 1))) := by rw [Nat.mul_assoc]
    omega
/-- The chances of all ends make 1 together. -/
theorem outs_allP : weighP a b n (outsE dec n (n + 1)) = (a + b) ^ n := by
  have h := outs_invP dec n a b n (Nat.le_refl _)
  have d : sumTo (fun q => dropE dec n n (rowE dec n n) q * ch a b q (n - q)) (n + 1) = sumTo (fun q => rowE dec n n q * ch a b q (n - q)) (n + 1) := sumTo_congr _ fun i _ => by simp [dropE]
  rw [outsE, weighP_append, outE_weighP _ _ _ _ _ _ _ _ (Nat.le_refl _), d]
  exact h
end

/-- The chance of the ends with a decision. -/
def weighD (a b m : Nat) (D : Int) (l : List EndR) : Nat := (l.map fun e => if e.d = D then endC a b m e else 0).sum
theorem weighD_le (a b m : Nat) (D : Int) (l : List EndR) : weighD a b m D l ≤ weighP a b m l := by
  unfold weighD weighP
  induction l with
  | nil => simp
  | cons e l ih => simp only [List.map_cons, List.sum_cons]; split <;> omega
theorem weighD_take (a b m : Nat) (D : Int) (l : List EndR) (k : Nat) : weighD a b m D (l.take k) ≤ weighD a b m D l := by
  unfold weighD
  induction l generalizing k with
  | nil => simp
  | cons e l ih => cases k with
    | zero => simp
    | succ k => simp only [List.take_succ_cons, List.map_cons, List.sum_cons]; have := ih k; omega
/-- Chances that are related end by end are so in sum. -/
theorem weighD_rel (a b a' b' m u v : Nat) (D : Int) (l : List EndR) (h : ∀ e ∈ l, e.d = D → endC a b m e * u ≤ endC a' b' m e * v) : weighD a b m D l * u ≤ weighD a' b' m D l * v := by
  unfold weighD
  induction l with
  | nil => simp
  | cons e l ih =>
    simp only [List.map_cons, List.sum_cons, Nat.add_mul]
    have i := ih fun x hx => h x (List.mem_cons_of_mem _ hx)
    by_cases he : e.d = D
    · rw [if_pos he, if_pos he]; have := h e List.mem_cons_self he; omega
    · rw [if_neg he, if_neg he]; omega

theorem X_split (t : Tr) (p f : Nat) : t.X p f = ch t.bn (t.bd - t.bn) p f * t.gd ^ (p + f) := by
  unfold Tr.X ch; rw [Nat.mul_pow, Nat.mul_pow, Nat.pow_add]; ac_rfl
theorem Y_split (t : Tr) (p f : Nat) : t.Y p f = ch t.gn (t.gd - t.gn) p f * t.bd ^ (p + f) := by
  unfold Tr.Y ch; rw [Nat.mul_pow, Nat.mul_pow, Nat.pow_add]; ac_rfl

/-- One end: from the ratio at m outcomes to n outcomes. -/
theorem end_rel (c P Q B G m n u v : Nat) (hm : m ≤ n) (h : P * B ^ m * u ≤ Q * G ^ m * v) : c * P * G ^ (n - m) * (B ^ n * u) ≤ c * Q * B ^ (n - m) * (G ^ n * v) := by
  obtain ⟨k, rfl⟩ : ∃ k, n = m + k := ⟨n - m, by omega⟩
  rw [show m + k - m = k by omega, Nat.pow_add, Nat.pow_add]
  calc c * P * G ^ k * (B ^ m * B ^ k * u) = P * B ^ m * u * (c * G ^ k * B ^ k) := by ac_rfl
    _ ≤ Q * G ^ m * v * (c * G ^ k * B ^ k) := Nat.mul_le_mul_right _ h
    _ = _ := by ac_rfl

theorem risk_refused {t : Tr} (ht : t.Ok) (n : Nat) :
    weighD t.gn (t.gd - t.gn) n 2 (outsE t.dec n (n + 1)) * (t.ed - t.en) * t.ad ≤ t.gd ^ n * t.an * t.ed := by
  have g := ht.g.nd; have bb := ht.b.nd
  have r := weighD_rel t.gn (t.gd - t.gn) t.bn (t.bd - t.bn) n (t.bd ^ n * ((t.ed - t.en) * t.ad)) (t.gd ^ n * (t.ed * t.an)) 2 (outsE t.dec n (n + 1)) (by
    intro e he hd
    obtain ⟨h1, h2, _, _, _⟩ := outsE_mem t.dec n (n + 1) e he
    have h3 : t.refuses e.p e.f := (t.dec_two _ _).1 (by rw [← h2]; exact hd)
    unfold Tr.refuses at h3
    rw [X_split, Y_split] at h3
    have k := end_rel e.c _ _ _ _ (e.p + e.f) n _ _ (by omega) h3
    unfold endC
    rw [show t.gn + (t.gd - t.gn) = t.gd by omega, show t.bn + (t.bd - t.bn) = t.bd by omega, Nat.sub_sub]
    exact k)
  have a := weighD_le t.bn (t.bd - t.bn) n 2 (outsE t.dec n (n + 1))
  rw [outs_allP, show t.bn + (t.bd - t.bn) = t.bd by omega] at a
  have s := Nat.le_trans r (Nat.mul_le_mul_right _ a)
  have hp : 0 < t.bd := by omega
  refine Nat.le_of_mul_le_mul_left (c := t.bd ^ n) ?_ (Nat.pow_pos hp)
  calc _ = weighD t.gn (t.gd - t.gn) n 2 (outsE t.dec n (n + 1)) * (t.bd ^ n * ((t.ed - t.en) * t.ad)) := by ac_rfl
    _ ≤ _ := s
    _ = _ := by ac_rfl
theorem risk_accepted {t : Tr} (ht : t.Ok) (n : Nat) :
    weighD t.bn (t.bd - t.bn) n 1 (outsE t.dec n (n + 1)) * (t.ad - t.an) * t.ed ≤ t.bd ^ n * t.en * t.ad := by
  have g := ht.g.nd; have bb := ht.b.nd
  have r := weighD_rel t.bn (t.bd - t.bn) t.gn (t.gd - t.gn) n (t.gd ^ n * (t.ed * (t.ad - t.an))) (t.bd ^ n * (t.en * t.ad)) 1 (outsE t.dec n (n + 1)) (by
    intro e he hd
    obtain ⟨h1, h2, _, _, _⟩ := outsE_mem t.dec n (n + 1) e he
    have h3 : t.accepts e.p e.f := (ht.dec_one _ _).1 (by rw [← h2]; exact hd)
    unfold Tr.accepts at h3
    rw [X_split, Y_split] at h3
    have k := end_rel e.c _ _ _ _ (e.p + e.f) n _ _ (by omega) h3
    unfold endC
    rw [show t.gn + (t.gd - t.gn) = t.gd by omega, show t.bn + (t.bd - t.bn) = t.bd by omega, Nat.sub_sub]
    exact k)
  have a := weighD_le t.gn (t.gd - t.gn) n 1 (outsE t.dec n (n + 1))
  rw [outs_allP, show t.gn + (t.gd - t.gn) = t.gd by omega] at a
  have s := Nat.le_trans r (Nat.mul_le_mul_right _ a)
  have hp : 0 < t.gd := by omega
  refine Nat.le_of_mul_le_mul_left (c := t.gd ^ n) ?_ (Nat.pow_pos hp)
  calc _ = weighD t.bn (t.bd - t.bn) n 1 (outsE t.dec n (n + 1)) * (t.gd ^ n * (t.ed * (t.ad - t.an))) := by ac_rfl
    _ ≤ _ := s
    _ = _ := by ac_rfl
end Go.Proofs.Ytldpdoakfacdbaa
