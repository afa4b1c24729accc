/- What proofs of records and of growth are good for: the mathematics, at this translation. -/
import Derived.Test.YtfheflihofafdaaXt
namespace Go.Proofs.Ytfheflihofafdaa
open Go.RowKit Go.Great Pt Tr

theorem rootT_fuel : ∀ (f g : Nat) (L : List Dig), L.length < f → L.length < g → L.length ≤ 1099511627776 → rootT f L = rootT g L
  | 0, _, _, h, _, _ => absurd h (Nat.not_lt_zero _)
  | _ + 1, 0, _, _, h, _ => absurd h (Nat.not_lt_zero _)
  | f + 1, g + 1, L, h1, h2, h3 => by
    rw [rootT, rootT]
    by_cases c0 : L.length = 0
    · rw [if_pos c0, if_pos c0]
    · rw [if_neg c0, if_neg c0]
      by_cases c1 : L.length = 1
      · rw [if_pos c1, if_pos c1]
      · rw [if_neg c1, if_neg c1]
        obtain ⟨_, _, _, _, hk, _⟩ := leftN_spec L.length (by omega) (by omega)
        have hpos : 1 ≤ leftN L.length := Nat.pow_pos (by decide)
        rw [rootT_fuel f g (L.take (leftN L.length)) (by rw [List.length_take]; omega) (by rw [List.length_take]; omega) (by rw [List.length_take]; omega),
          rootT_fuel f g (L.drop (leftN L.length)) (by rw [List.length_drop]; omega) (by rw [List.length_drop]; omega) (by rw [List.length_drop]; omega)]
/-- The root of digests. -/
def rt (L : List Dig) : Dig := rootT (L.length + 1) L
theorem rt_of {f : Nat} {L : List Dig} (h : L.length < f) (h2 : L.length ≤ 10000) : rootT f L = rt L := rootT_fuel f _ L h (Nat.lt_succ_self _) (by omega)
theorem rt_two {L : List Dig} (h : 2 ≤ L.length) (h2 : L.length ≤ 10000) : rt L = pairD (rt (L.take (leftN L.length))) (rt (L.drop (leftN L.length))) := by
  obtain ⟨_, _, _, _, hk, _⟩ := leftN_spec L.length h (by omega)
  have hpos : 1 ≤ leftN L.length := Nat.pow_pos (by decide)
  conv => lhs; unfold rt
  rw [rootT, if_neg (by omega), if_neg (by omega), rt_of (by rw [List.length_take]; omega) (by rw [List.length_take]; omega), rt_of (by rw [List.length_drop]; omega) (by rw [List.length_drop]; omega)]
theorem rt_one (d : Dig) : rt [d] = leafD d := by
  unfold rt; rw [rootT]; simp
theorem rt_nil : rt [] = ofD [] := by
  unfold rt; rw [rootT]; simp

/-- The proof of an element leads to the root. -/
theorem proof_leads : ∀ (f : Nat) (L : List Dig) (i m : Nat) (d : Dig), L.length = m → L[i]? = some d → m < f → m ≤ 10000 → rootM m i d (proofT f L i).reverse = (rt L, true)
  | 0, _, _, _, _, _, _, h, _ => absurd h (Nat.not_lt_zero _)
  | f + 1, L, i, m, d, hm, hd, hf, h2 => by
    have hi : i < m := by rw [← hm]; exact (List.getElem?_eq_some_iff.1 hd).1
    by_cases h1 : m = 1
    · subst h1
      obtain ⟨e, rfl⟩ := List.length_eq_one_iff.1 hm
      obtain rfl : i = 0 := by omega
      obtain rfl : e = d := by simpa using hd
      rw [proofT, if_pos hm, rt_one]
      simp [rootM]
    · obtain ⟨_, _, _, _, hk, hk2⟩ := leftN_spec m (by omega) (by omega)
      have hpos : 1 ≤ leftN m := Nat.pow_pos (by decide)
      rw [rt_two (by omega) (by omega), proofT, hm, if_neg h1]
      by_cases hik : i < leftN m
      · rw [if_pos hik, List.reverse_append, List.reverse_singleton, List.singleton_append, rootM, if_neg h1, if_pos hik]
        rw [proof_leads f (L.take (leftN m)) i (leftN m) d (by rw [List.length_take]; omega) (by rw [List.getElem?_take_of_lt hik]; exact hd) (by omega) (by omega), rt_of (by rw [List.length_drop]; omega) (by rw [List.length_drop]; omega)]
      · rw [if_neg hik, List.reverse_append, List.reverse_singleton, List.singleton_append, rootM, if_neg h1, if_neg hik]
        rw [proof_leads f (L.drop (leftN m)) (i - leftN m) (m - leftN m) d (by rw [List.length_drop, hm]) (by rw [List.getElem?_drop, show leftN m + (i - leftN m) = i by omega]; exact hd) (by omega) (by omega), rt_of (by rw [List.length_take]; omega) (by rw [List.length_take]; omega)]
/-- The growth proof leads to both roots. -/
theorem growth_leads : ∀ (f n : Nat) (L : List Dig) (wh : Bool) (old : Dig), 1 ≤ n → n ≤ L.length → L.length < f → L.length ≤ 10000 → (wh = true → old = rt (L.take n)) →
    rsP n L.length old (grT f n L wh).reverse wh = ((rt (L.take n), rt L), true)
  | 0, _, _, _, _, _, _, h, _, _ => absurd h (Nat.not_lt_zero _)
  | f + 1, n, L, wh, old, h1, hn, hf, h2, ho => by
    by_cases he : n = L.length
    · subst he
      rw [List.take_length] at ho ⊢
      rw [grT, if_pos rfl]
      cases wh with
      | true => simp [rsP, ho rfl]
      | false => simp [rsP, rt_of hf h2]
    · obtain ⟨j, _, _, hj, hk, hk2⟩ := leftN_spec L.length (by omega) (by omega)
      have hpos : 1 ≤ leftN L.length := Nat.pow_pos (by decide)
      rw [grT, if_neg he, rt_two (L := L) (by omega) h2]
      by_cases hnk : n ≤ leftN L.length
      · rw [if_pos hnk, List.reverse_append, List.reverse_singleton, List.singleton_append, rsP, if_neg he, if_pos hnk]
        have ht : (L.take (leftN L.length)).take n = L.take n := by rw [List.take_take, Nat.min_eq_left hnk]
        have ih := growth_leads f n (L.take (leftN L.length)) wh old h1 (by rw [List.length_take]; omega) (by rw [List.length_take]; omega) (by rw [List.length_take]; omega) (by rw [ht]; exact ho)
        rw [show (L.take (leftN L.length)).length = leftN L.length by rw [List.length_take]; omega, ht] at ih
        rw [ih, rt_of (by rw [List.length_drop]; omega) (by rw [List.length_drop]; omega)]
      · rw [if_neg hnk, List.reverse_append, List.reverse_singleton, List.singleton_append, rsP, if_neg he, if_neg hnk]
        have ih := growth_leads f (n - leftN L.length) (L.drop (leftN L.length)) false old (by omega) (by rw [List.length_drop]; omega) (by rw [List.length_drop]; omega) (by rw [List.length_drop]; omega) (fun e => by cases e)
        rw [show (L.drop (leftN L.length)).length = L.length - leftN L.length by rw [List.length_drop]] at ih
        have hln : (L.take n).length = n := by rw [List.length_take]; omega
        have hlk : leftN n = leftN L.length := by
          rw [hj]
          rw [hj] at hk hk2 hnk
          exact leftN_unique n j (by omega) (by omega) (by omega) (by omega)
        rw [rt_two (L := L.take n) (by omega) (by omega), hln, hlk, List.take_take, Nat.min_eq_left (by omega), List.drop_take]
        rw [ih, rt_of (L := L.take (leftN L.length)) (by rw [List.length_take]; omega) (by rw [List.length_take]; omega)]
theorem rootL_rt (L : List Rec) : rootL L = rt (L.map recD) := rfl
theorem head_ok {L : List Rec} (h : chkL L = 0) : headM L = rt (L.map recD) := by unfold headM; rw [if_pos h]; rfl
/-- The proof of each record of a valid ledger holds. -/
theorem record_holds (L : List Rec) (i : Nat) (h : i < L.length) (hc : chkL L = 0) : holdM (headM L).1 (headM L).2 L.length i L[i] (proveM L i) = true := by
  obtain ⟨hl, hok⟩ := chk_ok hc
  have h1 := hok _ (List.getElem_mem h)
  have e : proveM L (i : Int) = proofT ((L.map recD).length + 1) (L.map recD) i := by
    unfold proveM; rw [if_pos hc]; unfold prfD
    rw [if_pos ⟨by omega, by rw [List.length_map]; omega⟩, Int.toNat_natCast]
  unfold holdM verM
  rw [h1, e, Bool.true_and, if_neg (by omega)]
  simp only [Int.toNat_natCast]
  have := proof_leads ((L.map recD).length + 1) (L.map recD) i L.length (recD L[i]) (List.length_map _) (by simp [h]) (by rw [List.length_map]; omega) hl
  rw [this, head_ok hc]
  simp
theorem chk_take (L : List Rec) (n : Nat) (h : chkL L = 0) : chkL (L.take n) = 0 := by
  obtain ⟨hl, _⟩ := chk_ok h
  have key : ∀ (L : List Rec) (n : Nat) (last : Int), chkFrom last L = 0 → chkFrom last (L.take n) = 0 := by
    intro L
    induction L with
    | nil => intro n last h; simpa using h
    | cons r t ih =>
      intro n last h
      cases n with
      | zero => rfl
      | succ n =>
        simp only [List.take_succ_cons, chkFrom] at h ⊢
        split at h
        · simp at h
        · rename_i h1
          rw [if_neg h1]
          split at h
          · simp at h
          · rename_i h2
            rw [if_neg h2]
            exact ih n _ h
  unfold chkL at h ⊢
  rw [if_neg (by omega)] at h
  rw [if_neg (by rw [List.length_take]; omega)]
  exact key L n 0 h
theorem ext_code {L : List Rec} {n : Nat} (h : chkL L = 0) (hn : n ≤ L.length) : extE L n = 0 := by
  unfold extE; rw [if_neg (by simp [h]), if_neg (by omega)]
/-- The growth proof from each beginning of a valid ledger holds for both heads. -/
theorem growth_holds (L : List Rec) (n : Nat) (hn : n ≤ L.length) (hc : chkL L = 0) : xtM (headM (L.take n)) n (headM L) L.length (extM L n) = true := by
  obtain ⟨hl, _⟩ := chk_ok hc
  unfold xtM
  rw [if_neg (by omega), head_ok hc, head_ok (chk_take L n hc)]
  by_cases h0 : n = 0
  · subst h0
    rw [if_pos (by rfl)]
    have e : extM L ((0 : Nat) : Int) = [] := by unfold extM; rw [if_neg (by omega)]
    rw [e, List.take_zero, List.map_nil, rt_nil]
    simp
  · rw [if_neg (by omega)]
    by_cases he : n = L.length
    · subst he
      rw [if_pos rfl, List.take_length]
      have e : extM L (L.length : Int) = [] := by unfold extM; rw [if_neg (by omega)]
      rw [e]; simp
    · rw [if_neg (by omega)]
      have e : extM L (n : Int) = grT ((L.map recD).length + 1) n (L.map recD) true := by unfold extM; rw [if_pos ⟨hc, by omega, by omega⟩, Int.toNat_natCast]
      rw [e]
      simp only [Int.toNat_natCast]
      have := growth_leads ((L.map recD).length + 1) n (L.map recD) true (rt ((L.map recD).take n)) (by omega) (by rw [List.length_map]; omega) (Nat.lt_succ_self _) (by rw [List.length_map]; omega) (fun _ => rfl)
      simp only [List.length_map, ← List.map_take] at this
      simp only [List.length_map, this]
      simp
theorem prove_code {L : List Rec} {i : Nat} (h : chkL L = 0) (hi : i < L.length) : proveE L i = 0 := by
  unfold proveE prfE; rw [if_pos h, if_pos ⟨by omega, by rw [List.length_map]; omega⟩]
end Go.Proofs.Ytfheflihofafdaa
