/- object.Links, at this translation. -/
import Derived.Test.YtiaahjoldahlnaaParts
import Derived.Test.YtiaahjoldahlnaaEncM
import Derived.Laws.MakeOwn
import Derived.Laws.OwnMore
namespace Go
theorem run_append_own_bare7 {P : Program} {w : World} (base : Nat) (t ty e : TypeId) (i : TypeInfo) (size : Nat) (ht : P.underlying t = some (.slice e)) (hi : P.info? e = some i)
    (v : Value) (n : Nat) (xs : List Value) (hown : w.ownsRow base e size v n xs) (c : Nat) :
    (Builtin.append_ #[t, t] ty #[v, .slice none 0 c]).run P w = .ok v w := by
  rcases hown.2 with ⟨rfl, rfl⟩ | ⟨g, cap, cur, rfl, _, _, hnc, _⟩
  · simp [Builtin.append_, run_underlying ht, sizeOf, typeInfo, hi, Builtin.lenOf, Builtin.firstCells]
  · simp [Builtin.append_, run_underlying ht, sizeOf, typeInfo, hi, Builtin.lenOf, Builtin.firstCells, hnc, storeCells]

/-- append to a slice of one's own from a slice that came in, whose address may be none when it is empty. -/
theorem wpList_append_src7 {P : Program} {w : World} {ops : Array Oper} {rest : List Oper} {o : Oper} {a : Act} {Q : Exit → Act → World → Prop} (hgd : o.guard = none) (s x : Operand) (t : TypeId)
    (ho : o.op = .call { callee := .builtin .append, args := #[s, x], argTypes := #[t, t] })
    (base : Nat) (e : TypeId) (i : TypeInfo) (z : Value) (size bytes : Nat) (ht : P.underlying t = some (.slice e)) (hi : P.info? e = some i) (hz : i.zero = some z)
    (hsize : i.size = size) (hby : i.bytes = bytes) (hzs : z.cells.size = size) (hsz : 0 < size)
    (v : Value) (n : Nat) (xs : List Value) (hs : a.eval s = v) (hown : w.ownsRow base e size v n xs)
    (b : Option Addr) (m c : Nat) (news : List Value) (hx : a.eval x = .slice b m c) (hl : news.length = m * size) (hb : b = none → m = 0) (hnews : ∀ ad, b = some ad → ∀ j u, news[j]? = some u → w.cell? (ad.add j) = some u) (h1 : ∀ u ∈ news, u.oneCell' = true)
    (h63 : n + m ≤ maxLen) (hbytes : (n + m) * bytes ≤ 140737488355328) (hbase : base ≤ w.heap.size)
    (h : ∀ v' w', w'.ownsRow base e size v' (n + m) (xs ++ news) → w.grownBy w' v.ownBlock → wpList P ops Q rest (a.put o.dst v') w') : wpList P ops Q (o :: rest) a w := by
  cases b with
  | some ad => exact wpList_append_own w hgd s x t ho base e i z size bytes ht hi hz hsize hby hzs hsz v n xs hs hown ad m c news hx hl (hnews ad rfl) h1 h63 hbytes hbase fun v' w' h2 h3 _ => h v' w' h2 h3
  | none =>
    obtain rfl := hb rfl
    obtain rfl : news = [] := List.eq_nil_of_length_eq_zero (by omega)
    refine wpList_plain hgd fun K hK => ?_
    have hrun := run_append_own_bare7 (P := P) (w := w) base t o.type e i size ht hi v n xs hown c
    unfold Oper.wp
    simp [execOp, ho, resolve, invoke, builtin, hs, hx, hrun, Result.andThen]
    exact hK _ _ (h _ _ (by simpa using hown) (World.grownBy.refl _ _))
end Go
namespace Go.Proofs.Ytiaahjoldahlnaa
open Go.RowKit Go.Great
attribute [local go_sem] eq_arr

/-- Digests as a row of cells. -/
def rowD (L : List Dig) : List Value := L.flatMap fun d => [.int .u64 d.1, .int .u64 d.2]
theorem rowD_append (L R : List Dig) : rowD (L ++ R) = rowD L ++ rowD R := by simp [rowD]
theorem rowD_length (L : List Dig) : (rowD L).length = L.length * 2 := by
  induction L with
  | nil => rfl
  | cons e L ih => simp only [rowD, List.flatMap_cons, List.length_append, List.length_cons, List.length_nil] at ih ⊢; omega
theorem rowD_at (L : List Dig) (j : Nat) (h : j < L.length) : (rowD L)[j * 2]? = some (.int .u64 L[j].1) ∧ (rowD L)[j * 2 + 1]? = some (.int .u64 L[j].2) := by
  induction L generalizing j with
  | nil => simp at h
  | cons e L ih =>
    cases j with
    | zero => simp [rowD]
    | succ j =>
      have := ih j (by simpa using h)
      simp only [rowD, List.flatMap_cons] at this ⊢
      rw [show (j + 1) * 2 = j * 2 + 1 + 1 by omega]
      simpa using this
theorem rowD_one (L : List Dig) : ∀ u ∈ rowD L, u.oneCell' = true := by
  intro u hu
  simp only [rowD, List.mem_flatMap] at hu
  obtain ⟨p, _, hu⟩ := hu
  simp at hu
  rcases hu with rfl | rfl <;> rfl
theorem digs_none (W : World) (a : Option Addr) (cap : Nat) : IsDigs W (.slice a 0 cap) [] := ⟨a, cap, rfl, Nat.zero_le _, Nat.zero_le _, .inl rfl⟩
theorem own_digs {w : World} {B m : Nat} {v : Value} {L : List Dig} (h : w.ownsRow B 25 2 v m (rowD L)) (hm : L.length = m) (hl : m ≤ maxLen) : IsDigs w v L := by
  subst hm
  have h0 := h
  obtain ⟨_, ⟨rfl, e⟩ | ⟨g, cap, cur, rfl, hb, hcur, hn, hcap, hsz, _⟩⟩ := h
  · rw [List.length_eq_zero_iff.1 e]; exact digs_none w _ _
  · refine ⟨_, cap, rfl, hl, hn, .inr ⟨g, 0, rfl, (Array.getElem?_eq_some_iff.1 hcur).1, fun j hj => ?_⟩⟩
    have c0 := h0.cellAt (j * 2) (by omega)
    have c1 := h0.cellAt (j * 2 + 1) (by omega)
    rw [Nat.zero_add, c0, c1]
    exact rowD_at L j hj
/-- The cells of digests in memory, as a row. -/
theorem digs_lies {w : World} {a : Option Addr} {n cap : Nat} {L : List Dig} (h : IsDigs w (.slice a n cap) L) : (a = none → n = 0) ∧ n = L.length ∧ ∀ ad, a = some ad → ∀ j u, (rowD L)[j]? = some u → w.cell? (ad.add j) = some u := by
  obtain ⟨a', cap', e, h1, h2, h3⟩ := h
  obtain ⟨rfl, rfl, rfl⟩ : a = a' ∧ n = L.length ∧ cap = cap' := by injection e with e1 e2 e3; exact ⟨e1, e2, e3⟩
  refine ⟨fun e => ?_, rfl, fun ad e j u hu => ?_⟩
  · rcases h3 with rfl | ⟨b, off, e2, _⟩
    · rfl
    · rw [e] at e2; cases e2
  · rcases h3 with rfl | ⟨b, off, e2, hb, hc⟩
    · simp [rowD] at hu
    · rw [e] at e2
      cases e2
      have hj : j < L.length * 2 := by
        rw [← rowD_length]
        exact (List.getElem?_eq_some_iff.1 hu).1
      simp only [Addr.add_lit]
      obtain ⟨m, hm⟩ : ∃ m, j = m * 2 ∨ j = m * 2 + 1 := ⟨j / 2, by omega⟩
      have hd : m < L.length := by omega
      obtain ⟨r0, r1⟩ := rowD_at L m hd
      obtain ⟨q0, q1⟩ := hc m hd
      rcases hm with rfl | rfl
      · rw [r0] at hu
        cases hu
        exact q0
      · rw [r1] at hu
        cases hu
        exact q1
theorem two_dig (W : World) (d : Dig) (t : TypeId) : ∀ j u, [Value.int .u64 d.1, .int .u64 d.2][j]? = some u → (W.alloc (.cells #[.int .u64 d.1, .int .u64 d.2] t)).cell? ((⟨W.heap.size, 0, none⟩ : Addr).add j) = some u := by
  intro j u h
  match j, h with
  | 0, h => simpa [Addr.add, World.cell?_alloc_new] using h
  | 1, h => simpa [Addr.add, World.cell?_alloc_new] using h
  | j + 2, h => simp at h
theorem dig_one (d : Dig) : ∀ u ∈ [Value.int .u64 d.1, .int .u64 d.2], u.oneCell' = true := by
  intro u hu
  simp at hu
  rcases hu with rfl | rfl <;> rfl
theorem info25 : (Try.prog.info? 25).map (fun i => (i.zero, i.size, i.bytes)) = some (some (.agg #[.int .u64 0, .int .u64 0]), 2, 16) := by kernel_rfl
end Go.Proofs.Ytiaahjoldahlnaa
