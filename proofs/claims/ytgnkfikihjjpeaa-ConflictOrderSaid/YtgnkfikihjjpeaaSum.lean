/- conflict.sum, at this translation. -/
import Derived.Test.YtgnkfikihjjpeaaRepeat
import Derived.Test.YtgnkfikihjjpeaaCnt
import Derived.Deep.AppendLies
namespace Go.Proofs.Ytgnkfikihjjpeaa
open Go.RowKit Go.Great Go.Maps

/-- Two slices of the call's own, in a box, in different blocks. -/
structure Pair (base B : Nat) (A R : List BA) (va vr : Value) (W : World) : Prop where
  box : SBox W B va vr
  oa : W.ownsRow base 9 1 va A.length (rowS A)
  or : W.ownsRow base 9 1 vr R.length (rowS R)
  d : ∀ k, va.ownBlock = some k → vr.ownBlock ≠ some k
theorem Pair.below {base B N : Nat} {A R : List BA} {va vr : Value} {W W' : World} (h : Pair base B A R va vr W) (hB : Below N W W') (hN : W.heap.size ≤ N) : Pair base B A R va vr W' :=
  ⟨h.box.below hB (Nat.lt_of_lt_of_le h.box.lt hN), own_move h.oa fun k _ h2 => hB.block k (by omega), own_move h.or fun k _ h2 => hB.block k (by omega), h.d⟩
theorem Pair.alloc {base B : Nat} {A R : List BA} {va vr : Value} {W : World} (h : Pair base B A R va vr W) (o : Obj) : Pair base B A R va vr (W.alloc o) := h.below ((Below.refl W.heap.size W).alloc (Nat.le_refl _) o) (Nat.le_refl _)
theorem Pair.drew {base B : Nat} {A R : List BA} {va vr : Value} {W : World} (h : Pair base B A R va vr W) : Pair base B A R va vr W.drew := ⟨h.box, h.oa, h.or, h.d⟩
theorem own_setO {W : World} {B : Nat} {v : Value} {n : Nat} {xs : List Value} (h : W.ownsRow B 9 1 v n xs) {N : Nat} (hN : N < B) (o : Nat) (u : Value) : (W.setCell ⟨N, o, none⟩ u).ownsRow B 9 1 v n xs := by
  refine ⟨h.1, h.2.imp id ?_⟩
  rintro ⟨g, cap, cur, e, hg, hh, h3⟩
  exact ⟨g, cap, cur, e, hg, (Below.heap_setCell W ⟨N, o, none⟩ u g (by show g ≠ N; omega)).trans hh, h3⟩
theorem own_grown {W W' : World} {B : Nat} {v u : Value} {n : Nat} {xs : List Value} (h : W.ownsRow B 9 1 v n xs) (hg : W.grownBy W' u.ownBlock) (hd : ∀ k, u.ownBlock = some k → v.ownBlock ≠ some k) : W'.ownsRow B 9 1 v n xs := by
  refine ⟨h.1, h.2.imp id ?_⟩
  rintro ⟨g, cap, cur, rfl, hb, hh, h3⟩
  refine ⟨g, cap, cur, rfl, hb, (hg.block g (Array.getElem?_eq_some_iff.1 hh).1 fun e => ?_).trans hh, h3⟩
  exact hd g e.symm rfl
/-- What an append and the store of its value leave: of the texts that are added. -/
structure Put (base B : Nat) (A R : List BA) (va vr : Value) (W W1 W2 : World) : Prop where
  box : SBox W1 B va vr
  pair : ∃ va' vr', Pair base B A R va' vr' W2
  keep : ∀ k, k < base → k ≠ B → W2.heap[k]? = W.heap[k]?
  low : Below B W W2
theorem Pair.addA {base B n : Nat} {A R : List BA} {va vr v' : Value} {x : BA} {W W1 : World} (h : Pair base B A R va vr W) (hB : B < base) (hz : base ≤ W.heap.size)
    (hown : W1.ownsRow base 9 1 v' (A.length + n) (rowS A ++ rowS (List.replicate n x))) (hg : W.grownBy W1 va.ownBlock) (hat : v'.ownBlock = va.ownBlock ∨ v'.ownBlock = some W.heap.size) :
    Put base B (A ++ List.replicate n x) R va vr W W1 (W1.setCell ⟨B, 0, none⟩ v') := by
  have h1 : ∀ k, k < base → W1.heap[k]? = W.heap[k]? := fun k hk => by
    refine hg.block k (by omega) fun e => ?_
    have := (h.oa.lt k e.symm).1
    omega
  have hb : SBox W1 B va vr := (h1 B hB).trans h.box
  have hr := own_grown h.or hg h.d
  refine ⟨hb, ⟨v', vr, hb.set0 v', ?_, own_setO hr hB 0 v', ?_⟩, fun k hk hne => (Below.heap_setCell W1 _ v' k hne).trans (h1 k hk), ?_⟩
  · have := own_setO hown hB 0 v'
    rwa [← row_append, show A.length + n = (A ++ List.replicate n x).length by simp] at this
  · intro k hk e
    rcases hat with hat | hat
    · exact h.d k (hat ▸ hk) e
    · rw [hat] at hk
      cases hk
      have := (h.or.lt _ e).2
      omega
  · refine ((Below.refl B W).grown hg (by omega) fun k e => ?_).setCell (p := ⟨B, 0, none⟩) (Nat.le_refl _) v'
    have := (h.oa.lt k e).1
    omega
theorem Pair.addR {base B n : Nat} {A R : List BA} {va vr v' : Value} {x : BA} {W W1 : World} (h : Pair base B A R va vr W) (hB : B < base) (hz : base ≤ W.heap.size)
    (hown : W1.ownsRow base 9 1 v' (R.length + n) (rowS R ++ rowS (List.replicate n x))) (hg : W.grownBy W1 vr.ownBlock) (hat : v'.ownBlock = vr.ownBlock ∨ v'.ownBlock = some W.heap.size) :
    Put base B A (R ++ List.replicate n x) va vr W W1 (W1.setCell ⟨B, 1, none⟩ v') := by
  have h1 : ∀ k, k < base → W1.heap[k]? = W.heap[k]? := fun k hk => by
    refine hg.block k (by omega) fun e => ?_
    have := (h.or.lt k e.symm).1
    omega
  have hb : SBox W1 B va vr := (h1 B hB).trans h.box
  have hr := own_grown h.oa hg fun k e1 e2 => h.d k e2 e1
  refine ⟨hb, ⟨va, v', hb.set1 v', own_setO hr hB 1 v', ?_, ?_⟩, fun k hk hne => (Below.heap_setCell W1 _ v' k hne).trans (h1 k hk), ?_⟩
  · have := own_setO hown hB 1 v'
    rwa [← row_append, show R.length + n = (R ++ List.replicate n x).length by simp] at this
  · intro k e hk
    rcases hat with hat | hat
    · exact h.d k e (hat ▸ hk)
    · rw [hat] at hk
      cases hk
      have := (h.oa.lt _ e).2
      omega
  · refine ((Below.refl B W).grown hg (by omega) fun k e => ?_).setCell (p := ⟨B, 1, none⟩) (Nat.le_refl _) v'
    have := (h.or.lt k e).1
    omega

/-- slices.Repeat at a step of a region that draws. -/
theorem step_repeat {ops : Array Oper} {o : Oper} {a : Act} {w : World} {K : Act → World → Prop} {Q : Exit → Act → World → Prop} {E : Prop}
    (hg : o.guard = none) (s c : Nat) (hop : o.op = Op.call { callee := Callee.value (Operand.func 52), args := #[.tmp s, .tmp c], argTypes := #[22, 3] })
    (g n : Nat) (x : BA) (hn : n ≤ 1000) (hs : a.eval (.tmp s) = .slice (some ⟨g, 0, none⟩) 1 1) (hc : a.eval (.tmp c) = .int .i64 n) (hgl : g < w.heap.size) (hx : w.cell? ⟨g, 0, none⟩ = some (.string x))
    (hK : ∀ G w', w.heap.size ≤ G → IsR w' G (List.replicate n x) → Below w.heap.size w w' → K (a.put o.dst (.slice (some ⟨G, 0, none⟩) n n)) w') :
    if Region.wanted o (yielded ops a.tmps) = true then Oper.wp Try.prog o a w K Q else E := by
  have hw : Region.wanted o (yielded ops a.tmps) = true := by simp [Region.wanted, hg]
  rw [if_pos hw]
  have hs' : a.tmps[s]?.getD undef = .slice (some ⟨g, 0, none⟩) 1 1 := by simpa [Act.eval] using hs
  have hc' : a.tmps[c]?.getD undef = .int .i64 n := by simpa [Act.eval] using hc
  unfold Oper.wp
  simp [execOp, hop, go_sem]
  rw [hs', hc']
  refine (repeat_any g n x hn w hgl hx).mono ?_
  rintro e w' ⟨G, rfl, h1, h2, h3⟩
  simpa [Act.put] using hK G w' h1 h2 h3
/-- append at a step of a region that draws, and where the new row lies. -/
theorem step_append_at {P : Program} {w : World} {ops : Array Oper} {o : Oper} {a : Act} {K : Act → World → Prop} {Q : Exit → Act → World → Prop} {E : Prop} (hgd : o.guard = none) (s x : Operand) (t : TypeId)
    (ho : o.op = .call { callee := .builtin .append, args := #[s, x], argTypes := #[t, t] })
    (base : Nat) (e : TypeId) (i : TypeInfo) (z : Value) (size bytes : Nat) (ht : P.underlying t = some (.slice e)) (hi : P.info? e = some i) (hz : i.zero = some z)
    (hsize : i.size = size) (hby : i.bytes = bytes) (hzs : z.cells.size = size) (hsz : 0 < size)
    (v : Value) (n : Nat) (xs : List Value) (hs : a.eval s = v) (hown : w.ownsRow base e size v n xs)
    (ad : Addr) (m c : Nat) (news : List Value) (hx : a.eval x = .slice (some ad) m c) (hl : news.length = m * size) (hnews : ∀ j u, news[j]? = some u → w.cell? (ad.add j) = some u) (h1 : ∀ u ∈ news, u.oneCell' = true)
    (h63 : n + m ≤ maxLen) (hbytes : (n + m) * bytes ≤ 140737488355328) (hbase : base ≤ w.heap.size)
    (h : ∀ v' w', w'.ownsRow base e size v' (n + m) (xs ++ news) → w.grownBy w' v.ownBlock → (v'.ownBlock = v.ownBlock ∨ v'.ownBlock = some w.heap.size) → K (a.put o.dst v') w') :
    if Region.wanted o (yielded ops a.tmps) = true then Oper.wp P o a w K Q else E := by
  have hw : Region.wanted o (yielded ops a.tmps) = true := by simp [Region.wanted, hgd]
  rw [if_pos hw]
  obtain ⟨v', w', hr, h2, h3, _, h5⟩ := run_append_own_at (P := P) w base t o.type e i z size bytes ht hi hz hsize hby hzs hsz v n xs hown ad m c news hl hnews h1 h63 hbytes hbase
  unfold Oper.wp execOp
  simp only [ho, resolve, invoke, builtin, Sem.run_bind, Sem.run_pure, Result.andThen_ok, List.map_toArray, List.map_cons, List.map_nil, hs, hx, hr]
  exact h v' w' h2 h3 h5

/-- The sorted keys as texts. -/
def txt (l : List UInt8) : BA := ⟨l.toArray⟩
theorem rowS_txt (L : List (List UInt8)) : L.map encStr = rowS (L.map txt) := by simp [rowS, txt, encStr]
theorem txt_list (l : List UInt8) : (txt l).toList = l := ByteArray.toList_mk l
theorem txt_inj {x y : List UInt8} (h : txt x = txt y) : x = y := by rw [← txt_list x, h, txt_list]
theorem keys_sorted {ss ks : List (List UInt8)} (h : ss.Perm ks) (hn : ks.Nodup) :
    asc ((ss.mergeSort fun x y => decide (x ≤ y)).map txt) ∧ ((ss.mergeSort fun x y => decide (x ≤ y)).map txt).Nodup ∧ ∀ x : BA, x.data.toList ∈ ks → x ∈ (ss.mergeSort fun x y => decide (x ≤ y)).map txt := by
  have hp := (List.mergeSort_perm ss (fun x y => decide (x ≤ y))).trans h
  have hs := List.pairwise_mergeSort (le := fun x y : List UInt8 => decide (x ≤ y)) (fun a b c h1 h2 => by simp only [decide_eq_true_eq] at *; exact List.le_trans h1 h2) (fun a b => by simp only [Bool.or_eq_true, decide_eq_true_eq]; exact List.le_total a b) ss
  refine ⟨?_, ?_, fun x hx => List.mem_map.2 ⟨_, hp.mem_iff.2 hx, ?_⟩⟩
  · refine List.pairwise_map.2 (hs.imp fun {a b} h => ?_)
    rw [bl_le, txt_list, txt_list]
    simpa using h
  · refine List.pairwise_map.2 ((hp.nodup_iff.2 hn).imp fun {a b} h e => h (txt_inj e))
  · exact ByteArray.ext (by simp [txt])
theorem mk_step (f : BA → Int) {K : List BA} {j : Nat} (h : j < K.length) : mk f (K.take (j + 1)) = ⟨(mk f (K.take j)).A ++ List.replicate (f K[j]).toNat K[j], (mk f (K.take j)).R ++ List.replicate (-f K[j]).toNat K[j]⟩ := by
  simp only [mk]
  rw [List.take_succ_eq_append_getElem h, List.flatMap_append, List.flatMap_append, List.flatMap_cons, List.flatMap_cons, List.flatMap_nil, List.flatMap_nil, List.append_nil, List.append_nil]
theorem mk_len (f : BA → Int) (hf : ∀ x, -1000 ≤ f x ∧ f x ≤ 1000) : ∀ (K : List BA), (mk f K).A.length ≤ 1000 * K.length ∧ (mk f K).R.length ≤ 1000 * K.length
  | [] => by simp [mk]
  | x :: K => by
    have h := mk_len f hf K
    have hx := hf x
    simp only [mk, List.flatMap_cons, List.length_append, List.length_replicate, List.length_cons] at h ⊢
    omega
theorem own_cells {w : World} {B m : Nat} {v : Value} {L : List BA} (h : w.ownsRow B 9 1 v m (rowS L)) (hm : L.length = m) :
    ∃ a cap, v = .slice a L.length cap ∧ (L = [] ∨ ∃ g, a = some ⟨g, 0, none⟩ ∧ B ≤ g ∧ g < w.heap.size ∧ ∀ j (h : j < L.length), w.cell? ⟨g, j, none⟩ = some (.string L[j])) := by
  subst hm
  have h0 := h
  obtain ⟨_, ⟨rfl, e⟩ | ⟨g, cap, cur, rfl, hb, hcur, hn, hcap, hsz, _⟩⟩ := h
  · exact ⟨none, 0, by rw [e], .inl (List.length_eq_zero_iff.1 e)⟩
  · refine ⟨_, cap, rfl, .inr ⟨g, rfl, hb, (Array.getElem?_eq_some_iff.1 hcur).1, fun j hj => ?_⟩⟩
    have := h0.cellAt j (by omega)
    rw [this, rowS_get L j hj]
theorem own_form {w : World} {B n : Nat} {v : Value} {xs : List Value} (h : w.ownsRow B 9 1 v n xs) : ∃ a c, v = .slice a n c := by
  obtain ⟨_, ⟨rfl, rfl⟩ | ⟨g, cap, cur, rfl, _⟩⟩ := h
  · exact ⟨_, _, rfl⟩
  · exact ⟨_, _, rfl⟩
theorem cell_of_heap {w w' : World} {g : Nat} (h : w'.heap[g]? = w.heap[g]?) (o : Nat) : w'.cell? ⟨g, o, none⟩ = w.cell? ⟨g, o, none⟩ := by simp [World.cell?, h]
theorem rep_lies0 {W : World} {G : Nat} {x : BA} {m : Nat} (h : IsR W G (List.replicate m x)) : ∀ j v, (rowS (List.replicate m x))[j]? = some v → W.cell? ((⟨G, 0, none⟩ : Addr).add j) = some v := by
  intro j v hv
  have hj : j < (List.replicate m x).length := by have := (List.getElem?_eq_some_iff.1 hv).1; rwa [rowS_length] at this
  rw [Addr.add_lit, Nat.zero_add, h.cell j hj]
  rw [rowS_get _ j hj] at hv
  exact hv
end Go.Proofs.Ytgnkfikihjjpeaa
