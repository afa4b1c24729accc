/- A 'map[string]int' that the call has made, as a count of strings. -/
import Derived.Test.YtgnkfikihjjpeaaIter
import Derived.Test.YtgnkfikihjjpeaaWords
import Derived.Maps.OwnIn
import Derived.Maps.Views
import Derived.Maps.OwnOps
import Derived.WalkKit
namespace Go.Proofs.Ytgnkfikihjjpeaa
open Go.RowKit Go.Maps
variable {P : Program} {k e t : TypeId}

theorem data_inj {s x : ByteArray} (h : s.data.toList = x.data.toList) : s = x := ByteArray.ext (Array.toList_inj.1 h)
theorem key_of (hk : P.underlying k = some .string) (x : ByteArray) (hx : x.size ≤ maxLen) : keyOf P k (.string x) = some (.string x.data.toList) := by
  simp [keyOf, mapKey, hk, hx]
/-- Block b is a map that counts so. -/
def IsCnt (P : Program) (k e : TypeId) (w : World) (b n : Nat) (f : BA → Int) : Prop :=
  ∃ D : DataW Unit, w.ownsMap P k (plainElem P e) b n D ∧ IsMap D ∧ ∀ s : ByteArray, D.atKey (.string s.data.toList) (.lit (.int .i64 0)) = .lit (.int .i64 (f s))
theorem isCnt_made (w : World) : IsCnt P k e (w.alloc (.map #[] 0)) w.heap.size 0 fun _ => 0 :=
  ⟨.map [], World.ownsMap_made w P k _, isMap_empty, fun _ => rfl⟩
theorem IsCnt.lt {w : World} {b n : Nat} {f : BA → Int} (h : IsCnt P k e w b n f) : b < w.heap.size := let ⟨_, h, _⟩ := h; h.lt
theorem IsCnt.kept {w w' : World} {b n : Nat} {f : BA → Int} (h : IsCnt P k e w b n f) (hb : w'.heap[b]? = w.heap[b]?) : IsCnt P k e w' b n f := by
  obtain ⟨D, ⟨es, clock, h1, h2⟩, h3⟩ := h
  exact ⟨D, ⟨es, clock, hb.trans h1, h2⟩, h3⟩
/-- The count with one text's count replaced. -/
def setAt (f : BA → Int) (x : BA) (c : Int) : BA → Int := fun s => if s = x then c else f s
/-- m[x] = c at the operation. -/
theorem wpList_cnt_put (w : World) {ops : Array Oper} {rest : List Oper} {o : Oper} {a : Act} {Q : Exit → Act → World → Prop}
    (hg : o.guard = none) (m x v : Operand) (t : TypeId) (hop : o.op = Op.mapUpdate t m x v) (k e : TypeId) (hk : P.underlying k = some .string) (he : P.underlying e = some (.int .i64)) (ht : P.underlying t = some (.map k e))
    (b n : Nat) (f : BA → Int) (hm : a.eval m = .map (some b)) (h : IsCnt P k e w b n f) (hn : n < maxLen) (y : ByteArray) (hy : y.size ≤ maxLen) (hx : a.eval x = .string y) (c : Int) (hc : (Lit.int .i64 c).wf = true) (hv : a.eval v = .int .i64 c)
    (hK : ∀ w', IsCnt P k e w' b (n + 1) (setAt f y c) → w.grownBy w' (some b) → wpList P ops Q rest (a.put o.dst undef) w') :
    wpList P ops Q (o :: rest) a w := by
  obtain ⟨D, h1, h2, h3⟩ := h
  refine wpList_mapUpdate_own w hg m x v t hop k e (string_keyed hk) ht (plainElem P e) b n D hm h1 hn (.string y) (.int .i64 c) (.string y.data.toList) hx hv (key_of hk y hy) (.lit (.int .i64 c)) [] (plainElem_int he hc) fun w' h4 h5 => hK w' ⟨_, h4, ?_, fun s => ?_⟩ h5
  · obtain ⟨es, rfl⟩ := h2; exact ⟨_, rfl⟩
  · by_cases hs : s = y
    · subst hs
      rw [atKey_put_same h2 (by simp [WideAt.IsKeyLit]), setAt, if_pos rfl]
    · rw [atKey_put_other (fun h => hs (data_inj (by simpa using h))), h3 s, setAt, if_neg hs]
/-- m[x] at the operation. -/
theorem wpList_cnt_look (w : World) {ops : Array Oper} {rest : List Oper} {o : Oper} {a : Act} {Q : Exit → Act → World → Prop}
    (hg : o.guard = none) (m x : Operand) (t : TypeId) (hop : o.op = Op.lookup t m x false) (k e : TypeId) (hk : P.underlying k = some .string) (he : P.underlying e = some (.int .i64)) (ht : P.underlying t = some (.map k e)) (hz : (zeroValue e).run P w = .ok (.int .i64 0) w)
    (b n : Nat) (f : BA → Int) (hm : a.eval m = .map (some b)) (h : IsCnt P k e w b n f) (y : ByteArray) (hy : y.size ≤ maxLen) (hx : a.eval x = .string y)
    (hK : wpList P ops Q rest (a.put o.dst (.int .i64 (f y))) w) :
    wpList P ops Q (o :: rest) a w := by
  obtain ⟨D, h1, h2, h3⟩ := h
  refine wpList_lookup_own_int w hg m x t hop k e .i64 (string_keyed hk) ht he hz b n D hm h1 (.string y) (.string y.data.toList) hx (key_of hk y hy) fun c hc _ => ?_
  rw [h3 y] at hc
  simp at hc
  rw [← hc]
  exact hK
/-- The keys of a count. -/
theorem cnt_keys {w : World} {b n : Nat} {D : DataW Unit} (hk : P.underlying k = some .string) (h : w.ownsMap P k (plainElem P e) b n D) :
    Maps.size D ≤ n ∧ (strKeys D).Nodup ∧ (∀ x, has D (.string x) = true → x ∈ strKeys D) ∧ (strKeys D).length ≤ n ∧ ∀ x ∈ strKeys D, x.length ≤ maxLen := by
  have hlen : Maps.size D ≤ n := by
    obtain ⟨es, clock, _, _, hn, rfl⟩ := h
    have := (Go.WideShapes.sorted_perm (es.toList.map (Go.WideElems.rg P k (plainElem (H := Unit) P e)))).length_eq
    rw [size_eq, this]
    simpa using hn
  have hmax := strKeys_le h hk
  obtain ⟨es, hD, hpw, _⟩ := h.entries (string_keyed hk)
  obtain ⟨es', hD', hko⟩ := h.keysOf
  obtain rfl : es = es' := by rw [hD] at hD'; simpa using hD'
  have hs : ∀ p ∈ es, ∃ x, p.1 = .string x := fun p hp => by
    obtain ⟨v, hv⟩ := hko p hp
    obtain ⟨x, _, hx, _⟩ := Maps.keyOf_str hk hv
    exact ⟨x, hx⟩
  subst hD
  refine ⟨hlen, ?_, fun x hx => ?_, ?_, hmax⟩
  · show (es.map fun p => strOf p.1).Nodup
    refine List.pairwise_map.2 (hpw.imp_of_mem fun {p q} hp' hq' hne e => hne ?_)
    obtain ⟨a, ha⟩ := hs p hp'
    obtain ⟨b, hb⟩ := hs q hq'
    rw [ha, hb] at e ⊢
    exact congrArg _ e
  · rw [has_eq, List.any_eq_true] at hx
    obtain ⟨p, hp', hx⟩ := hx
    obtain ⟨a, ha⟩ := hs p hp'
    rw [ha] at hx
    refine List.mem_map.2 ⟨p, hp', ?_⟩
    rw [ha]
    simpa [Lit.sameKey, strOf] using hx
  · show (es.map fun p => strOf p.1).length ≤ n
    rw [List.length_map]
    exact hlen
theorem cnt_has {D : DataW Unit} {f : BA → Int} (h3 : ∀ s : ByteArray, D.atKey (.string s.data.toList) (.lit (.int .i64 0)) = .lit (.int .i64 (f s))) {x : BA} (h : f x ≠ 0) : has D (.string x.data.toList) = true := by
  cases hh : has D (.string x.data.toList)
  · have := h3 x
    rw [atKey_of_not_has hh] at this
    simp at this
    exact absurd this.symm h
  · rfl
end Go.Proofs.Ytgnkfikihjjpeaa
