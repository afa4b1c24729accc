/- A 'map[string]bool' that the call has made and in which it lays true alone: a set of strings: the store and the look-up, inside a fence and outside. -/
import Derived.Maps.OwnIn
import Derived.Maps.Views
import Derived.Maps.OwnOps
import Derived.WalkKit
namespace Go.Proofs.Ytcdnhnbigincpaa
open Go.RowKit Go.Maps
variable {P : Program} {k e t : TypeId}

theorem plainElem_bool_inv {H : Type} {e : TypeId} (he : P.underlying e = some .bool) {v : Value} {z : DataW H × List MemPlace} (h : plainElem P e v = some z) : ∃ c : Bool, v = .bool c ∧ z = (.lit (.bool c), []) := by
  unfold plainElem at h
  rw [he] at h
  cases v <;> simp at h
  exact ⟨_, rfl, h.symm⟩

theorem data_inj {s x : ByteArray} (h : s.data.toList = x.data.toList) : s = x := ByteArray.ext (Array.toList_inj.1 h)
/-- Is a string among these? -/
def hasB (L : List ByteArray) (s : ByteArray) : Bool := L.any fun y => decide (y.data.toList = s.data.toList)
theorem hasB_iff {L : List ByteArray} {s : ByteArray} : hasB L s = true ↔ s ∈ L := by
  simp only [hasB, List.any_eq_true, decide_eq_true_eq]
  exact ⟨fun ⟨y, h1, h2⟩ => data_inj h2 ▸ h1, fun h => ⟨s, h, rfl⟩⟩
theorem hasB_no {L : List ByteArray} {s : ByteArray} : hasB L s = false ↔ s ∉ L := by
  rw [← hasB_iff]; simp
theorem hasB_snoc (L : List ByteArray) (x s : ByteArray) : hasB (L ++ [x]) s = (hasB L s || decide (x.data.toList = s.data.toList)) := by simp [hasB]
/-- Block b is a map whose strings are just those of L. -/
def IsSet (P : Program) (k e : TypeId) (w : World) (b n : Nat) (L : List ByteArray) : Prop :=
  ∃ D : DataW Unit, w.ownsMap P k (plainElem P e) b n D ∧ IsMap D ∧ ∀ s : ByteArray, D.atKey (.string s.data.toList) (.lit (.bool false)) = .lit (.bool (hasB L s))
theorem isSet_made (w : World) : IsSet P k e (w.alloc (.map #[] 0)) w.heap.size 0 [] :=
  ⟨.map [], World.ownsMap_made w P k _, isMap_empty, fun _ => rfl⟩
theorem IsSet.lt {w : World} {b n : Nat} {L : List ByteArray} (h : IsSet P k e w b n L) : b < w.heap.size := let ⟨_, h, _⟩ := h; h.lt
theorem IsSet.kept {w w' : World} {b n : Nat} {L : List ByteArray} (h : IsSet P k e w b n L) (hb : w'.heap[b]? = w.heap[b]?) : IsSet P k e w' b n L := by
  obtain ⟨D, ⟨es, clock, h1, h2⟩, h3⟩ := h
  exact ⟨D, ⟨es, clock, hb.trans h1, h2⟩, h3⟩
theorem key_of (hk : P.underlying k = some .string) (x : ByteArray) (hx : x.size ≤ maxLen) : keyOf P k (.string x) = some (.string x.data.toList) := by
  simp [keyOf, mapKey, hk, hx]
theorem IsSet.update {w : World} {b n : Nat} {L : List ByteArray} (h : IsSet P k e w b n L) (hk : P.underlying k = some .string) (he : P.underlying e = some .bool) (ht : P.underlying t = some (.map k e)) (hn : n < maxLen) (x : ByteArray) (hx : x.size ≤ maxLen) :
    ∃ w', (Instr.mapUpdate t (.map (some b)) (.string x) (.bool true)).run P w = .ok () w' ∧ IsSet P k e w' b (n + 1) (L ++ [x]) ∧ w.grownBy w' (some b) := by
  obtain ⟨D, h1, h2, h3⟩ := h
  obtain ⟨w', hr, hw, hg⟩ := h1.update (string_keyed hk) ht hn (key_of hk x hx) (plainElem_bool he true)
  refine ⟨w', hr, ⟨_, hw, ?_, fun s => ?_⟩, hg⟩
  · obtain ⟨es, rfl⟩ := h2; exact ⟨_, rfl⟩
  · by_cases hs : s = x
    · subst hs
      rw [atKey_put_same h2 (by simp [WideAt.IsKeyLit]), hasB_snoc]
      simp
    · rw [atKey_put_other (fun h => hs (data_inj (by simpa using h))), h3 s, hasB_snoc, decide_eq_false (fun h => hs (data_inj h).symm), Bool.or_false]
theorem IsSet.look {w : World} {b n : Nat} {L : List ByteArray} (h : IsSet P k e w b n L) (hk : P.underlying k = some .string) (he : P.underlying e = some .bool) (ht : P.underlying t = some (.map k e)) (hz : (zeroValue e).run P w = .ok (.bool false) w) (x : ByteArray) (hx : x.size ≤ maxLen) :
    (Instr.lookup t (.map (some b)) (.string x) false).run P w = .ok (.bool (hasB L x)) w := by
  obtain ⟨D, h1, h2, h3⟩ := h
  obtain ⟨v, ps, hrun, hv⟩ := h1.lookup (string_keyed hk) ht hz (plainElem_bool he false) (key_of hk x hx)
  rw [h3 x] at hv
  obtain ⟨c, rfl, hc⟩ := plainElem_bool_inv he hv
  simp at hc
  rw [hrun, ← hc.1]

/-- 'm[x] = true' at the operation, inside a fence. -/
theorem wpListIn_set_in {F : Fence} {nF : Nat} (w : World) {ops : Array Oper} {rest : List Oper} {o : Oper} {a : Act} {Q : Exit → Act → World → Prop}
    (hg : o.guard = none) (m x v : Operand) (t : TypeId) (hop : o.op = Op.mapUpdate t m x v) (k e : TypeId) (hk : P.underlying k = some .string) (he : P.underlying e = some .bool) (ht : P.underlying t = some (.map k e))
    (b n : Nat) (L : List ByteArray) (hm : a.eval m = .map (some b)) (h : IsSet P k e w b n L) (hn : n < maxLen) (y : ByteArray) (hy : y.size ≤ maxLen) (hx : a.eval x = .string y) (hv : a.eval v = .bool true)
    (hK : ∀ w', IsSet P k e w' b (n + 1) (L ++ [y]) → w.grownBy w' (some b) → wpListIn F nF P ops Q rest (a.put o.dst undef) w') :
    wpListIn F nF P ops Q (o :: rest) a w := by
  refine wpListIn_plain hg fun K' hK' => ?_
  obtain ⟨w', hrun, r1, r2⟩ := h.update hk he ht hn y hy
  unfold Oper.wpIn
  refine ⟨by simp [Oper.about, hop], ?_⟩
  rw [Oper.semAt_plain F _ _ (by rw [hop]; intro c hc'; cases hc')]
  simp [execOp, hop, hm, hx, hv, hrun, Result.andThen]
  exact hK' _ _ (hK w' r1 r2)
/-- 'm[x] = true' at the operation. -/
theorem wpList_set_in (w : World) {ops : Array Oper} {rest : List Oper} {o : Oper} {a : Act} {Q : Exit → Act → World → Prop}
    (hg : o.guard = none) (m x v : Operand) (t : TypeId) (hop : o.op = Op.mapUpdate t m x v) (k e : TypeId) (hk : P.underlying k = some .string) (he : P.underlying e = some .bool) (ht : P.underlying t = some (.map k e))
    (b n : Nat) (L : List ByteArray) (hm : a.eval m = .map (some b)) (h : IsSet P k e w b n L) (hn : n < maxLen) (y : ByteArray) (hy : y.size ≤ maxLen) (hx : a.eval x = .string y) (hv : a.eval v = .bool true)
    (hK : ∀ w', IsSet P k e w' b (n + 1) (L ++ [y]) → w.grownBy w' (some b) → wpList P ops Q rest (a.put o.dst undef) w') :
    wpList P ops Q (o :: rest) a w := by
  refine wpList_plain hg fun K' hK' => ?_
  obtain ⟨w', hrun, r1, r2⟩ := h.update hk he ht hn y hy
  unfold Oper.wp
  simp [execOp, hop, hm, hx, hv, hrun, Result.andThen]
  exact hK' _ _ (hK w' r1 r2)
end Go.Proofs.Ytcdnhnbigincpaa
