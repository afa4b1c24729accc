/- codec.PutInt and Size, at this translation. -/
import Derived.Test.YtiaahjoldahlnaaCdDigits
import Derived.Laws.IdiomStrings
namespace Go.Proofs.Ytiaahjoldahlnaa.Cd
open Go.RowKit Go.Shelf
attribute [local go_sem] Oper.semAt_some

theorem info5 : (Try.prog.info? 5).map (fun i => (i.zero, i.size, i.bytes)) = some (some (.int .u8 0), 1, 1) := by kernel_rfl

theorem boxed_other {W : World} {B : Nat} {t : TypeId} {v : Value} (h : Boxed W B t v) {b : Nat} (hne : B ≠ b) (u : Value) : Boxed (W.setCell ⟨b, 0, none⟩ u) B t v :=
  (Below.heap_setCell W ⟨b, 0, none⟩ u B hne).trans h
theorem boxed_below {W W' : World} {n B : Nat} {t : TypeId} {v : Value} (h : Boxed W B t v) (hB : Below n W W') (hn : B < n) : Boxed W' B t v := (hB.block B hn).trans h

/-- Behind 'y = append(y, d)', where y's box lies below the rows that the call may own: the box holds the longer row, other boxes and all below are as they were. -/
theorem box_appended {W w1 : World} {base yb : Nat} {t e : TypeId} {k m : Nat} {v v' : Value} {xs ys : List Value} {tmp : Obj} (hy : Boxed W yb t v) (ho : W.ownsRow base e 1 v k xs) (hyb : yb < base) (hz : base ≤ W.heap.size)
    (hown' : w1.ownsRow base e 1 v' m ys) (hgrow : (W.alloc tmp).grownBy w1 v.ownBlock) :
    Boxed w1 yb t v ∧ (∀ j, j < base → w1.heap[j]? = W.heap[j]?) ∧ Boxed (w1.setCell ⟨yb, 0, none⟩ v') yb t v' ∧ (w1.setCell ⟨yb, 0, none⟩ v').ownsRow base e 1 v' m ys ∧
      (∀ j, j < base → j ≠ yb → (w1.setCell ⟨yb, 0, none⟩ v').heap[j]? = W.heap[j]?) ∧ Below yb W (w1.setCell ⟨yb, 0, none⟩ v') ∧ base ≤ (w1.setCell ⟨yb, 0, none⟩ v').heap.size := by
  have h1 : ∀ j, j < base → w1.heap[j]? = W.heap[j]? := fun j hj => by
    rw [hgrow.block j (by rw [World.size_alloc]; omega) ?_]
    · exact Below.heap_alloc W tmp j (by omega)
    · intro e
      have := (ho.lt j e.symm).1
      omega
  have h2 : Boxed w1 yb t v := (h1 yb hyb).trans hy
  refine ⟨h2, h1, h2.set v', ownsRow_setCell_below hown' hyb v', fun j hj hne => (Below.heap_setCell w1 _ v' j hne).trans (h1 j hj), ?_, ?_⟩
  · refine (((Below.refl yb W).alloc (by omega) tmp).grown hgrow (by simp; omega) fun j ej => ?_).setCell (p := ⟨yb, 0, none⟩) (Nat.le_refl _) v'
    have := (ho.lt j ej).1
    omega
  · have h3 := ((((Below.refl yb W).alloc (by omega) tmp).grown hgrow (by simp; omega) fun j ej => by have := (ho.lt j ej).1; omega).setCell (p := ⟨yb, 0, none⟩) (Nat.le_refl _) v').size
    omega

theorem keeps_appended {W w1 : World} {base k : Nat} {e : TypeId} {v u : Value} {xs : List Value} {tmp : Obj} {p : Addr} (ho : W.ownsRow base e 1 v k xs) (hgrow : (W.alloc tmp).grownBy w1 v.ownBlock) : KeepsOthers W (w1.setCell p u) := by
  refine ((KeepsOthers.alloc W tmp).trans (KeepsOthers.of_grownBy hgrow fun j o ej hj => ?_)).trans (KeepsOthers.setCell _ _ _)
  rcases (ho.alloc tmp).2 with ⟨rfl, _⟩ | ⟨g, cap, cur, rfl, _, hgb, _⟩
  · simp [Value.ownBlock] at ej
  · obtain rfl : g = j := by simpa [Value.ownBlock] using ej
    rw [hgb] at hj; cases hj; rfl

/-- Bytes as a string. -/
def strN (l : List Nat) : ByteArray := ⟨(l.map UInt8.ofNat).toArray⟩
/-- A string's bytes. -/
def nats (s : ByteArray) : List Nat := s.data.toList.map UInt8.toNat
theorem nats_strN (l : List Nat) (h : ∀ d ∈ l, d < 256) : nats (strN l) = l := by
  simp only [nats, strN, List.map_map]
  conv => rhs; rw [← List.map_id l]
  refine List.map_congr_left fun d hd => ?_
  have := h d hd
  simp [Nat.mod_eq_of_lt this]
theorem strN_nats (s : ByteArray) : strN (nats s) = s := by
  simp only [nats, strN, List.map_map]
  have : (UInt8.ofNat ∘ UInt8.toNat) = id := funext fun x => UInt8.ofNat_toNat
  rw [this, List.map_id]
theorem nats_lt (s : ByteArray) : ∀ d ∈ nats s, d < 256 := by
  intro d hd
  obtain ⟨b, _, rfl⟩ := List.mem_map.1 hd
  exact b.toNat_lt
theorem nats_length (s : ByteArray) : (nats s).length = s.size := by simp only [nats, List.length_map, Array.length_toList]; rfl
theorem strN_size (l : List Nat) : (strN l).size = l.length := by show (l.map UInt8.ofNat).toArray.size = l.length; simp
theorem nats_append (s t : ByteArray) : nats (s ++ t) = nats s ++ nats t := by simp [nats, ByteArray.data_append]
theorem strN_append (l m : List Nat) : strN (l ++ m) = strN l ++ strN m := by
  apply ByteArray.ext
  simp [strN, ByteArray.data_append]
theorem nats_inj {s t : ByteArray} (h : nats s = nats t) : s = t := by rw [← strN_nats s, h, strN_nats]

abbrev u8s (l : List Nat) : List Value := l.map fun d : Nat => .int .u8 (d : Int)

/-- The number's bytes so far lie in a slice of the call's own, which the box B0 holds. -/
def Coll (w : World) (pre : List Nat) (W : World) : Prop :=
  (∃ v, Boxed W w.heap.size 69 v ∧ W.ownsRow (w.heap.size + 2) 5 1 v pre.length (u8s pre)) ∧ Below w.heap.size w W ∧ w.heap.size + 2 ≤ W.heap.size

theorem coll_own (w : World) (B : Nat) (hB : w.heap.size + 2 ≤ B) : OwnFrom B (Coll w) := by
  intro s X Y row hs hg hr
  obtain ⟨⟨v, hv, ho⟩, hb, hz⟩ := hs
  refine ⟨⟨v, hv.kept hg (fun e => ?_), ho.kept hg ?_⟩, ?_, Nat.le_trans hz hg.size⟩
  · have := (hr _ e.symm).1; have := hv.lt; omega
  · rcases ho.2 with ⟨rfl, _⟩ | ⟨g, cap, cur, rfl, _, hgb, _⟩
    · exact .inl rfl
    · refine .inr fun e => ?_
      obtain ⟨_, o, ho', hc⟩ := hr g (by simpa [Value.ownBlock] using e.symm)
      rw [hgb] at ho'; cases ho'; cases hc
  · exact hb.grown hg (by omega) (fun k e => by have := (hr k e).1; omega)
theorem coll_rel (w : World) (pre : List Nat) (A B : World) (h : Coll w pre A) (hr : RelB (w.heap.size + 1) A B) : Coll w pre B := by
  obtain ⟨u, rfl⟩ := hr
  obtain ⟨⟨v, hv, ho⟩, hb, hz⟩ := h
  refine ⟨⟨v, (Below.heap_setCell A _ u _ (by simp)).trans hv, ownsRow_setCell_below ho (by simp) u⟩, hb.setCell (p := ⟨w.heap.size + 1, 0, none⟩) (by simp) u, ?_⟩
  exact Nat.le_trans hz (KeepsWalks.setCell _ _ _).size

set_option maxHeartbeats 1000000 in
theorem digits_in (F : Fence) (n : Nat) (h5 : F.fn 71) (hro : F.round = none) (m : Int) (w : World) :
    CallsIn F n Try.prog 71 #[.int .i64 m] w fun e w' => e = .returned (.func (.func 86) #[] #[.pointer (some ⟨w.heap.size, 0, none⟩)]) ∧ w' = w.alloc (.cells #[.int .i64 m] 3) := by
  refine callsIn_of_wp Try.func71 rfl h5 ?_ hro
  simp only [Try.ntmps71, List.size_toArray, List.length_cons, List.length_nil, Nat.reduceAdd, Nat.reduceSub, Array.replicate_succ, Array.replicate_zero, List.push_toArray, List.append_toArray, List.nil_append, List.cons_append]
  gi_wp2
  go_ret
  exact ⟨rfl, rfl⟩

set_option maxRecDepth 100000 in
set_option maxHeartbeats 2000000 in
theorem putInt_in (F : Fence) (n : Nat) (h3 : F.fn 44) (h5 : F.fn 71) (h6 : F.fn 86) (hro : F.round = none) (hn : 3 ≤ n) (m : Nat) (hm : m ≤ 1099511627776) (w : World) :
    CallsIn F n Try.prog 44 #[.int .i64 m] w fun e W' => e = .returned (.tuple #[.string (strN (enc7 m)), .int .i64 0]) ∧ Below w.heap.size w W' := by
  have h1 : 1 ≤ n := by omega
  obtain ⟨i0, hi, hz0, hz1, hz2⟩ := info_parts info5
  have t1 : decide ((m : Int) < 0) = false := by simp
  have t2 : decide (1099511627776 < (m : Int)) = false := by simp; omega
  refine callsIn_of_wp_marks Try.func44 rfl h3 ?_ hro
  simp only [Try.ntmps44, List.size_toArray, List.length_cons, List.length_nil, Nat.reduceAdd, Nat.reduceSub, Array.replicate_succ, Array.replicate_zero, List.push_toArray, List.append_toArray, List.nil_append, List.cons_append]
  gi_wp2_with (gi_at_call 71; refine (digits_in F (n - 1) h5 hro _ _).mono ?_; rintro e w' ⟨rfl, rfl⟩)
  have bB := (Boxed.new w 69 (.slice none 0 0)).alloc (.cells #[.int .i64 m] 3)
  have bN := Boxed.new (w.alloc (.cells #[.slice none 0 0] 69)) 3 (.int .i64 m)
  rw [World.size_alloc] at bN
  have hB0 : Below w.heap.size w ((w.alloc (.cells #[.slice none 0 0] 69)).alloc (.cells #[.int .i64 m] 3)) := ((Below.refl _ w).alloc (Nat.le_refl _) _).alloc (by simp) _
  have hlen : (enc7 m).length ≤ 6 := (enc7_len m 6 (by omega)).2 (by omega)
  refine rangeFunc_rel hro h1 (gf := 86) (lb := #[.pointer (some ⟨w.heap.size + 1, 0, none⟩)]) rfl h6 (enters_of Try.func86 (by kernel_rfl) rfl)
    (digits1_in F (n - 1) h6 hro (by omega) (w.heap.size + 1) m 6 hm hlen _ bN) (fun h k => k.trans h) (fun W l o o' hl _ _ _ => World.putObj_heap_other (by simp at hl; omega))
    (fun A B k o h1 _ hk hr => by obtain ⟨u, rfl⟩ := hr; exact (Below.heap_setCell A _ u k (by simp at h1 ⊢; omega)).trans hk)
    (Below.refl _ _) (fun _ => rfl)
    (Coll w) (fun _ _ _ => False) (coll_own w _ (by simp)) (fun _ _ _ _ _ hs _ _ => hs.elim) (fun s A B h hr => coll_rel w s A B h hr) (fun _ _ _ _ h _ => h.elim)
    ⟨⟨_, bB, World.ownsRow_nil _ _ _ _⟩, hB0, by simp⟩
    (fun x => { tmps := #[Value.int IntKind.i64 ↑m, undef, Value.string { data := #[] }, Value.int IntKind.i64 0,
          Value.pointer (some { block := w.heap.size, off := 0 }), .int .u8 (x : Int), Value.int IntKind.i64 ↑m,
          Value.bool false, Value.bool false, Value.int IntKind.i64 ↑m,
          Value.bool false, Value.bool false,
          Value.int IntKind.i64 ↑m,
          Value.func (Fn.func 86) #[] #[Value.pointer (some { block := w.heap.size + 1, off := 0 })], .int .u8 (x : Int), undef,
          undef, undef, undef, undef, undef], defers := [] }) ?assign ?body ?done ?stop
  case assign =>
    intro l x W K hK
    gi_wp2
    exact hK
  case body =>
    rintro l pre x W ⟨⟨v, hv, ho⟩, hB, hz⟩ hlen2
    have hy1 := hv.cell
    gi_wp2_with (gi_at_builtin; refine wpListIn_append_own _ rfl _ _ 69 rfl (w.heap.size + 2) 5 i0 (.int .u8 0) 1 1 Try.underlying69 hi hz0 hz1 hz2 rfl (by decide) _ _ _ rfl (ho.alloc _) ⟨W.heap.size, 0, none⟩ 1 1 [.int .u8 (x : Int)] rfl rfl (cell_one_new _ _ _) (by simp [Value.oneCell']) (by unfold maxLen; omega) (by omega) (by simp; omega) ?_; intro v' w1 hown' hgrow _; obtain ⟨g', cap', rfl⟩ := ownsRow_succ hown'; have A := Lib.hid (box_appended (t := 69) hv ho (by omega) hz hown' hgrow); have q1 := A.out.1.cell; have q2 := A.out.1.frozen; have KF := Lib.hid (keeps_appended (p := ⟨w.heap.size, 0, none⟩) (u := .slice (some ⟨g', 0, none⟩) (pre.length + 1) cap') ho hgrow))
    obtain ⟨a1, a2, a3, a4, a5, a6, a7⟩ := A.out
    refine ⟨KF.out.from _, a5 _ (by omega) (by omega), ⟨⟨_, a3, ?_⟩, hB.trans a6, a7⟩⟩
    simpa [u8s] using a4
  case done =>
    rintro D zs W hD rfl ⟨⟨v, hv, ho⟩, hB, hz⟩ hK
    have hy1 := hv.cell
    obtain ⟨k, hk⟩ : ∃ k, (enc7 m).length = k + 1 := ⟨(enc7 m).length - 1, by have := enc7_pos m; omega⟩
    have ho' := ho
    rw [hk] at ho'
    obtain ⟨g', cap', rfl⟩ := ownsRow_succ ho'
    have hconv := run_convert_bytes_back (P := Try.prog) W 69 9 5 ⟨g', 0, none⟩ cap' ((enc7 m).map UInt8.ofNat) Try.underlying69 Try.underlying5 Try.underlying9 (fun j hj => by
      have hj' : j < (enc7 m).length := by simpa using hj
      have h256 := enc7_byte m _ (List.getElem_mem hj')
      rw [ho.cells (g := g') rfl j (.int .u8 ((enc7 m)[j] : Nat)) (by simp [u8s, hj'])]
      simp [Nat.mod_eq_of_lt h256])
    rw [List.length_map, hk] at hconv
    clear hlen hk ho' ho t1 t2
    gi_wp2
    refine ⟨by simp, .inl ⟨_, _, rfl, run_takeDeferred hK, ?_⟩⟩
    exact ⟨_, by simp [results, Try.f44, go_sem]; rfl, rfl, hB.trans (belowK_b (w := w) (Nat.le_refl _) W D _ _ (by simp at hD; omega) hK rfl rfl)⟩
  case stop =>
    rintro D c pre W _ _ h _
    exact h.elim
end Go.Proofs.Ytiaahjoldahlnaa.Cd
