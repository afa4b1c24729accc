/- ledger.digestOf, at this translation. -/
import Derived.Test.YtfheflihofafdaaFields
import Derived.Test.YtfheflihofafdaaHead
namespace Go.Proofs.Ytfheflihofafdaa
open Go.RowKit Go.Great Pt Tr Go.Shelf
attribute [local go_sem] Oper.semAt_some

set_option maxHeartbeats 2000000 in
set_option maxRecDepth 100000 in
theorem writeStr_k (B b : Nat) (s x : BA) (w : World) (h : Lib.IsBuilder 80 5 B b (Lib.strCells s) w) (hlen : s.size + x.size ≤ 140737488355328) (hBw : B ≤ w.heap.size) :
    Calls Try.prog 64 #[.pointer (some ⟨b, 0, none⟩), .string x] w fun e w' => e = .returned (.tuple #[.int .i64 x.size, .nilIface]) ∧ (Lib.IsBuilder 80 5 B b (Lib.strCells (s ++ x)) w' ∧ Below B w w' ∧ Kept b w w' ∧ KeepsOthers w w') := by
  obtain ⟨i0, hi, hz0, hz1, hz2⟩ := info_parts Cd.info5'
  rw [strCells_app]
  go_enter Try.func64, Try.ntmps64
  have cc : Calls Try.prog 79 #[.pointer (some ⟨b, 0, none⟩)] w fun e w' => e = .returned (.tuple #[]) ∧ (Lib.BuilderAt 80 5 B b (.pointer (some ⟨b, 0, none⟩)) (Lib.strCells s) w' ∧ Below B w w' ∧ Kept b w w' ∧ KeepsOthers w w') := by
    rcases h with h | h
    · refine (Cd.copyCheck_fresh b w h.cell0 h.shape h.frozen0).mono ?_
      rintro e w' ⟨rfl, rfl⟩
      exact ⟨rfl, h.used _, (Below.refl B w).setCell (p := ⟨b, 0, none⟩) h.1 _, fun j cs T hj _ hne => (Below.heap_setCell w ⟨b, 0, none⟩ _ j hne).trans hj, KeepsOthers.setCell _ _ _⟩
    · refine (Cd.copyCheck_used b w h.cell0).mono ?_
      rintro e w' ⟨rfl, rfl⟩
      exact ⟨rfl, h, Below.refl B _, fun j cs T hj _ _ => hj, KeepsOthers.refl _⟩
  go_wp2_with (go_at_call 79; refine cc.mono ?_)
  rintro e w1 ⟨rfl, h1, hb1, k1, o1⟩
  obtain ⟨hB, v, hbk, hown, hne⟩ := h1
  have c0 : w1.cell? ⟨b, 0, none⟩ = some (.pointer (some ⟨b, 0, none⟩)) := by rw [Lib.cell_of_heap hbk]; rfl
  have c1 : w1.cell? ⟨b, 1, none⟩ = some v := by rw [Lib.cell_of_heap hbk]; rfl
  have hK1 := Lib.hid k1
  have hO1 := Lib.hid o1
  clear k1 cc o1
  go_wp2_with (at_builtin; refine Lib.wpList_append_own_string _ rfl _ _ 78 9 rfl B 5 i0 Try.underlying78 Try.underlying9 hi hz0 hz1 hz2 _ _ _ rfl hown x rfl ?c3 ?c4 ?c5 ?_)
  case c3 => rw [Lib.strCells_length]; unfold maxLen; omega
  case c4 => rw [Lib.strCells_length]; omega
  case c5 => have := hb1.size; omega
  intro v' w2 hown' hgrow _
  have hb2 : w2.heap[b]? = some (.cells #[.pointer (some ⟨b, 0, none⟩), v] 80 (0, 0)) := by
    rw [hgrow.block b (lt_of_block hbk) (fun e => hne e.symm)]
    exact hbk
  have d0 : w2.cell? ⟨b, 0, none⟩ = some (.pointer (some ⟨b, 0, none⟩)) := by rw [Lib.cell_of_heap hb2]; rfl
  have d1 : w2.cell? ⟨b, 1, none⟩ = some v := by rw [Lib.cell_of_heap hb2]; rfl
  have f1 : w2.frozen? ⟨b, 1, none⟩ = false := Lib.frozen_of_heap hb2 1
  have K2 : Hid (∀ u, Kept b w (w2.setCell ⟨b, 1, none⟩ u)) := Lib.hid fun u j cs T hj hT hjb => by
    have h1 := hK1.out j cs T hj hT hjb
    refine (Below.heap_setCell w2 ⟨b, 1, none⟩ u j hjb).trans ?_
    rw [hgrow.block j (lt_of_block h1) (fun e => Lib.ownBlock_ne hown h1 hT e.symm)]
    exact h1
  have K3 : Hid (∀ u, KeepsOthers w (w2.setCell ⟨b, 1, none⟩ u)) := Lib.hid fun u => by
    refine (hO1.out.trans (KeepsOthers.of_grownBy hgrow fun j o ej hj => ?_)).trans (KeepsOthers.setCell _ _ _)
    rcases hown.2 with ⟨rfl, _⟩ | ⟨g, cap, cur, rfl, _, hgb, _⟩
    · simp [Value.ownBlock] at ej
    · obtain rfl : g = j := by simpa [Value.ownBlock] using ej
      rw [hgb] at hj; cases hj; rfl
  obtain ⟨ao, n', cap, rfl⟩ : ∃ ao n' cap, v' = .slice ao n' cap := by
    rcases hown'.2 with ⟨hv, _⟩ | ⟨g, cap, cur, hv, _⟩
    · exact ⟨_, _, _, hv⟩
    · exact ⟨_, _, _, hv⟩
  go_wp2
  go_ret2
  refine ⟨rfl, .inr ?_, ?_, K2.out _, K3.out _⟩
  · exact Lib.BuilderAt.put (T := 80) (e := 5) hB hb2 (bs' := Lib.strCells s ++ Lib.strCells x) (by simpa [Lib.strCells_length] using hown') (by decide)
  · exact (hb1.grown hgrow (by have := hb1.size; omega) (fun k hk => (hown.lt k hk).1)).setCell (p := ⟨b, 1, none⟩) hB _

/-- Texts one after the other. -/
def catS (xs : List Sm4) : BA := xs.foldl (fun a x => a ++ x.1) ⟨#[]⟩
theorem catS_snoc (xs : List Sm4) (x : Sm4) : catS (xs ++ [x]) = catS xs ++ x.1 := by simp [catS]
theorem catS_le (xs : List Sm4) : (catS xs).size ≤ 70000 * xs.length := by
  suffices h : ∀ a : BA, (xs.foldl (fun a x => a ++ x.1) a).size ≤ a.size + 70000 * xs.length by
    have := h ⟨#[]⟩
    have e : (⟨#[]⟩ : BA).size = 0 := rfl
    rw [e, Nat.zero_add] at this
    exact this
  induction xs with
  | nil => intro a; simp
  | cons x t ih =>
    intro a
    have h1 := ih (a ++ x.1)
    have h2 := x.2
    simp only [List.foldl_cons, List.length_cons]
    rw [ByteArray.size_append] at h1
    omega
theorem catS_fld (xs : List Sm4) (r : Rec) (h : xs.map Subtype.val = fldL r) : catS xs = recS r := by
  have e : catS xs = (xs.map Subtype.val).foldl (fun a x => a ++ x) ⟨#[]⟩ := by unfold catS; rw [List.foldl_map]
  rw [e, h]
  unfold fldL recS
  simp only [List.foldl_cons, List.foldl_nil]
  have : ∀ s : BA, (⟨#[]⟩ : BA) ++ s = s := fun s => by
    apply ByteArray.ext
    simp [ByteArray.data_append]
  rw [this]
theorem builder_grown {N B b : Nat} {bs : List Value} {X Y : World} {row : Option Nat} (h : Lib.IsBuilder 80 5 B b bs X) (hg : X.grownBy Y row) (hr : ∀ r, row = some r → N ≤ r ∧ ∃ o : Obj, X.heap[r]? = some o ∧ o.isCells = false) : Lib.IsBuilder 80 5 B b bs Y := by
  have at_ : ∀ p, Lib.BuilderAt 80 5 B b p bs X → Lib.BuilderAt 80 5 B b p bs Y := by
    rintro p ⟨h1, v, h2, h3, h4⟩
    refine ⟨h1, v, ?_, h3.kept hg ?_, h4⟩
    · rw [hg.block b (lt_of_block h2) (fun e => ?_)]
      · exact h2
      · obtain ⟨_, o, ho, hc⟩ := hr b e.symm
        rw [h2] at ho; cases ho; cases hc
    · rcases h3.2 with ⟨rfl, _⟩ | ⟨g, cap, cur, rfl, _, hgb, _⟩
      · exact .inl rfl
      · refine .inr fun e => ?_
        obtain ⟨_, o, ho', hc⟩ := hr g (by simpa [Value.ownBlock] using e.symm)
        rw [hgb] at ho'; cases ho'; cases hc
  exact h.imp (at_ _) (at_ _)

theorem bldStr_k (B b : Nat) (s : BA) (w : World) (h : Lib.IsBuilder 80 5 B b (Lib.strCells s) w) (hBw : B ≤ w.heap.size) :
    Calls Try.prog 65 #[.pointer (some ⟨b, 0, none⟩)] w fun e w' => e = .returned (.string s) ∧ Below B w w' ∧ Lib.OthersKept 5 (some b) w w' := by
  refine (Try.Builder_String_any_k B b s.data.toList w (Lib.IsBuilderF.of h) hBw).mono ?_
  rintro e w' ⟨rfl, _, hb, hk⟩
  exact ⟨rfl, hb, hk⟩

/-- What the Builder holds between two rounds; the result's cells. -/
structure Bd (w : World) (pre : List Sm4) (W : World) : Prop where
  bu : Lib.IsBuilder 80 5 (w.heap.size + 2) (w.heap.size + 2) (Lib.strCells (catS pre)) W
  b : Below w.heap.size w W
  r : W.heap[w.heap.size + 1]? = some (.cells #[.int .u64 0, .int .u64 0] 40 (0, 0))
  z : w.heap.size + 4 ≤ W.heap.size
theorem Bd.rel {w A B : World} {pre : List Sm4} (h : Bd w pre A) (hr : RelF A B) : Bd w pre B :=
  ⟨Cd.builder_below h.bu hr, h.b.trans (hr.mono h.b.size), (hr.block _ (lt_of_block h.r)).trans h.r, Nat.le_trans h.z hr.size⟩
theorem bd_own (w : World) (N : Nat) (hN : w.heap.size + 4 ≤ N) : OwnFrom N (Bd w) := by
  intro s X Y row hs hg hr
  refine ⟨builder_grown hs.bu hg hr, hs.b.grown hg hs.b.size (fun k e => by have := (hr k e).1; omega), ?_, Nat.le_trans hs.z hg.size⟩
  rw [hg.block _ (lt_of_block hs.r) (fun e => by have := (hr _ e.symm).1; omega)]
  exact hs.r
theorem Bd.put {w W W' : World} {pre : List Sm4} {x : Sm4} (h : Bd w pre W) (hu : Lib.IsBuilder 80 5 (w.heap.size + 2) (w.heap.size + 2) (Lib.strCells (catS pre ++ x.1)) W') (hb : Below (w.heap.size + 2) W W') : Bd w (pre ++ [x]) W' :=
  ⟨by rw [catS_snoc]; exact hu, h.b.trans (hb.mono (by omega)), (hb.block _ (by omega)).trans h.r, Nat.le_trans h.z hb.size⟩

set_option maxRecDepth 100000 in
set_option maxHeartbeats 2000000 in
theorem digestOf_any (r : Rec) (w : World) (hok : okR r = true) :
    Calls Try.prog 43 #[rv r] w fun e w' => e = .returned (.agg #[.int .u64 (of0 (recS r).data.toList), .int .u64 (of1 (recS r).data.toList)]) ∧ Below w.heap.size w w' := by
  refine (callsIn_wide (n := 4)).1 ?_
  have hle := recS_le hok
  have HE := Lib.hid fun (xs : List Sm4) (h : xs.map Subtype.val = fldL r) => catS_fld xs r h
  have HO := Lib.hid fun W => of_any (recS r) W (by unfold maxLen; omega)
  have HF := Lib.hid fun W => fields_any r W
  have HI := Lib.hid fun b br W => fields1_in 3 (by omega) r hok b br W
  generalize recS r = S at *
  generalize of0 S.data.toList = d0 at *
  generalize of1 S.data.toList = d1 at *
  obtain ⟨t, n1, n2, n3⟩ := r
  clear hok
  refine callsIn_of_wp_marks Try.func43 rfl trivial ?_ rfl
  simp only [Try.ntmps43, List.size_toArray, List.length_cons, List.length_nil, Nat.reduceAdd, Nat.reduceSub, Array.replicate_succ, Array.replicate_zero, List.push_toArray, List.append_toArray, List.nil_append, List.cons_append]
  gi_wp2
  refine ⟨trivial, (callsIn_wide.2 (HF.out _)).mono ?_⟩
  rintro e w1 ⟨rfl, hw1⟩
  have start : Bd w [] w1 := by
    have f0 := Lib.fresh_isBuilder 80 5 ((w.alloc (rc ⟨t, n1, n2, n3⟩)).alloc (.cells #[.int .u64 0, .int .u64 0] 40))
    rw [World.size_alloc, World.size_alloc] at f0
    have r0 := World.alloc_heap_new (w.alloc (rc ⟨t, n1, n2, n3⟩)) (.cells #[.int .u64 0, .int .u64 0] 40)
    rw [World.size_alloc] at r0
    have f1 := Cd.builder_below f0 ((Below.refl _ _).alloc (Nat.le_refl _) (rc ⟨t, n1, n2, n3⟩))
    rw [hw1]
    exact ⟨f1, bla (bla (bla (bla (Below.refl _ _) _) _) _) _, (Below.heap_alloc _ _ _ (by simp)).trans ((Below.heap_alloc _ _ _ (by simp)).trans r0), by simp⟩
  have hbr : w1.heap[w.heap.size + 1 + 1 + 1]? = some (.cells #[.int .i64 t, .string n1, .string n2, .string n3] 26 (0, 0)) := by
    have := World.alloc_heap_new (((w.alloc (rc ⟨t, n1, n2, n3⟩)).alloc (.cells #[.int .u64 0, .int .u64 0] 40)).alloc (.cells #[.pointer none, .slice none 0 0] 80)) (rc ⟨t, n1, n2, n3⟩)
    rw [World.size_alloc, World.size_alloc, World.size_alloc] at this
    rw [hw1]; exact this
  have hz1 : w1.heap.size = w.heap.size + 4 := by rw [hw1]; simp
  clear hw1
  simp only [World.size_alloc]
  gi_wp2
  refine Cd.rangeFunc_rel rfl (by omega) (gf := 76) (lb := #[.pointer (some ⟨w.heap.size + 1 + 1 + 1, 0, none⟩)]) rfl trivial (enters_of Try.func76 (by kernel_rfl) rfl)
    (HI.out (w.heap.size + 2) (w.heap.size + 1 + 1 + 1) w1 (by omega) hbr)
    (fun h k => ⟨Nat.le_trans h.1 k.1, fun j cs T hj hT hne => k.2 j cs T (h.2 j cs T hj hT hne) hT hne⟩)
    (fun W l o o' _ ho hc _ => ⟨by simp [World.putObj], fun j cs T hj _ _ => by
      by_cases e : j = l
      · subst e; rw [hj] at ho; cases ho; cases hc
      · exact (World.putObj_heap_other e).trans hj⟩)
    (fun A B k o _ _ hk hr => (hr.block k (Array.getElem?_eq_some_iff.1 hk).1).trans hk)
    (Below.refl _ _) (fun _ => rfl)
    (Bd w) (fun _ _ _ => False) (bd_own w _ (by omega)) (fun _ _ _ _ _ hs _ _ => hs.elim) (fun s A B h hr => h.rel hr) (fun _ _ _ _ h _ => h.elim)
    start
    (fun x => { tmps := #[rv ⟨t, n1, n2, n3⟩, .pointer (some ⟨w.heap.size, 0, none⟩), .pointer (some ⟨w.heap.size + 1, 0, none⟩), .pointer (some ⟨w.heap.size + 1 + 1, 0, none⟩), .string x.1,
        rv ⟨t, n1, n2, n3⟩, .func (.func 76) #[] #[.pointer (some ⟨w.heap.size + 1 + 1 + 1, 0, none⟩)], .string x.1, undef, undef, undef, undef], defers := [] }) ?assign ?body ?done ?stop
  case assign =>
    intro l x W K hK
    gi_wp2
    exact hK
  case body =>
    rintro l pre x W hB hlen2
    have h1 := catS_le pre
    have h2 := x.2
    have HW : Hid (∀ s, s = x.1 → CallsIn (Fence.wide.inRound l) 1 Try.prog 64 #[.pointer (some ⟨w.heap.size + 1 + 1, 0, none⟩), .string s] W fun e w' => e = .returned (.tuple #[.int .i64 s.size, .nilIface]) ∧ (Bd w (pre ++ [x]) w' ∧ KpF (w.heap.size + 2) W w' ∧ KeepsOthers W w')) := Lib.hid fun s hs => by
      subst hs
      refine (CallsIn.inRound l (callsIn_wide.2 (writeStr_k (w.heap.size + 2) (w.heap.size + 2) (catS pre) x.1 W hB.bu (by omega) (by have := hB.z; omega)))).mono ?_
      rintro e w' ⟨rfl, a1, a2, a3, a4⟩
      exact ⟨rfl, hB.put a1 a2, ⟨a2.size, a3⟩, a4⟩
    clear hB h1 h2
    obtain ⟨s, hs⟩ : ∃ s, s = x.1 := ⟨_, rfl⟩
    have HS := Lib.hid hs
    rw [← hs]
    clear hs
    gi_wp2
    refine ⟨trivial, (HW.out s HS.out).mono ?_⟩
    rintro e w' ⟨rfl, a1, a2, a3⟩
    gi_wp2
    exact ⟨a3.from _, a2, a1⟩
  case done =>
    rintro D xs W hD hxs hB hK
    have hcat := HE.out xs hxs
    have hBu := hB.bu
    rw [hcat] at hBu
    have HB := Lib.hid hB
    have HBu := Lib.hid hBu
    have HKd := Lib.hid hK
    clear hB hBu hxs hcat hK
    gi_wp2
    refine ⟨trivial, (callsIn_wide.2 (bldStr_k (w.heap.size + 2) (w.heap.size + 2) S W HBu.out (by have := HB.out.z; omega))).mono ?_⟩
    rintro e w2 ⟨rfl, b2, k2⟩
    gi_wp2
    refine ⟨trivial, (callsIn_wide.2 (HO.out _)).mono ?_⟩
    rintro e w3 ⟨rfl, b3⟩
    have hr3 : w3.heap[w.heap.size + 1]? = some (.cells #[.int .u64 0, .int .u64 0] 40 (0, 0)) := (b3.block _ (by have := HB.out.z; have := b2.size; omega)).trans ((b2.block _ (by omega)).trans HB.out.r)
    have hK3 : w3.heap[D]? = some (.deferred (some [])) := by
      have h2 := k2 D _ HKd.out (by intro e; cases e; have := HBu.out; rcases this with h | h <;> (obtain ⟨_, v, h2, _⟩ := h; rw [HKd.out] at h2; cases h2)) (fun c fz h => by cases h)
      exact (b3.block D (Array.getElem?_eq_some_iff.1 h2).1).trans h2
    have c0 : w3.cell? ⟨w.heap.size + 1, 0, none⟩ = some (.int .u64 0) := by rw [Lib.cell_of_heap hr3]; rfl
    have c1 : w3.cell? ⟨w.heap.size + 1, 1, none⟩ = some (.int .u64 0) := by rw [Lib.cell_of_heap hr3]; rfl
    have f0 := Lib.frozen_of_heap hr3 0
    have f1 := Lib.frozen_of_heap hr3 1
    have hbAll : Below w.heap.size w w3 := HB.out.b.trans ((b2.mono (by omega)).trans (b3.mono (by have := HB.out.z; have := b2.size; omega)))
    gi_wp2
    have hb4 : Below w.heap.size w ((w3.setCell ⟨w.heap.size + 1, 0, none⟩ (.int .u64 d0)).setCell ⟨w.heap.size + 1, 1, none⟩ (.int .u64 d1)) := (hbAll.setCell (p := ⟨w.heap.size + 1, 0, none⟩) (Nat.le_succ _) _).setCell (p := ⟨w.heap.size + 1, 1, none⟩) (Nat.le_succ _) _
    have hK4 : ((w3.setCell ⟨w.heap.size + 1, 0, none⟩ (.int .u64 d0)).setCell ⟨w.heap.size + 1, 1, none⟩ (.int .u64 d1)).heap[D]? = some (.deferred (some [])) :=
      (Below.heap_setCell _ ⟨w.heap.size + 1, 1, none⟩ _ D (by show D ≠ w.heap.size + 1; omega)).trans ((Below.heap_setCell _ ⟨w.heap.size + 1, 0, none⟩ _ D (by show D ≠ w.heap.size + 1; omega)).trans hK3)
    have q0 : ((w3.setCell ⟨w.heap.size + 1, 0, none⟩ (.int .u64 d0)).setCell ⟨w.heap.size + 1, 1, none⟩ (.int .u64 d1)).cell? ⟨w.heap.size + 1, 0, none⟩ = some (.int .u64 d0) := by go_simp
    have q1 : ((w3.setCell ⟨w.heap.size + 1, 0, none⟩ (.int .u64 d0)).setCell ⟨w.heap.size + 1, 1, none⟩ (.int .u64 d1)).cell? ⟨w.heap.size + 1, 1, none⟩ = some (.int .u64 d1) := by go_simp
    generalize (w3.setCell ⟨w.heap.size + 1, 0, none⟩ (.int .u64 d0)).setCell ⟨w.heap.size + 1, 1, none⟩ (.int .u64 d1) = W4 at *
    refine ⟨by simp, .inl ⟨_, _, rfl, run_takeDeferred hK4, ?_⟩⟩
    have hne : ∀ o, (W4.putObj D (.deferred none)).cell? ⟨w.heap.size + 1, o, none⟩ = W4.cell? ⟨w.heap.size + 1, o, none⟩ := fun o => World.cell?_of_block (World.putObj_heap_other (by show w.heap.size + 1 ≠ D; omega))
    exact ⟨_, by simp [results, Try.f43, go_sem, hne, q0, q1], rfl, hb4.trans (belowK_b (w := w) (Nat.le_refl _) W4 D _ _ (by omega) hK4 rfl rfl)⟩
  case stop =>
    rintro D c pre W _ _ h _
    exact h.elim
end Go.Proofs.Ytfheflihofafdaa
