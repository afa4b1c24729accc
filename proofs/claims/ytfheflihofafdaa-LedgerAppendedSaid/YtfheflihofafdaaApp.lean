/- ledger.Append and the reference's, at this translation. -/
import Derived.Test.YtfheflihofafdaaHolds
import Derived.Test.YtfheflihofafdaaSame
import Derived.StillTailTactics
import Derived.Deep.RegionLawGrows
namespace Go.Proofs.Ytfheflihofafdaa
open Go.RowKit Go.Great Pt Tr

set_option maxHeartbeats 1000000 in
theorem clip_any (a : Option Addr) (n c : Nat) (_hn : n ≤ maxLen) (hc : n ≤ c) (w : World) :
    Calls Try.prog 32 #[.slice a n c] w fun e w' => e = .returned (.slice a n n) ∧ w' = w := by
  unfold maxLen at _hn
  go_enter Try.func32, Try.ntmps32
  go_wp2
  go_ret
  exact ⟨rfl, rfl⟩

/-- Why a record cannot be appended. -/
def appE (L : List Rec) (r : Rec) : Int := if chkL L ≠ 0 then chkL L else if okR r = false then 1 else if r.time < prvT L L.length then 10 else 0
def appL (L : List Rec) (r : Rec) : List Rec := if appE L r = 0 then L ++ [r] else []
/-- The three boxes. -/
structure Ab (w : World) (a : Option Addr) (n c : Nat) (t : Int) (n1 n2 n3 : BA) (W : World) : Prop where
  c0 : W.heap[w.heap.size]? = some (.cells #[.slice a n c] 24 (0, 0))
  c1 : W.heap[w.heap.size + 1]? = some (.cells #[.int .i64 t, .string n1, .string n2, .string n3] 26 (0, 0))
  c2 : W.heap[w.heap.size + 2]? = some (.cells #[.slice none 0 0] 24 (0, 0))
  b : Below w.heap.size w W
theorem Ab.on {w : World} {a : Option Addr} {n c : Nat} {t : Int} {n1 n2 n3 : BA} {W W' : World} (h : Ab w a n c t n1 n2 n3 W) (hB : Below W.heap.size W W') : Ab w a n c t n1 n2 n3 W' :=
  ⟨(hB.block _ (lt_of_block h.c0)).trans h.c0, (hB.block _ (lt_of_block h.c1)).trans h.c1, (hB.block _ (lt_of_block h.c2)).trans h.c2, bl h.b hB⟩
theorem Ab.at {w : World} {a : Option Addr} {n c : Nat} {t : Int} {n1 n2 n3 : BA} {W : World} (h : Ab w a n c t n1 n2 n3 W) :
    W.cell? ⟨w.heap.size, 0, none⟩ = some (.slice a n c) ∧ W.cell? ⟨w.heap.size + 1, 0, none⟩ = some (.int .i64 t) ∧ W.cell? ⟨w.heap.size + 1, 1, none⟩ = some (.string n1) ∧ W.cell? ⟨w.heap.size + 1, 2, none⟩ = some (.string n2) ∧ W.cell? ⟨w.heap.size + 1, 3, none⟩ = some (.string n3) ∧
      W.cell? ⟨w.heap.size + 1 + 1, 0, none⟩ = some (.slice none 0 0) ∧ W.frozen? ⟨w.heap.size + 1 + 1, 0, none⟩ = false := by
  refine ⟨?_, ?_, ?_, ?_, ?_, ?_, Lib.frozen_of_heap h.c2 0⟩
  · rw [Lib.cell_of_heap h.c0]; rfl
  · rw [Lib.cell_of_heap h.c1]; rfl
  · rw [Lib.cell_of_heap h.c1]; rfl
  · rw [Lib.cell_of_heap h.c1]; rfl
  · rw [Lib.cell_of_heap h.c1]; rfl
  · rw [Lib.cell_of_heap h.c2]; rfl
theorem ab_start (w : World) (a : Option Addr) (n c : Nat) (t : Int) (n1 n2 n3 : BA) :
    Ab w a n c t n1 n2 n3 (((w.alloc (.cells #[.slice a n c] 24)).alloc (.cells #[.int .i64 t, .string n1, .string n2, .string n3] 26)).alloc (.cells #[.slice none 0 0] 24)) := by
  have a0 := World.alloc_heap_new w (.cells #[.slice a n c] 24)
  have a1 := World.alloc_heap_new (w.alloc (.cells #[.slice a n c] 24)) (.cells #[.int .i64 t, .string n1, .string n2, .string n3] 26)
  have a2 := World.alloc_heap_new ((w.alloc (.cells #[.slice a n c] 24)).alloc (.cells #[.int .i64 t, .string n1, .string n2, .string n3] 26)) (.cells #[.slice none 0 0] 24)
  rw [World.size_alloc] at a1
  rw [World.size_alloc, World.size_alloc] at a2
  exact ⟨(Below.heap_alloc _ _ _ (by simp; omega)).trans ((Below.heap_alloc _ _ _ (by simp)).trans a0), (Below.heap_alloc _ _ _ (by simp)).trans a1, a2, bla (bla (bla (Below.refl _ _) _) _) _⟩

set_option maxRecDepth 100000 in
set_option maxHeartbeats 4000000 in
theorem app_chk (a : Option Addr) (n c : Nat) (t e0 : Int) (n1 n2 n3 : BA) (w : World) (h0 : e0 ≠ 0)
    (KC : ∀ W, Below w.heap.size w W → Calls Try.prog 14 #[.agg #[.slice a n c]] W fun e w' => e = .returned (.int .i64 e0) ∧ Below W.heap.size W w') :
    Calls Try.prog 12 #[.agg #[.slice a n c], rv ⟨t, n1, n2, n3⟩] w fun e w' => e = .returned (.tuple #[.agg #[.slice none 0 0], .int .i64 e0]) ∧ Below w.heap.size w w' := by
  have HC := Lib.hid KC
  have st := Lib.hid (ab_start w a n c t n1 n2 n3)
  have hne : (e0 != 0) = true := by simpa using h0
  clear KC h0
  go_enter Try.func12, Try.ntmps12
  go_wp2_with fail
  ((with_reducible refine (HC.out _ st.out.b).mono ?_); rintro e w1 ⟨rfl, hb⟩)
  have H1 := Lib.hid (st.out.on hb)
  clear hb
  obtain ⟨q0, q1, q2, q3, q4, q5, f5⟩ := H1.out.at
  have hb := H1.out.b.setCell (p := ⟨w.heap.size + 1 + 1, 0, none⟩) (by simp; omega) (.slice none 0 0)
  go_wp2
  exact bodyPost_ret (v := .tuple #[.agg #[.slice none 0 0], .int .i64 e0]) (by simp [results, Try.results12, go_sem, q5]) rfl ⟨rfl, hb⟩

set_option maxRecDepth 100000 in
set_option maxHeartbeats 4000000 in
theorem app_bad (a : Option Addr) (n c : Nat) (t : Int) (n1 n2 n3 : BA) (w : World)
    (KC : ∀ W, Below w.heap.size w W → Calls Try.prog 14 #[.agg #[.slice a n c]] W fun e w' => e = .returned (.int .i64 0) ∧ Below W.heap.size W w')
    (KV : ∀ W, Calls Try.prog 31 #[rv ⟨t, n1, n2, n3⟩] W fun e w' => e = .returned (.bool false) ∧ Below W.heap.size W w') :
    Calls Try.prog 12 #[.agg #[.slice a n c], rv ⟨t, n1, n2, n3⟩] w fun e w' => e = .returned (.tuple #[.agg #[.slice none 0 0], .int .i64 1]) ∧ Below w.heap.size w w' := by
  have HC := Lib.hid KC
  have HV := Lib.hid KV
  have st := Lib.hid (ab_start w a n c t n1 n2 n3)
  clear KC KV
  go_enter Try.func12, Try.ntmps12
  go_wp2_with fail
  ((with_reducible refine (HC.out _ st.out.b).mono ?_); rintro e w1 ⟨rfl, hb⟩)
  have H1 := Lib.hid (st.out.on hb)
  clear hb
  obtain ⟨q0, q1, q2, q3, q4, q5, f5⟩ := H1.out.at
  go_wp2_with fail
  ((with_reducible refine (HV.out _).mono ?_); rintro e w2 ⟨rfl, hb⟩)
  clear q0 q1 q2 q3 q4 q5 f5
  have H2 := Lib.hid (H1.out.on hb)
  clear hb
  obtain ⟨q0, q1, q2, q3, q4, q5, f5⟩ := H2.out.at
  have hb := H2.out.b.setCell (p := ⟨w.heap.size + 1 + 1, 0, none⟩) (by simp; omega) (.slice none 0 0)
  go_wp2
  exact bodyPost_ret (v := .tuple #[.agg #[.slice none 0 0], .int .i64 1]) (by simp [results, Try.results12, go_sem, q5]) rfl ⟨rfl, hb⟩

set_option maxRecDepth 100000 in
set_option maxHeartbeats 4000000 in
theorem app_ord (b off n c : Nat) (t last : Int) (n1 n2 n3 : BA) (w : World) (hn : n ≤ 10000) (h1 : 0 < n) (hc : n ≤ c) (hlast : ∀ W, Below w.heap.size w W → W.cell? ⟨b, off + (n - 1) * 4, none⟩ = some (.int .i64 last)) (hlt : t < last)
    (KC : ∀ W, Below w.heap.size w W → Calls Try.prog 14 #[.agg #[.slice (some ⟨b, off, none⟩) n c]] W fun e w' => e = .returned (.int .i64 0) ∧ Below W.heap.size W w')
    (KV : ∀ W, Calls Try.prog 31 #[rv ⟨t, n1, n2, n3⟩] W fun e w' => e = .returned (.bool true) ∧ Below W.heap.size W w') :
    Calls Try.prog 12 #[.agg #[.slice (some ⟨b, off, none⟩) n c], rv ⟨t, n1, n2, n3⟩] w fun e w' => e = .returned (.tuple #[.agg #[.slice none 0 0], .int .i64 10]) ∧ Below w.heap.size w w' := by
  have HC := Lib.hid KC
  have HV := Lib.hid KV
  have HL := Lib.hid hlast
  have st := Lib.hid (ab_start w (some ⟨b, off, none⟩) n c t n1 n2 n3)
  obtain ⟨k, rfl⟩ : ∃ k, n = k + 1 := ⟨n - 1, by omega⟩
  clear KC KV hlast h1
  go_enter Try.func12, Try.ntmps12
  go_wp2_with fail
  ((with_reducible refine (HC.out _ st.out.b).mono ?_); rintro e w1 ⟨rfl, hb⟩)
  have H1 := Lib.hid (st.out.on hb)
  clear hb
  obtain ⟨q0, q1, q2, q3, q4, q5, f5⟩ := H1.out.at
  go_wp2_with fail
  ((with_reducible refine (HV.out _).mono ?_); rintro e w2 ⟨rfl, hb⟩)
  clear q0 q1 q2 q3 q4 q5 f5
  have H2 := Lib.hid (H1.out.on hb)
  clear hb
  obtain ⟨q0, q1, q2, q3, q4, q5, f5⟩ := H2.out.at
  have qL := HL.out _ H2.out.b
  rw [Nat.add_sub_cancel] at qL
  have hs1 : IntKind.i64.wrap (((k + 1 : Nat) : Int) - 1) = (k : Int) := by rw [IntWalk.i64_in _ (by omega)]; omega
  have hg : decide ((0 : Int) < ((k + 1 : Nat) : Int)) = true := by simp
  have hlt2 : decide (t < last) = true := by simpa using hlt
  go_wp2
  go_quiet (fail)
  go_wp2
  have hb := (blN H2.out.b nq).setCell (p := ⟨w.heap.size + 1 + 1, 0, none⟩) (by simp; omega) (.slice none 0 0)
  exact bodyPost_ret (v := .tuple #[.agg #[.slice none 0 0], .int .i64 10]) (by simp [results, Try.results12, go_sem, q5]) rfl ⟨rfl, hb⟩

/-- The cells of records. -/
def recCells (L : List Rec) : List Value := L.flatMap fun r => [.int .i64 r.time, .string r.who, .string r.what, .string r.data]
theorem recCells_snoc (L : List Rec) (r : Rec) : recCells L ++ [.int .i64 r.time, .string r.who, .string r.what, .string r.data] = recCells (L ++ [r]) := by simp [recCells]
theorem recCells_length (L : List Rec) : (recCells L).length = L.length * 4 := by
  induction L with
  | nil => rfl
  | cons e L ih => simp only [recCells, List.flatMap_cons, List.length_append, List.length_cons, List.length_nil] at ih ⊢; omega
theorem recCells_at (L : List Rec) (j : Nat) (h : j < L.length) : (recCells L)[j * 4]? = some (.int .i64 L[j].time) ∧ (recCells L)[j * 4 + 1]? = some (.string L[j].who) ∧ (recCells L)[j * 4 + 2]? = some (.string L[j].what) ∧ (recCells L)[j * 4 + 3]? = some (.string L[j].data) := by
  induction L generalizing j with
  | nil => simp at h
  | cons e L ih =>
    cases j with
    | zero => simp [recCells]
    | succ j =>
      have := ih j (by simpa using h)
      simp only [recCells, List.flatMap_cons] at this ⊢
      rw [show (j + 1) * 4 = j * 4 + 1 + 1 + 1 + 1 by omega]
      simpa using this
theorem own_recs {w : World} {B m : Nat} {v : Value} {L : List Rec} (h : w.ownsRow B 26 4 v m (recCells L)) (hm : L.length = m) (hl : m ≤ maxLen) : IsRecs w v L := by
  subst hm
  have h0 := h
  obtain ⟨_, ⟨rfl, e⟩ | ⟨g, cap, cur, rfl, hb, hcur, hn, hcap, hsz, _⟩⟩ := h
  · rw [List.length_eq_zero_iff.1 e]; exact isRecs_nil w
  · refine ⟨_, cap, rfl, hl, hn, .inr ⟨g, 0, rfl, (Array.getElem?_eq_some_iff.1 hcur).1, fun j hj => ?_⟩⟩
    have c0 := h0.cellAt (j * 4) (by omega)
    have c1 := h0.cellAt (j * 4 + 1) (by omega)
    have c2 := h0.cellAt (j * 4 + 2) (by omega)
    have c3 := h0.cellAt (j * 4 + 3) (by omega)
    unfold RecAt
    rw [Nat.zero_add, c0, c1, c2, c3]
    exact recCells_at L j hj
theorem recs_lie {w : World} {b : Nat} : ∀ (L : List Rec) (off : Nat), (∀ q (h : q < L.length), RecAt w b (off + q * 4) L[q]) → ∀ j u, (recCells L)[j]? = some u → w.cell? ⟨b, off + j, none⟩ = some u
  | [], _, _, j, u, h => by simp [recCells] at h
  | x :: L, off, hc, j, u, h => by
    have h0 := hc 0 (by simp)
    simp only [Nat.zero_mul, Nat.add_zero, List.getElem_cons_zero] at h0
    have e : recCells (x :: L) = .int .i64 x.time :: .string x.who :: .string x.what :: .string x.data :: recCells L := by simp [recCells]
    rw [e] at h
    match j, h with
    | 0, h => simp at h; subst h; exact h0.1
    | 1, h => simp at h; subst h; exact h0.2.1
    | 2, h => simp at h; subst h; exact h0.2.2.1
    | 3, h => simp at h; subst h; exact h0.2.2.2
    | j + 4, h =>
      have := recs_lie L (off + 4) (fun q hq => by
        have := hc (q + 1) (by simpa using hq)
        rw [show off + (q + 1) * 4 = off + 4 + q * 4 by omega] at this
        simpa using this) j u (by simpa using h)
      rw [show off + (j + 4) = off + 4 + j by omega]
      exact this
theorem recs_lies {w : World} {a : Option Addr} {L : List Rec} (h : L = [] ∨ ∃ b off, a = some ⟨b, off, none⟩ ∧ b < w.heap.size ∧ ∀ j (h : j < L.length), RecAt w b (off + j * 4) L[j]) :
    ∀ b, a = some b → ∀ j u, (recCells L)[j]? = some u → w.cell? (b.add j) = some u := by
  rintro ad rfl j u hu
  rcases h with rfl | ⟨b, off, e, _, hc⟩
  · simp [recCells] at hu
  · cases e
    have := recs_lie L off hc j u hu
    unfold Addr.add
    split
    · rename_i e; subst e; simpa using this
    · exact this
theorem four_rec (W : World) (t : Int) (n1 n2 n3 : BA) (T : TypeId) : ∀ j u, [Value.int .i64 t, .string n1, .string n2, .string n3][j]? = some u → (W.alloc (.cells #[.int .i64 t, .string n1, .string n2, .string n3] T)).cell? ((⟨W.heap.size, 0, none⟩ : Addr).add j) = some u := by
  intro j u h
  match j, h with
  | 0, h => simpa [Addr.add, World.cell?_alloc_new] using h
  | 1, h => simpa [Addr.add, World.cell?_alloc_new] using h
  | 2, h => simpa [Addr.add, World.cell?_alloc_new] using h
  | 3, h => simpa [Addr.add, World.cell?_alloc_new] using h
  | j + 4, h => simp at h
theorem rec_one (t : Int) (n1 n2 n3 : BA) : ∀ u ∈ [Value.int .i64 t, .string n1, .string n2, .string n3], u.oneCell' = true := by
  intro u hu
  simp only [List.mem_cons, List.not_mem_nil, or_false] at hu
  rcases hu with rfl | rfl | rfl | rfl <;> rfl
theorem ownsRow_setD {W : World} {B s : Nat} {e : TypeId} {v : Value} {n : Nat} {xs : List Value} (h : W.ownsRow B e s v n xs) {N : Nat} (hN : N < B) (u : Value) : (W.setCell ⟨N, 0, none⟩ u).ownsRow B e s v n xs := by
  refine ⟨h.1, h.2.imp id ?_⟩
  rintro ⟨g, cap, cur, e, hg, hh, h3⟩
  exact ⟨g, cap, cur, e, hg, (Below.heap_setCell W ⟨N, 0, none⟩ u g (by show g ≠ N; omega)).trans hh, h3⟩
theorem step_clip {ops : Array Oper} {o : Oper} {a : Act} {w : World} {K : Act → World → Prop} {Q : Exit → Act → World → Prop} {E : Prop}
    (hg : o.guard = none) (s : Nat) (hop : o.op = Op.call { callee := Callee.value (Operand.func 32), args := #[.tmp s], argTypes := #[22] })
    (ao : Option Addr) (n cap : Nat) (hs : a.eval (.tmp s) = .slice ao n cap) (hn : n ≤ cap) (hm : n ≤ maxLen) (hK : K (a.put o.dst (.slice ao n n)) w) :
    if Region.wanted o (yielded ops a.tmps) = true then Oper.wp Try.prog o a w K Q else E := by
  have hw : Region.wanted o (yielded ops a.tmps) = true := by simp [Region.wanted, hg]
  rw [if_pos hw]
  have hs' : a.tmps[s]?.getD undef = .slice ao n cap := by simpa [Act.eval] using hs
  unfold Oper.wp
  simp [execOp, hop, go_sem]
  rw [hs']
  refine (clip_any ao n cap hm hn _).mono ?_
  rintro e w' ⟨rfl, rfl⟩
  simpa [Act.put] using hK
theorem info26 : (Try.prog.info? 26).map (fun i => (i.zero, i.size, i.bytes)) = some (some (.agg #[.int .i64 0, .string ⟨#[]⟩, .string ⟨#[]⟩, .string ⟨#[]⟩]), 4, 56) := by kernel_rfl

set_option maxRecDepth 100000 in
set_option maxHeartbeats 4000000 in
theorem app_nil (a : Option Addr) (c : Nat) (t : Int) (n1 n2 n3 : BA) (w : World)
    (KC : ∀ W, Below w.heap.size w W → Calls Try.prog 14 #[.agg #[.slice a 0 c]] W fun e w' => e = .returned (.int .i64 0) ∧ Below W.heap.size W w')
    (KV : ∀ W, Calls Try.prog 31 #[rv ⟨t, n1, n2, n3⟩] W fun e w' => e = .returned (.bool true) ∧ Below W.heap.size W w') :
    Calls Try.prog 12 #[.agg #[.slice a 0 c], rv ⟨t, n1, n2, n3⟩] w fun e w' => ∃ v, e = .returned (.tuple #[.agg #[v], .int .i64 0]) ∧ IsRecs w' v [⟨t, n1, n2, n3⟩] ∧ Below w.heap.size w w' := by
  have st := Lib.hid (ab_start w a 0 c t n1 n2 n3)
  have HOLD : Hid (∀ W, Below w.heap.size w W → ∀ b, a = some b → ∀ j u, (recCells [])[j]? = some u → W.cell? (b.add j) = some u) := Lib.hid fun W _ b _ j u h => by simp [recCells] at h
  have HC := Lib.hid KC
  have HV := Lib.hid KV
  clear KC KV
  obtain ⟨i0, hi, hz0, hz1, hz2⟩ := info_parts info26
  go_enter Try.func12, Try.ntmps12
  go_wp2_with fail
  ((with_reducible refine (HC.out _ st.out.b).mono ?_); rintro e w1 ⟨rfl, hb⟩)
  have H1 := Lib.hid (st.out.on hb)
  clear hb
  obtain ⟨q0, q1, q2, q3, q4, q5, f5⟩ := H1.out.at
  go_wp2_with fail
  ((with_reducible refine (HV.out _).mono ?_); rintro e w2 ⟨rfl, hb⟩)
  clear q0 q1 q2 q3 q4 q5 f5
  have H2 := Lib.hid (H1.out.on hb)
  clear hb H1 st HC HV
  obtain ⟨q0, q1, q2, q3, q4, q5, f5⟩ := H2.out.at
  go_wp2
  go_quiet (fail)
  go_wp2
  have H3 := Lib.hid (H2.out.on (blN (Below.refl _ _) nq))
  clear q0 q1 q2 q3 q4 q5 f5 H2
  obtain ⟨q0, q1, q2, q3, q4, q5, f5⟩ := H3.out.at
  generalize w2.drewN nq = w3 at *
  have HO := Lib.hid (HOLD.out ((w3.alloc (rc ⟨t, n1, n2, n3⟩)).drew) (bla H3.out.b _).drew)
  have ha := (H3.out.on (bla (Below.refl _ w3) (rc ⟨t, n1, n2, n3⟩)).drew).at
  obtain ⟨e0, -, -, -, -, -, -⟩ := ha
  go_region_law (first | (refine step_clip (by rfl) 40 (by rfl) a 0 c (by rfl) (Nat.zero_le _) (by unfold maxLen; omega) ?_) | (refine step_append_grows (by rfl) (.tmp 41) (.tmp 43) 22 (by rfl) 26 i0 (.agg #[.int .i64 0, .string ⟨#[]⟩, .string ⟨#[]⟩, .string ⟨#[]⟩]) 4 56 Try.underlying22 hi hz0 hz1 hz2 (by rfl) (by decide) a 0 0 (recCells []) (by rfl) (fun _ => ⟨rfl, rfl⟩) rfl HO.out ⟨w3.heap.size, 0, none⟩ 1 1 [.int .i64 t, .string n1, .string n2, .string n3] (by rfl) rfl (four_rec w3 _ _ _ _ _) (rec_one _ _ _ _) (by omega) (by unfold maxLen; omega) (by omega) ?_; intro v' w5 hown hgrow; obtain ⟨g', cap', rfl⟩ := ownsRow_succ hown; have BG := (Below.refl _ (w3.alloc (rc ⟨t, n1, n2, n3⟩)).drew).grown hgrow (Nat.le_refl _) (fun k e => by cases e); have H5 := Lib.hid (H3.out.on ((bla (Below.refl _ w3) (rc ⟨t, n1, n2, n3⟩)).drew.trans (BG.mono (by simp)))); have OW := Lib.hid hown; have hA := H5.out.at; obtain ⟨-, -, -, -, -, r5, g5⟩ := hA; clear hown hgrow BG))
  all_goals go_wp2
  all_goals
    have hI : IsRecs (w5.setCell ⟨w.heap.size + 1 + 1, 0, none⟩ (.slice (some ⟨g', 0, none⟩) (0 + 1) cap')) (.slice (some ⟨g', 0, none⟩) (0 + 1) cap') ([] ++ [⟨t, n1, n2, n3⟩]) :=
      own_recs (m := 0 + 1) (by rw [← recCells_snoc]; exact ownsRow_setD OW.out (by have := H3.out.b.size; have := lt_of_block H3.out.c2; simp; omega) _) rfl (by unfold maxLen; omega)
    have hb := H5.out.b.setCell (p := ⟨w.heap.size + 1 + 1, 0, none⟩) (by simp; omega) (.slice (some ⟨g', 0, none⟩) (0 + 1) cap')
    exact bodyPost_ret (v := .tuple #[.agg #[.slice (some ⟨g', 0, none⟩) (0 + 1) cap'], .int .i64 0]) (by simp [results, Try.results12, go_sem, r5]) rfl ⟨_, rfl, hI, hb⟩

set_option maxRecDepth 100000 in
set_option maxHeartbeats 4000000 in
theorem app_more (b off c : Nat) (L : List Rec) (t last : Int) (n1 n2 n3 : BA) (w : World) (k : Nat) (hk : L.length = k + 1) (hn : k + 1 < 10000) (hc : k + 1 ≤ c) (hlast : ∀ W, Below w.heap.size w W → W.cell? ⟨b, off + k * 4, none⟩ = some (.int .i64 last)) (hlt : last ≤ t)
    (hold : ∀ W, Below w.heap.size w W → ∀ ad, some (⟨b, off, none⟩ : Addr) = some ad → ∀ j u, (recCells L)[j]? = some u → W.cell? (ad.add j) = some u)
    (KC : ∀ W, Below w.heap.size w W → Calls Try.prog 14 #[.agg #[.slice (some ⟨b, off, none⟩) (k + 1) c]] W fun e w' => e = .returned (.int .i64 0) ∧ Below W.heap.size W w')
    (KV : ∀ W, Calls Try.prog 31 #[rv ⟨t, n1, n2, n3⟩] W fun e w' => e = .returned (.bool true) ∧ Below W.heap.size W w') :
    Calls Try.prog 12 #[.agg #[.slice (some ⟨b, off, none⟩) (k + 1) c], rv ⟨t, n1, n2, n3⟩] w fun e w' => ∃ v, e = .returned (.tuple #[.agg #[v], .int .i64 0]) ∧ IsRecs w' v (L ++ [⟨t, n1, n2, n3⟩]) ∧ Below w.heap.size w w' := by
  have HL := Lib.hid hlast
  have HOLD := Lib.hid hold
  have HLEN := Lib.hid (show (recCells L).length = (k + 1) * 4 from by rw [recCells_length, hk])
  have HK := Lib.hid hk
  have st := Lib.hid (ab_start w (some ⟨b, off, none⟩) (k + 1) c t n1 n2 n3)
  clear hlast hold hk
  have HC := Lib.hid KC
  have HV := Lib.hid KV
  clear KC KV
  obtain ⟨i0, hi, hz0, hz1, hz2⟩ := info_parts info26
  go_enter Try.func12, Try.ntmps12
  go_wp2_with fail
  ((with_reducible refine (HC.out _ st.out.b).mono ?_); rintro e w1 ⟨rfl, hb⟩)
  have H1 := Lib.hid (st.out.on hb)
  clear hb
  obtain ⟨q0, q1, q2, q3, q4, q5, f5⟩ := H1.out.at
  go_wp2_with fail
  ((with_reducible refine (HV.out _).mono ?_); rintro e w2 ⟨rfl, hb⟩)
  clear q0 q1 q2 q3 q4 q5 f5
  have H2 := Lib.hid (H1.out.on hb)
  clear hb H1 st HC HV
  obtain ⟨q0, q1, q2, q3, q4, q5, f5⟩ := H2.out.at
  have qL := HL.out _ H2.out.b
  have hs1 : IntKind.i64.wrap (((k + 1 : Nat) : Int) - 1) = (k : Int) := by rw [IntWalk.i64_in _ (by omega)]; omega
  have hg : decide ((0 : Int) < ((k + 1 : Nat) : Int)) = true := by simp
  have hlt2 : decide (t < last) = false := by simpa using hlt
  have h99 : (((k + 1 : Nat) : Int) == 10000) = false := by simp; omega
  go_wp2
  go_quiet (fail)
  go_wp2
  clear qL hs1 hg hlt2 h99
  have H3 := Lib.hid (H2.out.on (blN (Below.refl _ _) nq))
  clear q0 q1 q2 q3 q4 q5 f5 H2
  obtain ⟨q0, q1, q2, q3, q4, q5, f5⟩ := H3.out.at
  generalize w2.drewN nq = w3 at *
  have HO := Lib.hid (HOLD.out ((w3.alloc (rc ⟨t, n1, n2, n3⟩)).drew) (bla H3.out.b _).drew)
  have ha := (H3.out.on (bla (Below.refl _ w3) (rc ⟨t, n1, n2, n3⟩)).drew).at
  obtain ⟨e0, -, -, -, -, -, -⟩ := ha
  go_region_law (first | (refine step_clip (by rfl) 40 (by rfl) (some ⟨b, off, none⟩) (k + 1) c (by rfl) hc (by unfold maxLen; omega) ?_) | (refine step_append_grows (by rfl) (.tmp 41) (.tmp 43) 22 (by rfl) 26 i0 (.agg #[.int .i64 0, .string ⟨#[]⟩, .string ⟨#[]⟩, .string ⟨#[]⟩]) 4 56 Try.underlying22 hi hz0 hz1 hz2 (by rfl) (by decide) (some ⟨b, off, none⟩) (k + 1) (k + 1) (recCells L) (by rfl) (fun e => by cases e) HLEN.out HO.out ⟨w3.heap.size, 0, none⟩ 1 1 [.int .i64 t, .string n1, .string n2, .string n3] (by rfl) rfl (four_rec w3 _ _ _ _ _) (rec_one _ _ _ _) (by omega) (by unfold maxLen; omega) (by omega) ?_; intro v' w5 hown hgrow; obtain ⟨g', cap', rfl⟩ := ownsRow_succ hown; have BG := (Below.refl _ (w3.alloc (rc ⟨t, n1, n2, n3⟩)).drew).grown hgrow (Nat.le_refl _) (fun k e => by cases e); have H5 := Lib.hid (H3.out.on ((bla (Below.refl _ w3) (rc ⟨t, n1, n2, n3⟩)).drew.trans (BG.mono (by simp)))); have OW := Lib.hid hown; have hA := H5.out.at; obtain ⟨-, -, -, -, -, r5, g5⟩ := hA; clear hown hgrow BG))
  all_goals go_wp2
  all_goals
    have hI : IsRecs (w5.setCell ⟨w.heap.size + 1 + 1, 0, none⟩ (.slice (some ⟨g', 0, none⟩) (k + 1 + 1) cap')) (.slice (some ⟨g', 0, none⟩) (k + 1 + 1) cap') (L ++ [⟨t, n1, n2, n3⟩]) :=
      own_recs (m := k + 1 + 1) (by rw [← recCells_snoc]; exact ownsRow_setD OW.out (by have := H3.out.b.size; have := lt_of_block H3.out.c2; simp; omega) _) (by rw [List.length_append, HK.out]; rfl) (by unfold maxLen; omega)
    have hb := H5.out.b.setCell (p := ⟨w.heap.size + 1 + 1, 0, none⟩) (by simp; omega) (.slice (some ⟨g', 0, none⟩) (k + 1 + 1) cap')
    exact bodyPost_ret (v := .tuple #[.agg #[.slice (some ⟨g', 0, none⟩) (k + 1 + 1) cap'], .int .i64 0]) (by simp [results, Try.results12, go_sem, r5]) rfl ⟨_, rfl, hI, hb⟩

theorem recs_last {w : World} {b off : Nat} {L : List Rec} {k : Nat} (hk : L.length = k + 1) (hc : ∀ j (h : j < L.length), RecAt w b (off + j * 4) L[j]) : w.cell? ⟨b, off + k * 4, none⟩ = some (.int .i64 (prvT L L.length)) := by
  have := (hc k (by omega)).1
  rw [this]
  unfold prvT
  rw [dif_pos ⟨by omega, by omega⟩]
  have e : L.length - 1 = k := by omega
  simp only [e]
theorem append_any (L : List Rec) (r : Rec) (v : Value) (w : World) (h : IsRecs w v L) (hf : ∀ x ∈ L, x.Fit) (hr : r.Fit) (hlen : L.length < 10000) :
    Calls Try.prog 12 #[.agg #[v], rv r] w fun e w' => ∃ u, e = .returned (.tuple #[.agg #[u], .int .i64 (appE L r)]) ∧ IsRecs w' u (appL L r) ∧ Below w.heap.size w w' := by
  have KC : ∀ W, Below w.heap.size w W → Calls Try.prog 14 #[.agg #[v]] W fun e w' => e = .returned (.int .i64 (chkL L)) ∧ Below W.heap.size W w' := fun W hW => check_any L v W (h.below hW (Nat.le_refl _)) hf _ rfl
  have h' := h
  obtain ⟨a, c, rfl, h1, hc, hL⟩ := h'
  by_cases h0 : ¬ chkL L = 0
  · have e1 : appE L r = chkL L := by unfold appE; rw [if_pos h0]
    have e2 : appL L r = [] := by unfold appL; rw [e1, if_neg h0]
    rw [e1, e2]
    refine (app_chk a L.length c r.time (chkL L) r.who r.what r.data w h0 KC).mono ?_
    rintro e w' ⟨rfl, hb⟩
    exact ⟨_, rfl, isRecs_nil _, hb⟩
  have h0 := Classical.not_not.1 h0
  rw [h0] at KC
  cases hv : okR r with
  | false =>
    have e1 : appE L r = 1 := by unfold appE; rw [if_neg (by simp [h0]), if_pos hv]
    have e2 : appL L r = [] := by unfold appL; rw [e1]; rfl
    rw [e1, e2]
    refine (app_bad a L.length c r.time r.who r.what r.data w KC fun W => valid_any r W hr false hv).mono ?_
    rintro e w' ⟨rfl, hb⟩
    exact ⟨_, rfl, isRecs_nil _, hb⟩
  | true =>
    have KV := fun W => valid_any r W hr true hv
    have ht := okR_time hv
    rcases Nat.eq_zero_or_pos L.length with hz | hp
    · obtain rfl := List.length_eq_zero_iff.1 hz
      have e1 : appE [] r = 0 := by
        unfold appE
        rw [if_neg (by simp [h0]), if_neg (by simp [hv]), if_neg (by simp [prvT]; omega)]
      have e2 : appL [] r = [r] := by unfold appL; rw [e1]; rfl
      rw [e1, e2]
      exact app_nil a c r.time r.who r.what r.data w KC KV
    · obtain ⟨b, off, rfl, hb, hcell⟩ := hL.resolve_left (by intro e; rw [e] at hp; simp at hp)
      obtain ⟨k, hk⟩ : ∃ k, L.length = k + 1 := ⟨L.length - 1, by omega⟩
      have hlast : ∀ W, Below w.heap.size w W → W.cell? ⟨b, off + k * 4, none⟩ = some (.int .i64 (prvT L L.length)) := fun W hW => recs_last hk fun j hj => (hcell j hj).below hW hb
      by_cases ho : r.time < prvT L L.length
      · have e1 : appE L r = 10 := by unfold appE; rw [if_neg (by simp [h0]), if_neg (by simp [hv]), if_pos ho]
        have e2 : appL L r = [] := by unfold appL; rw [e1]; rfl
        rw [e1, e2]
        refine (app_ord b off L.length c r.time (prvT L L.length) r.who r.what r.data w (by omega) hp hc (fun W hW => by rw [hk, Nat.add_sub_cancel]; rw [← hk]; exact hlast W hW) ho KC KV).mono ?_
        rintro e w' ⟨rfl, hb⟩
        exact ⟨_, rfl, isRecs_nil _, hb⟩
      · have e1 : appE L r = 0 := by unfold appE; rw [if_neg (by simp [h0]), if_neg (by simp [hv]), if_neg ho]
        have e2 : appL L r = L ++ [r] := by unfold appL; rw [e1]; rfl
        rw [e1, e2]
        generalize prvT L L.length = last at *
        rw [hk] at KC hc ⊢
        exact app_more b off c L r.time last r.who r.what r.data w k hk (by omega) hc hlast (by omega) (fun W hW => recs_lies (.inr ⟨b, off, rfl, Nat.lt_of_lt_of_le hb hW.size, fun j hj => (hcell j hj).below hW hb⟩)) KC KV
end Go.Proofs.Ytfheflihofafdaa
