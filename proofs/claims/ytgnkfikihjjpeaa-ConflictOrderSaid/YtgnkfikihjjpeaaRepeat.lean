/- slices.Repeat of one string, at this translation. -/
import Derived.Test.YtgnkfikihjjpeaaConcat
import Derived.Laws.MakeOwn
import Derived.Laws.CopyOwn
import Derived.RegionTactic
import Derived.Deep.RegionLaw
namespace Go.Proofs.Ytgnkfikihjjpeaa
open Go.RowKit Go.Great

theorem rowS_set (L : List ByteArray) (j : Nat) (x : ByteArray) : (rowS L).toArray.setIfInBounds j (.string x) = (rowS (L.set j x)).toArray := by
  simp [rowS, List.map_set]
/-- The block G is a slice's row of strings. -/
def IsR (W : World) (G : Nat) (L : List ByteArray) : Prop := W.heap[G]? = some (.cells (rowS L).toArray 9 (0, 0))
theorem IsR.heap {W : World} {G : Nat} {L : List ByteArray} (h : IsR W G L) : W.heap[G]? = some (.cells (rowS L).toArray 9 (0, 0)) := h
theorem IsR.lt {W : World} {G : Nat} {L : List ByteArray} (h : IsR W G L) : G < W.heap.size := (Array.getElem?_eq_some_iff.1 h).1
theorem IsR.cell {W : World} {G : Nat} {L : List ByteArray} (h : IsR W G L) (j : Nat) (hj : j < L.length) : W.cell? ⟨G, j, none⟩ = some (.string L[j]) := by
  unfold IsR at h
  simp only [World.cell?, h]
  simp [rowS, hj]
theorem IsR.free {W : World} {G : Nat} {L : List ByteArray} (h : IsR W G L) (j : Nat) : W.frozen? ⟨G, j, none⟩ = false := by
  unfold IsR at h
  simp [World.frozen?, h]
theorem IsR.below {W W' : World} {G B : Nat} {L : List ByteArray} (h : IsR W G L) (hB : Below B W W') (hG : G < B) : IsR W' G L := (hB.block G hG).trans h
theorem IsR.alloc {W : World} {G : Nat} {L : List ByteArray} (h : IsR W G L) (o : Obj) : IsR (W.alloc o) G L := (Below.heap_alloc W o G h.lt).trans h
theorem IsR.set {W : World} {G : Nat} {L : List ByteArray} (h : IsR W G L) (j : Nat) (x : ByteArray) : IsR (W.setCell ⟨G, j, none⟩ (.string x)) G (L.set j x) := by
  unfold IsR at h ⊢
  rw [setCell_eq_setRow W G j _ 9 (0, 0) _ h, rowS_set]
  exact setRow_heap W G _ _ 9 _ h
theorem IsR.other {W : World} {G : Nat} {L : List ByteArray} (h : IsR W G L) {g : Nat} (hne : G ≠ g) (o : Nat) (v : Value) : IsR (W.setCell ⟨g, o, none⟩ v) G L := (Below.heap_setCell W ⟨g, o, none⟩ v G hne).trans h
theorem IsR.strs {W : World} {G : Nat} {L : List ByteArray} (h : IsR W G L) (hL : L.length ≤ maxLen) : IsStrs W (.slice (some ⟨G, 0, none⟩) L.length L.length) L :=
  ⟨_, _, rfl, hL, Nat.le_refl _, .inr ⟨G, 0, rfl, h.lt, fun j hj => by rw [Nat.zero_add]; exact h.cell j hj⟩⟩
theorem madeS (n : Nat) : madeCells (Value.string ⟨#[]⟩).cells n = (rowS (List.replicate n ⟨#[]⟩)).toArray := by
  apply Array.ext
  · simp [madeCells, rowS]
  · intro i h1 h2
    simp [madeCells, rowS, Value.cells, Nat.mod_one]
theorem run_mk22 (W : World) (m : Nat) (hm : m ≤ 100000) : (Instr.makeSlice 22 (.int .i64 (m : Int)) (.int .i64 (m : Int))).run Try.prog W = .ok (.slice (some ⟨W.heap.size, 0, none⟩) m m) (W.alloc (.cells (rowS (List.replicate m ⟨#[]⟩)).toArray 9)) := by
  obtain ⟨i0, hi, hz0, hz1, hz2⟩ := info_parts info9
  have h := run_make (P := Try.prog) W 22 9 i0 (.string ⟨#[]⟩) Try.underlying22 hi hz0 .i64 .i64 m m (by omega) (Int.le_refl _) (by rw [hz2]; omega) (by omega)
  rw [hz1, Nat.mul_one, Int.toNat_natCast, madeS] at h
  exact h
theorem size9 : (Try.prog.info? 9).map (·.size) = some 1 := by kernel_rfl
theorem rowS_one (L : List ByteArray) : ∀ v ∈ rowS L, v.oneCell' = true := by
  intro v hv
  obtain ⟨x, _, rfl⟩ := List.mem_map.1 hv
  rfl
/-- The first k of n places are filled. -/
def fil (x : ByteArray) (k n : Nat) : List ByteArray := List.replicate k x ++ List.replicate (n - k) ⟨#[]⟩
theorem fil_length (x : ByteArray) (k n : Nat) (h : k ≤ n) : (fil x k n).length = n := by simp [fil]; omega
theorem fil_all (x : ByteArray) (n : Nat) : fil x n n = List.replicate n x := by simp [fil]
theorem fil_get (x : ByteArray) (k n j : Nat) (h : j < k) (hk : k ≤ n) : (fil x k n)[j]'(by rw [fil_length x k n hk]; omega) = x := by
  unfold fil
  rw [List.getElem_append_left (by simpa using h)]
  simp
theorem fil_splice (x : ByteArray) (k m n : Nat) (h : k + m ≤ n) : splice (rowS (fil x k n)) k (rowS (List.replicate m x)) = rowS (fil x (k + m) n) := by
  unfold splice rowS fil
  simp only [List.map_append, List.map_replicate, List.length_replicate]
  rw [List.take_append_of_le_length (by simp), List.take_of_length_le (by simp), List.drop_append, List.drop_eq_nil_of_le (by simp)]
  simp only [List.length_replicate, List.drop_replicate, List.nil_append]
  rw [← List.append_assoc, List.replicate_append_replicate]
  congr 2
  omega
theorem rep_lies {W : World} {G : Nat} {x : ByteArray} {k n m : Nat} (h : IsR W G (fil x k n)) (hm : m ≤ k) (hk : k ≤ n) : ∀ j v, (rowS (List.replicate m x))[j]? = some v → W.cell? ((⟨G, 0, none⟩ : Addr).add j) = some v := by
  intro j v hv
  have hj : j < m := by have := (List.getElem?_eq_some_iff.1 hv).1; simpa [rowS] using this
  rw [Addr.add_lit, Nat.zero_add, h.cell j (by rw [fil_length x k n hk]; omega), fil_get x k n j (by omega) hk]
  rw [rowS_get _ j (by simpa using hj)] at hv
  simpa using hv

theorem rep_one {W : World} {g : Nat} {x : ByteArray} (h : W.cell? ⟨g, 0, none⟩ = some (.string x)) : ∀ j v, (rowS (List.replicate 1 x))[j]? = some v → W.cell? ((⟨g, 0, none⟩ : Addr).add j) = some v := by
  intro j v hv
  have hj : j < 1 := by have := (List.getElem?_eq_some_iff.1 hv).1; simpa [rowS] using this
  obtain rfl : j = 0 := by omega
  rw [Addr.add_lit]
  simp [rowS] at hv
  subst hv
  exact h
theorem fil_row {W : World} {G : Nat} {x : ByteArray} {k m n : Nat} (h : W.heap[G]? = some (.cells (splice (rowS (fil x k n)) k (rowS (List.replicate m x))).toArray 9 (0, 0))) (hk : k + m ≤ n) : IsR W G (fil x (k + m) n) := by
  rw [fil_splice x k m n hk] at h
  exact h

set_option maxHeartbeats 4000000 in
theorem repeat_one (g n : Nat) (x : ByteArray) (h1 : 1 ≤ n) (h2 : n ≤ 1000) (w : World) (hgl : g < w.heap.size) (hg : w.cell? ⟨g, 0, none⟩ = some (.string x)) :
    Calls Try.prog 52 #[.slice (some ⟨g, 0, none⟩) 1 1, .int .i64 n] w fun e w' => ∃ G, e = .returned (.slice (some ⟨G, 0, none⟩) n n) ∧ w.heap.size ≤ G ∧ IsR w' G (List.replicate n x) ∧ Below w.heap.size w w' := by
  have hmk := run_mk22 w n (by omega)
  have hr0 : IsR (w.alloc (.cells (rowS (List.replicate n ⟨#[]⟩)).toArray 9)) w.heap.size (fil x 0 n) := by
    have := heap_alloc_new w (.cells (rowS (List.replicate n ⟨#[]⟩)).toArray 9)
    unfold IsR fil
    simpa using this
  have hg1 : (w.alloc (.cells (rowS (List.replicate n ⟨#[]⟩)).toArray 9)).cell? ⟨g, 0, none⟩ = some (.string x) := (((Below.refl w.heap.size w).alloc (Nat.le_refl _) (.cells (rowS (List.replicate n ⟨#[]⟩)).toArray 9)).cell (p := ⟨g, 0, none⟩) hgl).trans hg
  have bG := Below.refl w.heap.size (w.alloc (.cells (rowS (List.replicate n ⟨#[]⟩)).toArray 9))
  have hB := (Below.refl w.heap.size w).alloc (Nat.le_refl _) (.cells (rowS (List.replicate n ⟨#[]⟩)).toArray 9)
  have HR0 := Lib.hid hr0
  clear hr0
  have n1 : ¬ (n : Int) < 0 := by omega
  have e1 : IntKind.u64.wrap (n : Int) = n := by rw [IntKind.wrap_u64]; omega
  have e2 : (1 * n / 18446744073709551616 : Nat) = 0 := by omega
  have e3 : (1 * n % 18446744073709551616 : Nat) = n := by omega
  have hbig : decide ((9223372036854775807 : Int) < (n : Int)) = false := by simp; omega
  have HLone : Hid ((rowS (List.replicate 1 x)).length = 1) := Lib.hid (by simp [rowS])
  have E2 := Lib.hid e2
  have E3 := Lib.hid e3
  clear e2 e3
  go_enter Try.func52, Try.ntmps52
  go_wp2_with fail
  refine (Try.bits_Mul 1 n (by omega) (by omega) _).mono ?_
  rintro e w' ⟨he, rfl⟩
  rw [E2.out, E3.out] at he
  subst he
  go_wp2_with (refine wpList_copy_splice rfl (.tmp 31) (.tmp 32) 22 22 rfl 9 Try.underlying22 size9 (some ⟨w'.heap.size, 0, none⟩) (some ⟨g, 0, none⟩) n n 1 1 rfl rfl w'.heap.size 0 (rowS (fil x 0 n)) 9 HR0.out.heap (rowS (List.replicate 1 x)) (by rw [rowS_length, List.length_replicate]; exact (Nat.min_eq_left h1).symm) (fun _ => ⟨rfl, ⟨g, 0, none⟩, rfl, rep_one hg1⟩) (by rw [rowS_length, rowS_length, fil_length x 0 n (by omega), List.length_replicate]; omega) (rowS_one _) w'.heap.size _ bG (Nat.le_refl _) ?_; intro w3 hrow hb3; have hR3 : Hid (IsR w3 w'.heap.size (fil x 1 n)) := Lib.hid (fil_row (k := 0) (m := 1) hrow.out (by omega)); have B3 := hB.trans hb3; clear hrow; rw [HLone.out])
  have hGl := hR3.out.lt
  clear HR0 bG hB hb3 hmk hg1 hg hgl e1 E2 E3
  generalize hG : w'.heap.size = G at hR3 hGl B3 ⊢
  have HG := Lib.hid hG
  clear hG
  go_loopw [8] (fun s8 wr => ∃ k : Nat, 1 ≤ k ∧ k ≤ n ∧ s8 = .int .i64 k ∧ Hid (IsR wr G (fil x k n)) ∧ Below G w' wr) (fun i _ => n - (intOf i).toNat)
  case atStart => exact ⟨1, Nat.le_refl _, h1, rfl, hR3, B3⟩
  case round =>
    obtain ⟨k, hk1, hk2, rfl, hR, hB⟩ := hrel
    by_cases hlt : k < n
    · have hck : ¬ n = k := by omega
      have k0 : (0 : Int) ≤ (k : Int) := by omega
      have k1 : (k : Int) ≤ (n : Int) := by omega
      obtain ⟨m, hm⟩ : ∃ m, Nat.min k (n - k) = m := ⟨_, rfl⟩
      have m1 : 1 ≤ m := by rw [← hm]; exact Nat.le_min.2 ⟨hk1, by omega⟩
      have m2 : m ≤ k := by rw [← hm]; exact Nat.min_le_left _ _
      have m3 : m ≤ n - k := by rw [← hm]; exact Nat.min_le_right _ _
      have HM := Lib.hid hm
      clear hm
      have hL1 : (rowS (List.replicate m x)).length = m := by rw [rowS_length, List.length_replicate]
      have HL1 := Lib.hid hL1
      have w1 : IntKind.i64.wrap ((k : Int) + (m : Int)) = (k : Int) + m := IntWalk.i64_in _ (by omega)
      have RD : Hid (IsR wr.drew G (fil x k n)) := hR
      have bG := Below.refl G wr.drew
      have hBd := hB.drew
      clear hL1
      go_wp2
      go_region_law (refine step_copy_splice (by rfl) (.tmp 41) (.tmp 44) 22 22 (by rfl) 9 Try.underlying22 size9 (some ⟨G, k, none⟩) (some ⟨G, 0, none⟩) (n - k) (n - k) k n (by simp [Act.eval, Act.put]) (by simp [Act.eval, Act.put]) G k (rowS (fil x k n)) 9 RD.out.heap (rowS (List.replicate m x)) (by rw [HL1.out]; exact HM.out.symm) (fun _ => ⟨rfl, ⟨G, 0, none⟩, rfl, rep_lies RD.out m2 hk2⟩) (by rw [HL1.out, rowS_length, fil_length x k n hk2]; omega) (rowS_one _) G _ bG (Nat.le_refl _) ?_; intro w5 hrow hb5; have hR5 : Hid (IsR w5 G (fil x (k + m) n)) := Lib.hid (fil_row hrow.out (by omega)); have B5 := hBd.trans hb5; clear hrow; rw [HL1.out])
      clear w1
      simp [Act.put]
      go_wp2
      go_roundw
      case rel => exact ⟨k + m, by omega, by omega, by go_num, hR5, B5⟩
      case measure => simp [intOf]; omega
    · obtain rfl : k = n := by omega
      have hF := hR.out
      rw [fil_all] at hF
      have HF := Lib.hid hF
      clear hF hR
      go_wp2
      go_ret
      exact ⟨G, rfl, Nat.le_of_eq HG.out, HF.out, by rw [HG.out]; exact hB⟩


set_option maxRecDepth 100000 in
set_option maxHeartbeats 4000000 in
theorem repeat_zero (g : Nat) (w : World) :
    Calls Try.prog 52 #[.slice (some ⟨g, 0, none⟩) 1 1, .int .i64 0] w fun e w' => ∃ G, e = .returned (.slice (some ⟨G, 0, none⟩) 0 0) ∧ w.heap.size ≤ G ∧ IsR w' G [] ∧ Below w.heap.size w w' := by
  have hmk := run_mk22 w 0 (by omega)
  have hr0 : IsR (w.alloc (.cells (rowS []).toArray 9)) w.heap.size [] := heap_alloc_new w (.cells (rowS []).toArray 9)
  have hB := (Below.refl w.heap.size w).alloc (Nat.le_refl _) (.cells (rowS []).toArray 9)
  have bG := Below.refl w.heap.size (w.alloc (.cells (rowS []).toArray 9))
  have HM : ∀ W, Calls Try.prog 66 #[.int .u64 1, .int .u64 0] W fun e w' => e = .returned (.tuple #[.int .u64 0, .int .u64 0]) ∧ W = w' := fun W => by
    refine (Try.bits_Mul 1 0 (by omega) (by omega) W).mono ?_
    rintro e w' ⟨rfl, rfl⟩
    exact ⟨rfl, rfl⟩
  have HR0 := Lib.hid hr0
  have hmk : (Instr.makeSlice 22 (.int .i64 0) (.int .i64 0)).run Try.prog w = .ok (.slice (some ⟨w.heap.size, 0, none⟩) 0 0) (w.alloc (.cells (rowS []).toArray 9)) := hmk
  clear hr0
  go_enter Try.func52, Try.ntmps52
  go_wp2_with fail
  ((with_reducible refine (HM _).mono ?_); rintro e w' ⟨rfl, rfl⟩)
  go_wp2_with (refine wpList_copy_splice rfl (.tmp 31) (.tmp 32) 22 22 rfl 9 Try.underlying22 size9 (some ⟨w.heap.size, 0, none⟩) (some ⟨g, 0, none⟩) 0 0 1 1 rfl rfl w.heap.size 0 (rowS []) 9 HR0.out.heap (rowS []) (by rfl) (fun h => absurd h (by simp [rowS])) (by simp [rowS]) (by simp [rowS]) w.heap.size _ bG (Nat.le_refl _) ?_; intro w3 hrow hb3; have hR3 : Hid (IsR w3 w.heap.size []) := Lib.hid hrow.out; have B3 := hB.trans hb3; clear hrow)
  clear bG hB hb3 hmk
  go_loopw [8] (fun s8 wr => s8 = .int .i64 0 ∧ Hid (IsR wr w.heap.size []) ∧ Below w.heap.size w wr) (fun i _ => 0)
  case atStart => exact ⟨rfl, hR3, B3⟩
  case round =>
    obtain ⟨rfl, hR, hB⟩ := hrel
    go_wp2
    go_ret
    exact ⟨_, rfl, Nat.le_refl _, hR.out, hB⟩

theorem repeat_any (g n : Nat) (x : ByteArray) (h2 : n ≤ 1000) (w : World) (hgl : g < w.heap.size) (hg : w.cell? ⟨g, 0, none⟩ = some (.string x)) :
    Calls Try.prog 52 #[.slice (some ⟨g, 0, none⟩) 1 1, .int .i64 n] w fun e w' => ∃ G, e = .returned (.slice (some ⟨G, 0, none⟩) n n) ∧ w.heap.size ≤ G ∧ IsR w' G (List.replicate n x) ∧ Below w.heap.size w w' := by
  by_cases h : n = 0
  · subst h
    exact repeat_zero g w
  · exact repeat_one g n x (by omega) h2 w hgl hg
end Go.Proofs.Ytgnkfikihjjpeaa
