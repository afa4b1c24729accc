/- slices.Repeat of one string, and disk.New, at this translation. -/
import Derived.Test.YtgdfdelggihceaaSettle
import Derived.Test.YtgdfdelggihceaaShelf
import Derived.Deep.RegionLaw
namespace Go.Proofs.Ytgdfdelggihceaa
open Go.RowKit Go.Great

/-- The first k of n places are filled. -/
def fil (x : ByteArray) (k n : Nat) : List ByteArray := List.replicate k x ++ List.replicate (n - k) ⟨#[]⟩
theorem fil_length (x : ByteArray) (k n : Nat) (h : k ≤ n) : (fil x k n).length = n := by simp [fil]; omega
theorem fil_all (x : ByteArray) (n : Nat) : fil x n n = List.replicate n x := by simp [fil]
theorem fil_get (x : ByteArray) (k n j : Nat) (h : j < k) (hk : k ≤ n) : (fil x k n)[j]'(by rw [fil_length x k n hk]; omega) = x := by
  unfold fil
  rw [List.getElem_append_left (by simpa using h)]
  simp
theorem fil_splice (x : ByteArray) (k m n : Nat) (h : k + m ≤ n) : splice (rowS (fil x k n)) k (rowS (List.replicate m x)) = rowS (fil x (k + m) n) := by
  unfold splice rowS fil
  simp only [List.map_append, List.map_replicate, List.length_replicate]
  rw [List.take_append_of_le_length (by simp), List.take_of_length_le (by simp), List.drop_append, List.drop_eq_nil_of_le (by simp)]
  simp only [List.length_replicate, List.drop_replicate, List.nil_append]
  rw [← List.append_assoc, List.replicate_append_replicate]
  congr 2
  omega
theorem rep_lies {W : World} {G : Nat} {x : ByteArray} {k n m : Nat} (h : IsR W G (fil x k n)) (hm : m ≤ k) (hk : k ≤ n) : ∀ j v, (rowS (List.replicate m x))[j]? = some v → W.cell? ((⟨G, 0, none⟩ : Addr).add j) = some v := by
  intro j v hv
  have hj : j < m := by have := (List.getElem?_eq_some_iff.1 hv).1; simpa [rowS] using this
  rw [Addr.add_lit, Nat.zero_add, h.cell j (by rw [fil_length x k n hk]; omega), fil_get x k n j (by omega) hk]
  rw [rowS_get _ j (by simpa using hj)] at hv
  simpa using hv

theorem rep_one {W : World} {g : Nat} {x : ByteArray} (h : W.cell? ⟨g, 0, none⟩ = some (.string x)) : ∀ j v, (rowS (List.replicate 1 x))[j]? = some v → W.cell? ((⟨g, 0, none⟩ : Addr).add j) = some v := by
  intro j v hv
  have hj : j < 1 := by have := (List.getElem?_eq_some_iff.1 hv).1; simpa [rowS] using this
  obtain rfl : j = 0 := by omega
  rw [Addr.add_lit]
  simp [rowS] at hv
  subst hv
  exact h
theorem fil_row {W : World} {G : Nat} {x : ByteArray} {k m n : Nat} (h : W.heap[G]? = some (.cells (splice (rowS (fil x k n)) k (rowS (List.replicate m x))).toArray 9 (0, 0))) (hk : k + m ≤ n) : IsR W G (fil x (k + m) n) := by
  rw [fil_splice x k m n hk] at h
  exact h

set_option maxHeartbeats 4000000 in
theorem repeat_one (g n : Nat) (x : ByteArray) (h1 : 1 ≤ n) (h2 : n ≤ 1000) (w : World) (hgl : g < w.heap.size) (hg : w.cell? ⟨g, 0, none⟩ = some (.string x)) :
    Calls Try.prog 28 #[.slice (some ⟨g, 0, none⟩) 1 1, .int .i64 n] w fun e w' => ∃ G, e = .returned (.slice (some ⟨G, 0, none⟩) n n) ∧ w.heap.size ≤ G ∧ IsR w' G (List.replicate n x) ∧ Below w.heap.size w w' := by
  have hmk := run_mk23 w n (by omega)
  have hr0 : IsR (w.alloc (.cells (rowS (List.replicate n ⟨#[]⟩)).toArray 9)) w.heap.size (fil x 0 n) := by
    have := heap_alloc_new w (.cells (rowS (List.replicate n ⟨#[]⟩)).toArray 9)
    unfold IsR fil
    simpa using this
  have hg1 : (w.alloc (.cells (rowS (List.replicate n ⟨#[]⟩)).toArray 9)).cell? ⟨g, 0, none⟩ = some (.string x) := (((Below.refl w.heap.size w).alloc (Nat.le_refl _) (.cells (rowS (List.replicate n ⟨#[]⟩)).toArray 9)).cell (p := ⟨g, 0, none⟩) hgl).trans hg
  have bG := Below.refl w.heap.size (w.alloc (.cells (rowS (List.replicate n ⟨#[]⟩)).toArray 9))
  have hB := (Below.refl w.heap.size w).alloc (Nat.le_refl _) (.cells (rowS (List.replicate n ⟨#[]⟩)).toArray 9)
  have HR0 := Lib.hid hr0
  clear hr0
  have n1 : ¬ (n : Int) < 0 := by omega
  have e1 : IntKind.u64.wrap (n : Int) = n := by rw [IntKind.wrap_u64]; omega
  have e2 : (1 * n / 18446744073709551616 : Nat) = 0 := by omega
  have e3 : (1 * n % 18446744073709551616 : Nat) = n := by omega
  have hbig : decide ((9223372036854775807 : Int) < (n : Int)) = false := by simp; omega
  have HLone : Hid ((rowS (List.replicate 1 x)).length = 1) := Lib.hid (by simp [rowS])
  have E2 := Lib.hid e2
  have E3 := Lib.hid e3
  clear e2 e3
  go_enter Try.func28, Try.ntmps28
  go_wp2_with fail
  refine (Try.bits_Mul 1 n (by omega) (by omega) _).mono ?_
  rintro e w' ⟨he, rfl⟩
  rw [E2.out, E3.out] at he
  subst he
  go_wp2_with (refine wpList_copy_splice rfl (.tmp 31) (.tmp 32) 23 23 rfl 9 Try.underlying23 size9 (some ⟨w'.heap.size, 0, none⟩) (some ⟨g, 0, none⟩) n n 1 1 rfl rfl w'.heap.size 0 (rowS (fil x 0 n)) 9 HR0.out.heap (rowS (List.replicate 1 x)) (by rw [rowS_length, List.length_replicate]; exact (Nat.min_eq_left h1).symm) (fun _ => ⟨rfl, ⟨g, 0, none⟩, rfl, rep_one hg1⟩) (by rw [rowS_length, rowS_length, fil_length x 0 n (by omega), List.length_replicate]; omega) (rowS_one _) w'.heap.size _ bG (Nat.le_refl _) ?_; intro w3 hrow hb3; have hR3 : Hid (IsR w3 w'.heap.size (fil x 1 n)) := Lib.hid (fil_row (k := 0) (m := 1) hrow.out (by omega)); have B3 := hB.trans hb3; clear hrow; rw [HLone.out])
  have hGl := hR3.out.lt
  clear HR0 bG hB hb3 hmk hg1 hg hgl e1 E2 E3
  generalize hG : w'.heap.size = G at hR3 hGl B3 ⊢
  have HG := Lib.hid hG
  clear hG
  go_loopw [8] (fun s8 wr => ∃ k : Nat, 1 ≤ k ∧ k ≤ n ∧ s8 = .int .i64 k ∧ Hid (IsR wr G (fil x k n)) ∧ Below G w' wr) (fun i _ => n - (intOf i).toNat)
  case atStart => exact ⟨1, Nat.le_refl _, h1, rfl, hR3, B3⟩
  case round =>
    obtain ⟨k, hk1, hk2, rfl, hR, hB⟩ := hrel
    by_cases hlt : k < n
    · have hck : ¬ n = k := by omega
      have k0 : (0 : Int) ≤ (k : Int) := by omega
      have k1 : (k : Int) ≤ (n : Int) := by omega
      obtain ⟨m, hm⟩ : ∃ m, Nat.min k (n - k) = m := ⟨_, rfl⟩
      have m1 : 1 ≤ m := by rw [← hm]; exact Nat.le_min.2 ⟨hk1, by omega⟩
      have m2 : m ≤ k := by rw [← hm]; exact Nat.min_le_left _ _
      have m3 : m ≤ n - k := by rw [← hm]; exact Nat.min_le_right _ _
      have HM := Lib.hid hm
      clear hm
      have hL1 : (rowS (List.replicate m x)).length = m := by rw [rowS_length, List.length_replicate]
      have HL1 := Lib.hid hL1
      have w1 : IntKind.i64.wrap ((k : Int) + (m : Int)) = (k : Int) + m := IntWalk.i64_in _ (by omega)
      have RD : Hid (IsR wr.drew G (fil x k n)) := hR
      have bG := Below.refl G wr.drew
      have hBd := hB.drew
      clear hL1
      go_wp2
      go_region_law (refine step_copy_splice (by rfl) (.tmp 41) (.tmp 44) 23 23 (by rfl) 9 Try.underlying23 size9 (some ⟨G, k, none⟩) (some ⟨G, 0, none⟩) (n - k) (n - k) k n (by simp [Act.eval, Act.put]) (by simp [Act.eval, Act.put]) G k (rowS (fil x k n)) 9 RD.out.heap (rowS (List.replicate m x)) (by rw [HL1.out]; exact HM.out.symm) (fun _ => ⟨rfl, ⟨G, 0, none⟩, rfl, rep_lies RD.out m2 hk2⟩) (by rw [HL1.out, rowS_length, fil_length x k n hk2]; omega) (rowS_one _) G _ bG (Nat.le_refl _) ?_; intro w5 hrow hb5; have hR5 : Hid (IsR w5 G (fil x (k + m) n)) := Lib.hid (fil_row hrow.out (by omega)); have B5 := hBd.trans hb5; clear hrow; rw [HL1.out])
      clear w1
      simp [Act.put]
      go_wp2
      go_roundw
      case rel => exact ⟨k + m, by omega, by omega, by go_num, hR5, B5⟩
      case measure => simp [intOf]; omega
    · obtain rfl : k = n := by omega
      have hF := hR.out
      rw [fil_all] at hF
      have HF := Lib.hid hF
      clear hF hR
      go_wp2
      go_ret
      exact ⟨G, rfl, Nat.le_of_eq HG.out, HF.out, by rw [HG.out]; exact hB⟩

theorem Firm_made {B G n : Nat} {w' : World} {x : ByteArray} {sz : Int} (h : IsR w' G (List.replicate n x)) (hG : B ≤ G) (hn : n ≤ 1000) : Firm B w' (dv sz (.slice (some ⟨G, 0, none⟩) n n) (.slice none 0 0) (-1)) ⟨sz, List.replicate n x, [], -1⟩ := fun W' _ s2 => by
  have h' : IsR W' G (List.replicate n x) := (s2 _ hG h.lt).trans h
  have := h'.strs (by rw [List.length_replicate]; unfold maxLen; omega)
  rw [List.length_replicate] at this
  exact ⟨_, _, rfl, this, isWs_nil _⟩
/-- Bytes 0. -/
def zeros (n : Nat) : ByteArray := ⟨(List.replicate n (0 : UInt8)).toArray⟩
theorem zeros_size (n : Nat) : (zeros n).size = n := by show (List.replicate n (0 : UInt8)).toArray.size = n; simp
theorem zeros_rep (n : Nat) : (⟨(Lib.repeatL (⟨#[0]⟩ : ByteArray).data.toList n).toArray⟩ : ByteArray) = zeros n := by
  unfold zeros
  congr 2
  induction n with
  | zero => rfl
  | succ n ih => rw [List.replicate_succ, ← ih]; rfl

set_option maxHeartbeats 1000000 in
theorem new_bad (n z : Int) (h : n < 1 ∨ 1000 < n ∨ z < 1 ∨ 512 < z) (w : World) :
    Calls Try.prog 12 #[.int .i64 n, .int .i64 z] w fun e w' => e = .returned (.tuple #[dv 0 (.slice none 0 0) (.slice none 0 0) 0, .int .i64 2]) ∧ Below w.heap.size w w' := by
  have x1 := Bx.fresh 0 (.slice none 0 0) (.slice none 0 0) 0 w
  have hB := (Below.refl w.heap.size w).alloc (Nat.le_refl _) (.cells #[.int .i64 0, .slice none 0 0, .slice none 0 0, .int .i64 0] 26)
  by_cases h1 : n < 1
  · clear h
    go_enter Try.func12, Try.ntmps12
    go_wp2
    exact bodyPost_ret (v := .tuple #[dv 0 (.slice none 0 0) (.slice none 0 0) 0, .int .i64 2]) (by simp [results, Try.results12, go_sem]) rfl ⟨rfl, hB⟩
  by_cases h2 : 1000 < n
  · clear h
    go_enter Try.func12, Try.ntmps12
    go_wp2
    exact bodyPost_ret (v := .tuple #[dv 0 (.slice none 0 0) (.slice none 0 0) 0, .int .i64 2]) (by simp [results, Try.results12, go_sem]) rfl ⟨rfl, hB⟩
  by_cases h3 : z < 1
  · clear h
    go_enter Try.func12, Try.ntmps12
    go_wp2
    exact bodyPost_ret (v := .tuple #[dv 0 (.slice none 0 0) (.slice none 0 0) 0, .int .i64 2]) (by simp [results, Try.results12, go_sem]) rfl ⟨rfl, hB⟩
  have h4 : 512 < z := by omega
  clear h
  go_enter Try.func12, Try.ntmps12
  go_wp2
  exact bodyPost_ret (v := .tuple #[dv 0 (.slice none 0 0) (.slice none 0 0) 0, .int .i64 2]) (by simp [results, Try.results12, go_sem]) rfl ⟨rfl, hB⟩

set_option maxHeartbeats 2000000 in
theorem new_ok (n z : Nat) (n1 : 1 ≤ n) (n2 : n ≤ 1000) (z1 : 1 ≤ z) (z2 : z ≤ 512) (w : World) :
    Calls Try.prog 12 #[.int .i64 n, .int .i64 z] w fun e w' => ∃ v', e = .returned (.tuple #[v', .int .i64 0]) ∧ Firm w.heap.size w' v' ⟨z, List.replicate n (zeros z), [], -1⟩ ∧ Below w.heap.size w w' := by
  have x1 := Bx.fresh 0 (.slice none 0 0) (.slice none 0 0) 0 w
  have hB := (Below.refl w.heap.size w).alloc (Nat.le_refl _) (.cells #[.int .i64 0, .slice none 0 0, .slice none 0 0, .int .i64 0] 26)
  have a1 : ¬ (n : Int) < 1 := by omega
  have a2 : ¬ 1000 < (n : Int) := by omega
  have a3 : ¬ (z : Int) < 1 := by omega
  have a4 : ¬ 512 < (z : Int) := by omega
  have ZR := Lib.hid (zeros_rep z)
  go_enter Try.func12, Try.ntmps12
  go_wp2_with fail
  refine (Try.strings_Repeat ⟨#[0]⟩ z _ (by omega) (by show 1 * z ≤ _; omega)).mono ?_
  rintro e w1 ⟨he, hb1⟩
  rw [ZR.out] at he
  subst he
  have B1 := hB.trans (hb1.mono hB.size)
  have k1 := x1.below hb1 x1.lt
  have hc := (Boxed.new w1 9 (.string (zeros z))).cell
  have lt1 := B1.size
  have B2 := B1.alloc B1.size (.cells #[.string (zeros z)] 9)
  have k2 := Lib.hid (k1.alloc (.cells #[.string (zeros z)] 9))
  have lt0 := x1.lt
  clear x1 hb1 hB k1
  go_wp2_with fail
  ((with_reducible refine (repeat_one w1.heap.size n (zeros z) n1 n2 _ (by simp) hc).mono ?_); rintro e w3 ⟨G, rfl, hG, hR, hb3⟩)
  have B3 := B2.trans (hb3.mono B2.size)
  have k3 := k2.out.below hb3 (by simp; omega)
  have hR2 := Lib.hid hR
  have hGw : w.heap.size < G := by simp at hG; omega
  clear hR hc B1 B2
  obtain ⟨q0, q1, q2, q3, g0, g1, g2, g3, qlt⟩ := k3
  have SB := below_set4 B3 (g := w.heap.size) (Nat.le_refl _) (.int .i64 z) (.slice (some ⟨G, 0, none⟩) n n) (.slice none 0 0) (.int .i64 (-1))
  have F6 := Lib.hid (Firm_made (sz := z) (((((hR2.out.other (g := w.heap.size) (by omega) 0 (.int .i64 z)).other (g := w.heap.size) (by omega) 1 (.slice (some ⟨G, 0, none⟩) n n)).other (g := w.heap.size) (by omega) 2 (.slice none 0 0)).other (g := w.heap.size) (by omega) 3 (.int .i64 (-1)))) (Nat.le_of_lt hGw) n2)
  go_wp2
  exact bodyPost_ret (v := .tuple #[dv z (.slice (some ⟨G, 0, none⟩) n n) (.slice none 0 0) (-1), .int .i64 0]) (by simp [results, Try.results12, go_sem, q0, q1, q2, q3, World.cell?_setCell_other, World.cell?_setCell_same']) rfl ⟨_, rfl, F6.out, SB⟩
end Go.Proofs.Ytgdfdelggihceaa
