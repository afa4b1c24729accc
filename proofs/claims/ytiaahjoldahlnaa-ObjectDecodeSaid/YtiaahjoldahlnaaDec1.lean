/- object.Decode, at this translation. -/
import Derived.Test.YtiaahjoldahlnaaORead
import Derived.Test.YtiaahjoldahlnaaFields
namespace Go.Proofs.Ytiaahjoldahlnaa
open Go.RowKit Go.Great
attribute [local go_sem] eq_arr

/-- A method of the object reader as a value. -/
def mv (f N : Nat) : Value := .func (.func f) #[.pointer (some ⟨N + 1, 0, none⟩)] #[]

set_option maxHeartbeats 1000000 in
theorem readers1 (N : Nat) (w : World) : Calls Try.prog 33 #[.pointer (some ⟨N + 1, 0, none⟩), .int .i64 1] w fun e w' => e = .returned (.slice (some ⟨w.heap.size, 0, none⟩) 1 1) ∧ w' = w.alloc (.cells #[mv 60 N] 1) := by
  unfold mv
  go_enter Try.func33, Try.ntmps33
  go_wp2
  go_ret
  exact ⟨rfl, rfl⟩
set_option maxHeartbeats 1000000 in
theorem readers4 (N : Nat) (w : World) : Calls Try.prog 33 #[.pointer (some ⟨N + 1, 0, none⟩), .int .i64 4] w fun e w' => e = .returned (.slice (some ⟨w.heap.size, 0, none⟩) 1 1) ∧ w' = w.alloc (.cells #[mv 60 N] 1) := by
  unfold mv
  go_enter Try.func33, Try.ntmps33
  go_wp2
  go_ret
  exact ⟨rfl, rfl⟩
set_option maxHeartbeats 1000000 in
theorem readers2 (N : Nat) (w : World) : Calls Try.prog 33 #[.pointer (some ⟨N + 1, 0, none⟩), .int .i64 2] w fun e w' => e = .returned (.slice (some ⟨w.heap.size, 0, none⟩) 1 1) ∧ w' = w.alloc (.cells #[mv 61 N] 1) := by
  unfold mv
  go_enter Try.func33, Try.ntmps33
  go_wp2
  go_ret
  exact ⟨rfl, rfl⟩
set_option maxHeartbeats 1000000 in
theorem readers3 (N : Nat) (w : World) : Calls Try.prog 33 #[.pointer (some ⟨N + 1, 0, none⟩), .int .i64 3] w fun e w' => e = .returned (.slice (some ⟨w.heap.size, 0, none⟩) 5 5) ∧ w' = w.alloc (.cells #[mv 62 N, mv 63 N, mv 64 N, mv 65 N, mv 66 N] 1) := by
  unfold mv
  go_enter Try.func33, Try.ntmps33
  go_wp2
  go_ret
  exact ⟨rfl, rfl⟩
set_option maxHeartbeats 1000000 in
theorem readers0 (N : Nat) (k : Nat) (hk : ¬ (k = 1 ∨ k = 2 ∨ k = 3 ∨ k = 4)) (w : World) (c0 : w.cell? ⟨N + 1, 0, none⟩ = some (.pointer (some ⟨N, 0, none⟩))) : Calls Try.prog 33 #[.pointer (some ⟨N + 1, 0, none⟩), .int .i64 k] w fun e w' => e = .returned (.slice (some ⟨w.heap.size, 0, none⟩) 1 1) ∧ w' = w.alloc (.cells #[.func (.func 58) #[.pointer (some ⟨N, 0, none⟩)] #[]] 1) := by
  have e1 : ((k : Int) == 1) = false := by simp; omega
  have e2 : ((k : Int) == 2) = false := by simp; omega
  have e3 : ((k : Int) == 3) = false := by simp; omega
  have e4 : ((k : Int) == 4) = false := by simp; omega
  clear hk
  go_enter Try.func33, Try.ntmps33
  go_wp2
  go_ret
  exact ⟨rfl, rfl⟩
/-- The result's box, still zero, and all that was there. -/
structure Dc (w W : World) : Prop where
  xd : W.heap[w.heap.size]? = some (.cells #[.int .i64 0, .string ⟨#[]⟩, .slice none 0 0, .int .u64 0, .int .u64 0, .slice none 0 0, .string ⟨#[]⟩, .int .i64 0, .string ⟨#[]⟩] 28 (0, 0))
  b : Below w.heap.size w W
theorem Dc.on2 {w W W' : World} (h : Dc w W) (ho : Only2 (w.heap.size + 1) W W') : Dc w W' := ⟨(ho.b.block _ (Nat.lt_succ_self _)).trans h.xd, h.b.trans (ho.b.mono (Nat.le_succ _))⟩
theorem Dc.on {w W W' : World} (h : Dc w W) (hB : Below W.heap.size W W') : Dc w W' := ⟨(hB.block _ (Array.getElem?_eq_some_iff.1 h.xd).1).trans h.xd, h.b.trans (hB.mono h.b.size)⟩
theorem Dc.nine {w W : World} (h : Dc w W) : W.cell? ⟨w.heap.size, 0, none⟩ = some (.int .i64 0) ∧ W.cell? ⟨w.heap.size, 1, none⟩ = some (.string ⟨#[]⟩) ∧ W.cell? ⟨w.heap.size, 2, none⟩ = some (.slice none 0 0) ∧ W.cell? ⟨w.heap.size, 3, none⟩ = some (.int .u64 0) ∧ W.cell? ⟨w.heap.size, 4, none⟩ = some (.int .u64 0) ∧ W.cell? ⟨w.heap.size, 5, none⟩ = some (.slice none 0 0) ∧ W.cell? ⟨w.heap.size, 6, none⟩ = some (.string ⟨#[]⟩) ∧ W.cell? ⟨w.heap.size, 7, none⟩ = some (.int .i64 0) ∧ W.cell? ⟨w.heap.size, 8, none⟩ = some (.string ⟨#[]⟩) := by
  refine ⟨?_, ?_, ?_, ?_, ?_, ?_, ?_, ?_, ?_⟩ <;> rw [Lib.cell_of_heap h.xd] <;> rfl
theorem Dc.f {w W : World} (h : Dc w W) : W.frozen? ⟨w.heap.size, 0, none⟩ = false ∧ W.frozen? ⟨w.heap.size, 1, none⟩ = false ∧ W.frozen? ⟨w.heap.size, 2, none⟩ = false ∧ W.frozen? ⟨w.heap.size, 3, none⟩ = false ∧ W.frozen? ⟨w.heap.size, 4, none⟩ = false ∧ W.frozen? ⟨w.heap.size, 5, none⟩ = false ∧ W.frozen? ⟨w.heap.size, 6, none⟩ = false ∧ W.frozen? ⟨w.heap.size, 7, none⟩ = false ∧ W.frozen? ⟨w.heap.size, 8, none⟩ = false :=
  ⟨Lib.frozen_of_heap h.xd 0, Lib.frozen_of_heap h.xd 1, Lib.frozen_of_heap h.xd 2, Lib.frozen_of_heap h.xd 3, Lib.frozen_of_heap h.xd 4, Lib.frozen_of_heap h.xd 5, Lib.frozen_of_heap h.xd 6, Lib.frozen_of_heap h.xd 7, Lib.frozen_of_heap h.xd 8⟩
/-- An object stored. -/
def set9 (W : World) (D : Nat) (v0 v1 v2 v3 v4 v5 v6 v7 v8 : Value) : World :=
  ((((((((W.setCell ⟨D, 0, none⟩ v0).setCell ⟨D, 1, none⟩ v1).setCell ⟨D, 2, none⟩ v2).setCell ⟨D, 3, none⟩ v3).setCell ⟨D, 4, none⟩ v4).setCell ⟨D, 5, none⟩ v5).setCell ⟨D, 6, none⟩ v6).setCell ⟨D, 7, none⟩ v7).setCell ⟨D, 8, none⟩ v8
theorem set9_below {w W : World} {D : Nat} (h : Below D w W) (v0 v1 v2 v3 v4 v5 v6 v7 v8 : Value) : Below D w (set9 W D v0 v1 v2 v3 v4 v5 v6 v7 v8) :=
  ((((((((h.setCell (p := ⟨D, 0, none⟩) (Nat.le_refl _) v0).setCell (p := ⟨D, 1, none⟩) (Nat.le_refl _) v1).setCell (p := ⟨D, 2, none⟩) (Nat.le_refl _) v2).setCell (p := ⟨D, 3, none⟩) (Nat.le_refl _) v3).setCell (p := ⟨D, 4, none⟩) (Nat.le_refl _) v4).setCell (p := ⟨D, 5, none⟩) (Nat.le_refl _) v5).setCell (p := ⟨D, 6, none⟩) (Nat.le_refl _) v6).setCell (p := ⟨D, 7, none⟩) (Nat.le_refl _) v7).setCell (p := ⟨D, 8, none⟩) (Nat.le_refl _) v8
theorem set9_heap (W : World) (D : Nat) (v0 v1 v2 v3 v4 v5 v6 v7 v8 : Value) (k : Nat) (hk : k ≠ D) : (set9 W D v0 v1 v2 v3 v4 v5 v6 v7 v8).heap[k]? = W.heap[k]? := by
  unfold set9
  rw [Below.heap_setCell _ ⟨D, 8, none⟩ _ k hk, Below.heap_setCell _ ⟨D, 7, none⟩ _ k hk, Below.heap_setCell _ ⟨D, 6, none⟩ _ k hk, Below.heap_setCell _ ⟨D, 5, none⟩ _ k hk, Below.heap_setCell _ ⟨D, 4, none⟩ _ k hk, Below.heap_setCell _ ⟨D, 3, none⟩ _ k hk, Below.heap_setCell _ ⟨D, 2, none⟩ _ k hk, Below.heap_setCell _ ⟨D, 1, none⟩ _ k hk, Below.heap_setCell _ ⟨D, 0, none⟩ _ k hk]
theorem doneR_true (N : Nat) (r : Rd) (w : World) (h : RdAt w N r) (hq : r = ((⟨#[]⟩, false) : Rd)) : Calls Try.prog 34 #[.pointer (some ⟨N, 0, none⟩)] w fun e w' => e = .returned (.bool true) ∧ w' = w := doneR_any N r w h true ⟨fun _ => hq, fun _ => rfl⟩
theorem doneR_false (N : Nat) (r : Rd) (w : World) (h : RdAt w N r) (hq : ¬ r = ((⟨#[]⟩, false) : Rd)) : Calls Try.prog 34 #[.pointer (some ⟨N, 0, none⟩)] w fun e w' => e = .returned (.bool false) ∧ w' = w := doneR_any N r w h false ⟨fun h => (by cases h), fun h => absurd h hq⟩
/-- The zero object. -/
theorem isOb_zero (W : World) : IsOb W (.agg #[.int .i64 0, .string ⟨#[]⟩, .slice none 0 0, .int .u64 0, .int .u64 0, .slice none 0 0, .string ⟨#[]⟩, .int .i64 0, .string ⟨#[]⟩]) (zOb 0) := ⟨_, _, rfl, isEnts_nil W, isDigs_nil W⟩
/-- Where Decode begins to read. -/
theorem dec_fresh (w : World) (s : BA) : Ro (w.heap.size + 1) (s, false) 0 ⟨#[]⟩ (.slice none 0 0) 0 0 (.slice none 0 0) ⟨#[]⟩ 0 ⟨#[]⟩ (((w.alloc (.cells #[.int .i64 0, .string ⟨#[]⟩, .slice none 0 0, .int .u64 0, .int .u64 0, .slice none 0 0, .string ⟨#[]⟩, .int .i64 0, .string ⟨#[]⟩] 28)).alloc (.cells #[.string s, .bool false] 78)).alloc (.cells #[.pointer (some ⟨w.heap.size + 1, 0, none⟩), .int .i64 0, .string ⟨#[]⟩, .slice none 0 0, .int .u64 0, .int .u64 0, .slice none 0 0, .string ⟨#[]⟩, .int .i64 0, .string ⟨#[]⟩] 52)) ∧
    Dc w (((w.alloc (.cells #[.int .i64 0, .string ⟨#[]⟩, .slice none 0 0, .int .u64 0, .int .u64 0, .slice none 0 0, .string ⟨#[]⟩, .int .i64 0, .string ⟨#[]⟩] 28)).alloc (.cells #[.string s, .bool false] 78)).alloc (.cells #[.pointer (some ⟨w.heap.size + 1, 0, none⟩), .int .i64 0, .string ⟨#[]⟩, .slice none 0 0, .int .u64 0, .int .u64 0, .slice none 0 0, .string ⟨#[]⟩, .int .i64 0, .string ⟨#[]⟩] 52)) := by
  have a0 := World.alloc_heap_new w (.cells #[.int .i64 0, .string ⟨#[]⟩, .slice none 0 0, .int .u64 0, .int .u64 0, .slice none 0 0, .string ⟨#[]⟩, .int .i64 0, .string ⟨#[]⟩] 28)
  have a1 := World.alloc_heap_new (w.alloc (.cells #[.int .i64 0, .string ⟨#[]⟩, .slice none 0 0, .int .u64 0, .int .u64 0, .slice none 0 0, .string ⟨#[]⟩, .int .i64 0, .string ⟨#[]⟩] 28)) (.cells #[.string s, .bool false] 78)
  have a2 := World.alloc_heap_new ((w.alloc (.cells #[.int .i64 0, .string ⟨#[]⟩, .slice none 0 0, .int .u64 0, .int .u64 0, .slice none 0 0, .string ⟨#[]⟩, .int .i64 0, .string ⟨#[]⟩] 28)).alloc (.cells #[.string s, .bool false] 78)) (.cells #[.pointer (some ⟨w.heap.size + 1, 0, none⟩), .int .i64 0, .string ⟨#[]⟩, .slice none 0 0, .int .u64 0, .int .u64 0, .slice none 0 0, .string ⟨#[]⟩, .int .i64 0, .string ⟨#[]⟩] 52)
  rw [World.size_alloc] at a1
  rw [World.size_alloc, World.size_alloc] at a2
  refine ⟨⟨(Below.heap_alloc _ _ _ (by simp)).trans a1, a2⟩, ⟨(Below.heap_alloc _ _ _ (by simp; omega)).trans ((Below.heap_alloc _ _ _ (by simp)).trans a0), (((Below.refl _ _).alloc (Nat.le_refl _) _).alloc (by simp) _).alloc (by simp; omega) _⟩⟩
theorem own_form {W : World} {B s m : Nat} {e : TypeId} {v : Value} {xs : List Value} (h : W.ownsRow B e s v m xs) : ∃ a n c, v = .slice a n c := by
  rcases h.2 with ⟨hv, _⟩ | ⟨g, cap, cur, hv, _⟩
  · exact ⟨_, _, _, hv⟩
  · exact ⟨_, _, _, hv⟩

set_option maxRecDepth 100000 in
set_option maxHeartbeats 8000000 in
theorem dec_long (s : BA) (hs : 65536 < s.size) (w : World) : Calls Try.prog 21 #[.string s] w fun e w' => ∃ v, e = .returned (.tuple #[v, .int .i64 13]) ∧ IsOb w' v (zOb 0) ∧ Below w.heap.size w w' := by
  have hb := (Below.refl w.heap.size w).alloc (Nat.le_refl _) (.cells #[.int .i64 0, .string ⟨#[]⟩, .slice none 0 0, .int .u64 0, .int .u64 0, .slice none 0 0, .string ⟨#[]⟩, .int .i64 0, .string ⟨#[]⟩] 28)
  go_enter Try.func21, Try.ntmps21
  go_wp2
  exact bodyPost_ret (v := .tuple #[.agg #[.int .i64 0, .string ⟨#[]⟩, .slice none 0 0, .int .u64 0, .int .u64 0, .slice none 0 0, .string ⟨#[]⟩, .int .i64 0, .string ⟨#[]⟩], .int .i64 13]) (by simp [results, Try.results21, go_sem, World.cell?_alloc_new]) rfl ⟨_, rfl, isOb_zero _, hb⟩

set_option maxRecDepth 100000 in
set_option maxHeartbeats 8000000 in
theorem dec1_ok (s : BA) (hs : s.size ≤ 65536) (w : World) (r1 : Rd) (hI : rdI (s, false) = (1, r1)) (h1 : r1.1.size ≤ 65536) (x : BA) (r2 : Rd) (hT : rdT r1 = (x, r2)) (HQ : Hid (r2 = ((⟨#[]⟩, false) : Rd))) (HF : Hid (∀ W, Calls Try.prog 25 #[.agg #[.int .i64 1, .string x, .slice none 0 0, .int .u64 0, .int .u64 0, .slice none 0 0, .string ⟨#[]⟩, .int .i64 0, .string ⟨#[]⟩]] W fun e w' => e = .returned (.int .i64 0) ∧ Below W.heap.size W w')) :
    Calls Try.prog 21 #[.string s] w fun e w' => ∃ v, e = .returned (.tuple #[v, .int .i64 0]) ∧ IsOb w' v (⟨1, x, [], (0, 0), [], ⟨#[]⟩, 0, ⟨#[]⟩⟩) ∧ Below w.heap.size w w' := by
  obtain ⟨R0, D0⟩ := dec_fresh w s
  have n1 : ¬ 65536 < s.size := by omega
  have IC : Hid (∀ W, RdAt W (w.heap.size + 1) (s, false) → Calls Try.prog 32 #[.pointer (some ⟨w.heap.size + 1, 0, none⟩)] W fun e w' => e = .returned (.int .i64 1) ∧ RdAt w' (w.heap.size + 1) r1 ∧ Only1 (w.heap.size + 1) W w') := Lib.hid fun W hW => intR_any _ (s, false) W hW (Nat.le_trans hs (by decide)) _ r1 hI
  clear hI
  go_enter Try.func21, Try.ntmps21
  go_wp2_with fail
  ((with_reducible refine (readR_any s _).mono ?_); rintro e w1 ⟨rfl, rfl⟩)
  go_wp2_with fail
  ((with_reducible refine (IC.out _ R0.rd).mono ?_); rintro e w2 ⟨rfl, hr1, ho1⟩)
  have R1 := R0.read hr1 ho1
  have D1 := D0.on2 (Only2.one ho1)
  clear R0 D0 hr1 ho1 IC
  obtain ⟨p0, p1, -, -, -, -, -, -, -, -⟩ := R1.at
  have f1 := R1.f 1
  have R2 := R1.setK 1
  have D2 := D1.on2 (Only2.two (Only1.set (N := w.heap.size + 1 + 1) w2 1 (.int .i64 1)))
  clear R1 D1
  go_wp2_with fail
  ((with_reducible refine (readers1 (w.heap.size + 1) _).mono ?_); rintro e w3 ⟨rfl, rfl⟩)
  obtain ⟨G, hG⟩ : ∃ G, (w2.setCell ⟨w.heap.size + 1 + 1, 1, none⟩ (.int .i64 1)).heap.size = G := ⟨_, rfl⟩
  have lG : w.heap.size + 1 + 1 < G := by rw [← hG]; exact R2.lt
  have XF : ((w2.setCell ⟨w.heap.size + 1 + 1, 1, none⟩ (.int .i64 1)).alloc (.cells #[.func (.func 60) #[.pointer (some ⟨w.heap.size + 1 + 1, 0, none⟩)] #[]] 1)).heap[G]? = some (.cells #[.func (.func 60) #[.pointer (some ⟨w.heap.size + 1 + 1, 0, none⟩)] #[]] 1 (0, 0)) := by rw [← hG]; exact World.alloc_heap_new _ _
  have R3 := Lib.hid (R2.on ((Below.refl _ _).alloc (Nat.le_refl _) (.cells #[.func (.func 60) #[.pointer (some ⟨w.heap.size + 1 + 1, 0, none⟩)] #[]] 1)))
  have D3 := Lib.hid (D2.on ((Below.refl _ _).alloc (Nat.le_refl _) (.cells #[.func (.func 60) #[.pointer (some ⟨w.heap.size + 1 + 1, 0, none⟩)] #[]] 1)))
  have HX := Lib.hid XF
  rw [hG]
  have HG := Lib.hid hG
  clear R2 D2 p0 p1 f1 XF hG
  go_wp2
  go_loopw [32] (fun s32 wr => (s32 = .int .i64 0 ∧ Hid (Ro (w.heap.size + 1) r1 1 ⟨#[]⟩ (.slice none 0 0) 0 0 (.slice none 0 0) ⟨#[]⟩ 0 ⟨#[]⟩ wr) ∧ Hid (Dc w wr) ∧ Hid (wr.heap[G]? = some (.cells #[.func (.func 60) #[.pointer (some ⟨w.heap.size + 1 + 1, 0, none⟩)] #[]] 1 (0, 0)))) ∨ (s32 = .int .i64 1 ∧ Hid (Ro (w.heap.size + 1) r2 1 x (.slice none 0 0) 0 0 (.slice none 0 0) ⟨#[]⟩ 0 ⟨#[]⟩ wr) ∧ Hid (Dc w wr))) (fun i _ => 1 - (intOf i).toNat)
  case atStart => exact .inl ⟨rfl, R3, D3, HX⟩
  case round =>
    rcases hrel with ⟨rfl, HR, HD, HX⟩ | ⟨rfl, HR, HD⟩
    · clear R3 D3
      have cf : wr.cell? ⟨G, 0, none⟩ = some (.func (.func 60) #[.pointer (some ⟨w.heap.size + 1 + 1, 0, none⟩)] #[]) := by rw [Lib.cell_of_heap HX.out]; rfl
      go_wp2_with fail
      ((with_reducible refine (dataM_any (w.heap.size + 1) r1 _ _ _ _ _ _ _ _ _ _ HR.out (Nat.le_trans h1 (by decide)) x r2 hT).mono ?_); rintro e w5 ⟨rfl, hR5, ho5⟩)
      have HR5 := Lib.hid hR5
      have HD5 := Lib.hid (HD.out.on2 ho5)
      clear hR5 ho5 cf
      go_wp2
      go_roundw
      case rel => exact .inr ⟨rfl, HR5, HD5⟩
      case measure => simp [intOf]
    · clear R3 D3 HX
      obtain ⟨q0, -, -, -, -, -, -, -, -, -⟩ := HR.out.at
      go_wp2_with fail
      ((with_reducible refine (doneR_true _ _ _ HR.out.rd HQ.out).mono ?_); rintro e w9 ⟨rfl, rfl⟩)
      clear q0
      obtain ⟨q1, q2, q3, q4, q5, q6, q7, q8, q9⟩ : w9.cell? ⟨w.heap.size + 1 + 1, 1, none⟩ = some (.int .i64 1) ∧ w9.cell? ⟨w.heap.size + 1 + 1, 2, none⟩ = some (.string x) ∧ w9.cell? ⟨w.heap.size + 1 + 1, 3, none⟩ = some (.slice none 0 0) ∧ w9.cell? ⟨w.heap.size + 1 + 1, 4, none⟩ = some (.int .u64 0) ∧ w9.cell? ⟨w.heap.size + 1 + 1, 5, none⟩ = some (.int .u64 0) ∧ w9.cell? ⟨w.heap.size + 1 + 1, 6, none⟩ = some (.slice none 0 0) ∧ w9.cell? ⟨w.heap.size + 1 + 1, 7, none⟩ = some (.string ⟨#[]⟩) ∧ w9.cell? ⟨w.heap.size + 1 + 1, 8, none⟩ = some (.int .i64 0) ∧ w9.cell? ⟨w.heap.size + 1 + 1, 9, none⟩ = some (.string ⟨#[]⟩) := HR.out.at.2
      go_wp2_with fail
      ((with_reducible refine (HF.out _ ).mono ?_); rintro e w9 ⟨rfl, hb9⟩)
      have HR9 := Lib.hid (HR.out.on hb9)
      have HD9 := Lib.hid (HD.out.on hb9)
      clear q1 q2 q3 q4 q5 q6 q7 q8 q9 hb9
      obtain ⟨d0, d1, d2, d3, d4, d5, d6, d7, d8⟩ := HD9.out.nine
      obtain ⟨f0, f1, f2, f3, f4, f5, f6, f7, f8⟩ := HD9.out.f
      obtain ⟨q1, q2, q3, q4, q5, q6, q7, q8, q9⟩ : w9.cell? ⟨w.heap.size + 1 + 1, 1, none⟩ = some (.int .i64 1) ∧ w9.cell? ⟨w.heap.size + 1 + 1, 2, none⟩ = some (.string x) ∧ w9.cell? ⟨w.heap.size + 1 + 1, 3, none⟩ = some (.slice none 0 0) ∧ w9.cell? ⟨w.heap.size + 1 + 1, 4, none⟩ = some (.int .u64 0) ∧ w9.cell? ⟨w.heap.size + 1 + 1, 5, none⟩ = some (.int .u64 0) ∧ w9.cell? ⟨w.heap.size + 1 + 1, 6, none⟩ = some (.slice none 0 0) ∧ w9.cell? ⟨w.heap.size + 1 + 1, 7, none⟩ = some (.string ⟨#[]⟩) ∧ w9.cell? ⟨w.heap.size + 1 + 1, 8, none⟩ = some (.int .i64 0) ∧ w9.cell? ⟨w.heap.size + 1 + 1, 9, none⟩ = some (.string ⟨#[]⟩) := HR9.out.at.2
      have hb := set9_below HD9.out.b (.int .i64 1) (.string x) (.slice none 0 0) (.int .u64 0) (.int .u64 0) (.slice none 0 0) (.string ⟨#[]⟩) (.int .i64 0) (.string ⟨#[]⟩)
      go_wp2
      exact bodyPost_ret (v := .tuple #[.agg #[.int .i64 1, .string x, .slice none 0 0, .int .u64 0, .int .u64 0, .slice none 0 0, .string ⟨#[]⟩, .int .i64 0, .string ⟨#[]⟩], .int .i64 0]) (by simp [results, Try.results21, go_sem, d0, d1, d2, d3, d4, d5, d6, d7, d8, World.cell?_setCell_other, World.cell?_setCell_same']) rfl ⟨_, rfl, ⟨_, _, rfl, isEnts_nil _, isDigs_nil _⟩, hb⟩

set_option maxRecDepth 100000 in
set_option maxHeartbeats 8000000 in
theorem dec1_bad (s : BA) (hs : s.size ≤ 65536) (w : World) (r1 : Rd) (hI : rdI (s, false) = (1, r1)) (h1 : r1.1.size ≤ 65536) (x : BA) (r2 : Rd) (hT : rdT r1 = (x, r2)) (HQ : Hid (r2 = ((⟨#[]⟩, false) : Rd))) (c : Int) (hc : c ≠ 0) (HF : Hid (∀ W, Calls Try.prog 25 #[.agg #[.int .i64 1, .string x, .slice none 0 0, .int .u64 0, .int .u64 0, .slice none 0 0, .string ⟨#[]⟩, .int .i64 0, .string ⟨#[]⟩]] W fun e w' => e = .returned (.int .i64 c) ∧ Below W.heap.size W w')) :
    Calls Try.prog 21 #[.string s] w fun e w' => ∃ v, e = .returned (.tuple #[v, .int .i64 13]) ∧ IsOb w' v (zOb 0) ∧ Below w.heap.size w w' := by
  have hne : (c != 0) = true := by simpa using hc
  clear hc
  obtain ⟨R0, D0⟩ := dec_fresh w s
  have n1 : ¬ 65536 < s.size := by omega
  have IC : Hid (∀ W, RdAt W (w.heap.size + 1) (s, false) → Calls Try.prog 32 #[.pointer (some ⟨w.heap.size + 1, 0, none⟩)] W fun e w' => e = .returned (.int .i64 1) ∧ RdAt w' (w.heap.size + 1) r1 ∧ Only1 (w.heap.size + 1) W w') := Lib.hid fun W hW => intR_any _ (s, false) W hW (Nat.le_trans hs (by decide)) _ r1 hI
  clear hI
  go_enter Try.func21, Try.ntmps21
  go_wp2_with fail
  ((with_reducible refine (readR_any s _).mono ?_); rintro e w1 ⟨rfl, rfl⟩)
  go_wp2_with fail
  ((with_reducible refine (IC.out _ R0.rd).mono ?_); rintro e w2 ⟨rfl, hr1, ho1⟩)
  have R1 := R0.read hr1 ho1
  have D1 := D0.on2 (Only2.one ho1)
  clear R0 D0 hr1 ho1 IC
  obtain ⟨p0, p1, -, -, -, -, -, -, -, -⟩ := R1.at
  have f1 := R1.f 1
  have R2 := R1.setK 1
  have D2 := D1.on2 (Only2.two (Only1.set (N := w.heap.size + 1 + 1) w2 1 (.int .i64 1)))
  clear R1 D1
  go_wp2_with fail
  ((with_reducible refine (readers1 (w.heap.size + 1) _).mono ?_); rintro e w3 ⟨rfl, rfl⟩)
  obtain ⟨G, hG⟩ : ∃ G, (w2.setCell ⟨w.heap.size + 1 + 1, 1, none⟩ (.int .i64 1)).heap.size = G := ⟨_, rfl⟩
  have lG : w.heap.size + 1 + 1 < G := by rw [← hG]; exact R2.lt
  have XF : ((w2.setCell ⟨w.heap.size + 1 + 1, 1, none⟩ (.int .i64 1)).alloc (.cells #[.func (.func 60) #[.pointer (some ⟨w.heap.size + 1 + 1, 0, none⟩)] #[]] 1)).heap[G]? = some (.cells #[.func (.func 60) #[.pointer (some ⟨w.heap.size + 1 + 1, 0, none⟩)] #[]] 1 (0, 0)) := by rw [← hG]; exact World.alloc_heap_new _ _
  have R3 := Lib.hid (R2.on ((Below.refl _ _).alloc (Nat.le_refl _) (.cells #[.func (.func 60) #[.pointer (some ⟨w.heap.size + 1 + 1, 0, none⟩)] #[]] 1)))
  have D3 := Lib.hid (D2.on ((Below.refl _ _).alloc (Nat.le_refl _) (.cells #[.func (.func 60) #[.pointer (some ⟨w.heap.size + 1 + 1, 0, none⟩)] #[]] 1)))
  have HX := Lib.hid XF
  rw [hG]
  have HG := Lib.hid hG
  clear R2 D2 p0 p1 f1 XF hG
  go_wp2
  go_loopw [32] (fun s32 wr => (s32 = .int .i64 0 ∧ Hid (Ro (w.heap.size + 1) r1 1 ⟨#[]⟩ (.slice none 0 0) 0 0 (.slice none 0 0) ⟨#[]⟩ 0 ⟨#[]⟩ wr) ∧ Hid (Dc w wr) ∧ Hid (wr.heap[G]? = some (.cells #[.func (.func 60) #[.pointer (some ⟨w.heap.size + 1 + 1, 0, none⟩)] #[]] 1 (0, 0)))) ∨ (s32 = .int .i64 1 ∧ Hid (Ro (w.heap.size + 1) r2 1 x (.slice none 0 0) 0 0 (.slice none 0 0) ⟨#[]⟩ 0 ⟨#[]⟩ wr) ∧ Hid (Dc w wr))) (fun i _ => 1 - (intOf i).toNat)
  case atStart => exact .inl ⟨rfl, R3, D3, HX⟩
  case round =>
    rcases hrel with ⟨rfl, HR, HD, HX⟩ | ⟨rfl, HR, HD⟩
    · clear R3 D3
      have cf : wr.cell? ⟨G, 0, none⟩ = some (.func (.func 60) #[.pointer (some ⟨w.heap.size + 1 + 1, 0, none⟩)] #[]) := by rw [Lib.cell_of_heap HX.out]; rfl
      go_wp2_with fail
      ((with_reducible refine (dataM_any (w.heap.size + 1) r1 _ _ _ _ _ _ _ _ _ _ HR.out (Nat.le_trans h1 (by decide)) x r2 hT).mono ?_); rintro e w5 ⟨rfl, hR5, ho5⟩)
      have HR5 := Lib.hid hR5
      have HD5 := Lib.hid (HD.out.on2 ho5)
      clear hR5 ho5 cf
      go_wp2
      go_roundw
      case rel => exact .inr ⟨rfl, HR5, HD5⟩
      case measure => simp [intOf]
    · clear R3 D3 HX
      obtain ⟨q0, -, -, -, -, -, -, -, -, -⟩ := HR.out.at
      go_wp2_with fail
      ((with_reducible refine (doneR_true _ _ _ HR.out.rd HQ.out).mono ?_); rintro e w9 ⟨rfl, rfl⟩)
      clear q0
      obtain ⟨q1, q2, q3, q4, q5, q6, q7, q8, q9⟩ : w9.cell? ⟨w.heap.size + 1 + 1, 1, none⟩ = some (.int .i64 1) ∧ w9.cell? ⟨w.heap.size + 1 + 1, 2, none⟩ = some (.string x) ∧ w9.cell? ⟨w.heap.size + 1 + 1, 3, none⟩ = some (.slice none 0 0) ∧ w9.cell? ⟨w.heap.size + 1 + 1, 4, none⟩ = some (.int .u64 0) ∧ w9.cell? ⟨w.heap.size + 1 + 1, 5, none⟩ = some (.int .u64 0) ∧ w9.cell? ⟨w.heap.size + 1 + 1, 6, none⟩ = some (.slice none 0 0) ∧ w9.cell? ⟨w.heap.size + 1 + 1, 7, none⟩ = some (.string ⟨#[]⟩) ∧ w9.cell? ⟨w.heap.size + 1 + 1, 8, none⟩ = some (.int .i64 0) ∧ w9.cell? ⟨w.heap.size + 1 + 1, 9, none⟩ = some (.string ⟨#[]⟩) := HR.out.at.2
      go_wp2_with fail
      ((with_reducible refine (HF.out _ ).mono ?_); rintro e w9 ⟨rfl, hb9⟩)
      have HR9 := Lib.hid (HR.out.on hb9)
      have HD9 := Lib.hid (HD.out.on hb9)
      clear q1 q2 q3 q4 q5 q6 q7 q8 q9 hb9
      obtain ⟨d0, d1, d2, d3, d4, d5, d6, d7, d8⟩ := HD9.out.nine
      obtain ⟨f0, f1, f2, f3, f4, f5, f6, f7, f8⟩ := HD9.out.f
      have hb := set9_below HD9.out.b (.int .i64 0) (.string ⟨#[]⟩) (.slice none 0 0) (.int .u64 0) (.int .u64 0) (.slice none 0 0) (.string ⟨#[]⟩) (.int .i64 0) (.string ⟨#[]⟩)
      go_wp2
      exact bodyPost_ret (v := .tuple #[.agg #[.int .i64 0, .string ⟨#[]⟩, .slice none 0 0, .int .u64 0, .int .u64 0, .slice none 0 0, .string ⟨#[]⟩, .int .i64 0, .string ⟨#[]⟩], .int .i64 13]) (by simp [results, Try.results21, go_sem, d0, d1, d2, d3, d4, d5, d6, d7, d8, World.cell?_setCell_other, World.cell?_setCell_same']) rfl ⟨_, rfl, isOb_zero _, hb⟩

set_option maxRecDepth 100000 in
set_option maxHeartbeats 8000000 in
theorem dec1_not (s : BA) (hs : s.size ≤ 65536) (w : World) (r1 : Rd) (hI : rdI (s, false) = (1, r1)) (h1 : r1.1.size ≤ 65536) (x : BA) (r2 : Rd) (hT : rdT r1 = (x, r2)) (HQ : Hid (¬ r2 = ((⟨#[]⟩, false) : Rd))) :
    Calls Try.prog 21 #[.string s] w fun e w' => ∃ v, e = .returned (.tuple #[v, .int .i64 13]) ∧ IsOb w' v (zOb 0) ∧ Below w.heap.size w w' := by
  obtain ⟨R0, D0⟩ := dec_fresh w s
  have n1 : ¬ 65536 < s.size := by omega
  have IC : Hid (∀ W, RdAt W (w.heap.size + 1) (s, false) → Calls Try.prog 32 #[.pointer (some ⟨w.heap.size + 1, 0, none⟩)] W fun e w' => e = .returned (.int .i64 1) ∧ RdAt w' (w.heap.size + 1) r1 ∧ Only1 (w.heap.size + 1) W w') := Lib.hid fun W hW => intR_any _ (s, false) W hW (Nat.le_trans hs (by decide)) _ r1 hI
  clear hI
  go_enter Try.func21, Try.ntmps21
  go_wp2_with fail
  ((with_reducible refine (readR_any s _).mono ?_); rintro e w1 ⟨rfl, rfl⟩)
  go_wp2_with fail
  ((with_reducible refine (IC.out _ R0.rd).mono ?_); rintro e w2 ⟨rfl, hr1, ho1⟩)
  have R1 := R0.read hr1 ho1
  have D1 := D0.on2 (Only2.one ho1)
  clear R0 D0 hr1 ho1 IC
  obtain ⟨p0, p1, -, -, -, -, -, -, -, -⟩ := R1.at
  have f1 := R1.f 1
  have R2 := R1.setK 1
  have D2 := D1.on2 (Only2.two (Only1.set (N := w.heap.size + 1 + 1) w2 1 (.int .i64 1)))
  clear R1 D1
  go_wp2_with fail
  ((with_reducible refine (readers1 (w.heap.size + 1) _).mono ?_); rintro e w3 ⟨rfl, rfl⟩)
  obtain ⟨G, hG⟩ : ∃ G, (w2.setCell ⟨w.heap.size + 1 + 1, 1, none⟩ (.int .i64 1)).heap.size = G := ⟨_, rfl⟩
  have lG : w.heap.size + 1 + 1 < G := by rw [← hG]; exact R2.lt
  have XF : ((w2.setCell ⟨w.heap.size + 1 + 1, 1, none⟩ (.int .i64 1)).alloc (.cells #[.func (.func 60) #[.pointer (some ⟨w.heap.size + 1 + 1, 0, none⟩)] #[]] 1)).heap[G]? = some (.cells #[.func (.func 60) #[.pointer (some ⟨w.heap.size + 1 + 1, 0, none⟩)] #[]] 1 (0, 0)) := by rw [← hG]; exact World.alloc_heap_new _ _
  have R3 := Lib.hid (R2.on ((Below.refl _ _).alloc (Nat.le_refl _) (.cells #[.func (.func 60) #[.pointer (some ⟨w.heap.size + 1 + 1, 0, none⟩)] #[]] 1)))
  have D3 := Lib.hid (D2.on ((Below.refl _ _).alloc (Nat.le_refl _) (.cells #[.func (.func 60) #[.pointer (some ⟨w.heap.size + 1 + 1, 0, none⟩)] #[]] 1)))
  have HX := Lib.hid XF
  rw [hG]
  have HG := Lib.hid hG
  clear R2 D2 p0 p1 f1 XF hG
  go_wp2
  go_loopw [32] (fun s32 wr => (s32 = .int .i64 0 ∧ Hid (Ro (w.heap.size + 1) r1 1 ⟨#[]⟩ (.slice none 0 0) 0 0 (.slice none 0 0) ⟨#[]⟩ 0 ⟨#[]⟩ wr) ∧ Hid (Dc w wr) ∧ Hid (wr.heap[G]? = some (.cells #[.func (.func 60) #[.pointer (some ⟨w.heap.size + 1 + 1, 0, none⟩)] #[]] 1 (0, 0)))) ∨ (s32 = .int .i64 1 ∧ Hid (Ro (w.heap.size + 1) r2 1 x (.slice none 0 0) 0 0 (.slice none 0 0) ⟨#[]⟩ 0 ⟨#[]⟩ wr) ∧ Hid (Dc w wr))) (fun i _ => 1 - (intOf i).toNat)
  case atStart => exact .inl ⟨rfl, R3, D3, HX⟩
  case round =>
    rcases hrel with ⟨rfl, HR, HD, HX⟩ | ⟨rfl, HR, HD⟩
    · clear R3 D3
      have cf : wr.cell? ⟨G, 0, none⟩ = some (.func (.func 60) #[.pointer (some ⟨w.heap.size + 1 + 1, 0, none⟩)] #[]) := by rw [Lib.cell_of_heap HX.out]; rfl
      go_wp2_with fail
      ((with_reducible refine (dataM_any (w.heap.size + 1) r1 _ _ _ _ _ _ _ _ _ _ HR.out (Nat.le_trans h1 (by decide)) x r2 hT).mono ?_); rintro e w5 ⟨rfl, hR5, ho5⟩)
      have HR5 := Lib.hid hR5
      have HD5 := Lib.hid (HD.out.on2 ho5)
      clear hR5 ho5 cf
      go_wp2
      go_roundw
      case rel => exact .inr ⟨rfl, HR5, HD5⟩
      case measure => simp [intOf]
    · clear R3 D3 HX
      obtain ⟨q0, -, -, -, -, -, -, -, -, -⟩ := HR.out.at
      go_wp2_with fail
      ((with_reducible refine (doneR_false _ _ _ HR.out.rd HQ.out).mono ?_); rintro e w9 ⟨rfl, rfl⟩)
      clear q0
      obtain ⟨d0, d1, d2, d3, d4, d5, d6, d7, d8⟩ := HD.out.nine
      obtain ⟨f0, f1, f2, f3, f4, f5, f6, f7, f8⟩ := HD.out.f
      have hb := set9_below HD.out.b (.int .i64 0) (.string ⟨#[]⟩) (.slice none 0 0) (.int .u64 0) (.int .u64 0) (.slice none 0 0) (.string ⟨#[]⟩) (.int .i64 0) (.string ⟨#[]⟩)
      go_wp2
      exact bodyPost_ret (v := .tuple #[.agg #[.int .i64 0, .string ⟨#[]⟩, .slice none 0 0, .int .u64 0, .int .u64 0, .slice none 0 0, .string ⟨#[]⟩, .int .i64 0, .string ⟨#[]⟩], .int .i64 13]) (by simp [results, Try.results21, go_sem, d0, d1, d2, d3, d4, d5, d6, d7, d8, World.cell?_setCell_other, World.cell?_setCell_same']) rfl ⟨_, rfl, isOb_zero _, hb⟩

set_option maxRecDepth 100000 in
set_option maxHeartbeats 8000000 in
theorem dec4_ok (s : BA) (hs : s.size ≤ 65536) (w : World) (r1 : Rd) (hI : rdI (s, false) = (4, r1)) (h1 : r1.1.size ≤ 65536) (x : BA) (r2 : Rd) (hT : rdT r1 = (x, r2)) (HQ : Hid (r2 = ((⟨#[]⟩, false) : Rd))) (HF : Hid (∀ W, Calls Try.prog 25 #[.agg #[.int .i64 4, .string x, .slice none 0 0, .int .u64 0, .int .u64 0, .slice none 0 0, .string ⟨#[]⟩, .int .i64 0, .string ⟨#[]⟩]] W fun e w' => e = .returned (.int .i64 0) ∧ Below W.heap.size W w')) :
    Calls Try.prog 21 #[.string s] w fun e w' => ∃ v, e = .returned (.tuple #[v, .int .i64 0]) ∧ IsOb w' v (⟨4, x, [], (0, 0), [], ⟨#[]⟩, 0, ⟨#[]⟩⟩) ∧ Below w.heap.size w w' := by
  obtain ⟨R0, D0⟩ := dec_fresh w s
  have n1 : ¬ 65536 < s.size := by omega
  have IC : Hid (∀ W, RdAt W (w.heap.size + 1) (s, false) → Calls Try.prog 32 #[.pointer (some ⟨w.heap.size + 1, 0, none⟩)] W fun e w' => e = .returned (.int .i64 4) ∧ RdAt w' (w.heap.size + 1) r1 ∧ Only1 (w.heap.size + 1) W w') := Lib.hid fun W hW => intR_any _ (s, false) W hW (Nat.le_trans hs (by decide)) _ r1 hI
  clear hI
  go_enter Try.func21, Try.ntmps21
  go_wp2_with fail
  ((with_reducible refine (readR_any s _).mono ?_); rintro e w1 ⟨rfl, rfl⟩)
  go_wp2_with fail
  ((with_reducible refine (IC.out _ R0.rd).mono ?_); rintro e w2 ⟨rfl, hr1, ho1⟩)
  have R1 := R0.read hr1 ho1
  have D1 := D0.on2 (Only2.one ho1)
  clear R0 D0 hr1 ho1 IC
  obtain ⟨p0, p1, -, -, -, -, -, -, -, -⟩ := R1.at
  have f1 := R1.f 1
  have R2 := R1.setK 4
  have D2 := D1.on2 (Only2.two (Only1.set (N := w.heap.size + 1 + 1) w2 1 (.int .i64 4)))
  clear R1 D1
  go_wp2_with fail
  ((with_reducible refine (readers4 (w.heap.size + 1) _).mono ?_); rintro e w3 ⟨rfl, rfl⟩)
  obtain ⟨G, hG⟩ : ∃ G, (w2.setCell ⟨w.heap.size + 1 + 1, 1, none⟩ (.int .i64 4)).heap.size = G := ⟨_, rfl⟩
  have lG : w.heap.size + 1 + 1 < G := by rw [← hG]; exact R2.lt
  have XF : ((w2.setCell ⟨w.heap.size + 1 + 1, 1, none⟩ (.int .i64 4)).alloc (.cells #[.func (.func 60) #[.pointer (some ⟨w.heap.size + 1 + 1, 0, none⟩)] #[]] 1)).heap[G]? = some (.cells #[.func (.func 60) #[.pointer (some ⟨w.heap.size + 1 + 1, 0, none⟩)] #[]] 1 (0, 0)) := by rw [← hG]; exact World.alloc_heap_new _ _
  have R3 := Lib.hid (R2.on ((Below.refl _ _).alloc (Nat.le_refl _) (.cells #[.func (.func 60) #[.pointer (some ⟨w.heap.size + 1 + 1, 0, none⟩)] #[]] 1)))
  have D3 := Lib.hid (D2.on ((Below.refl _ _).alloc (Nat.le_refl _) (.cells #[.func (.func 60) #[.pointer (some ⟨w.heap.size + 1 + 1, 0, none⟩)] #[]] 1)))
  have HX := Lib.hid XF
  rw [hG]
  have HG := Lib.hid hG
  clear R2 D2 p0 p1 f1 XF hG
  go_wp2
  go_loopw [32] (fun s32 wr => (s32 = .int .i64 0 ∧ Hid (Ro (w.heap.size + 1) r1 4 ⟨#[]⟩ (.slice none 0 0) 0 0 (.slice none 0 0) ⟨#[]⟩ 0 ⟨#[]⟩ wr) ∧ Hid (Dc w wr) ∧ Hid (wr.heap[G]? = some (.cells #[.func (.func 60) #[.pointer (some ⟨w.heap.size + 1 + 1, 0, none⟩)] #[]] 1 (0, 0)))) ∨ (s32 = .int .i64 1 ∧ Hid (Ro (w.heap.size + 1) r2 4 x (.slice none 0 0) 0 0 (.slice none 0 0) ⟨#[]⟩ 0 ⟨#[]⟩ wr) ∧ Hid (Dc w wr))) (fun i _ => 1 - (intOf i).toNat)
  case atStart => exact .inl ⟨rfl, R3, D3, HX⟩
  case round =>
    rcases hrel with ⟨rfl, HR, HD, HX⟩ | ⟨rfl, HR, HD⟩
    · clear R3 D3
      have cf : wr.cell? ⟨G, 0, none⟩ = some (.func (.func 60) #[.pointer (some ⟨w.heap.size + 1 + 1, 0, none⟩)] #[]) := by rw [Lib.cell_of_heap HX.out]; rfl
      go_wp2_with fail
      ((with_reducible refine (dataM_any (w.heap.size + 1) r1 _ _ _ _ _ _ _ _ _ _ HR.out (Nat.le_trans h1 (by decide)) x r2 hT).mono ?_); rintro e w5 ⟨rfl, hR5, ho5⟩)
      have HR5 := Lib.hid hR5
      have HD5 := Lib.hid (HD.out.on2 ho5)
      clear hR5 ho5 cf
      go_wp2
      go_roundw
      case rel => exact .inr ⟨rfl, HR5, HD5⟩
      case measure => simp [intOf]
    · clear R3 D3 HX
      obtain ⟨q0, -, -, -, -, -, -, -, -, -⟩ := HR.out.at
      go_wp2_with fail
      ((with_reducible refine (doneR_true _ _ _ HR.out.rd HQ.out).mono ?_); rintro e w9 ⟨rfl, rfl⟩)
      clear q0
      obtain ⟨q1, q2, q3, q4, q5, q6, q7, q8, q9⟩ : w9.cell? ⟨w.heap.size + 1 + 1, 1, none⟩ = some (.int .i64 4) ∧ w9.cell? ⟨w.heap.size + 1 + 1, 2, none⟩ = some (.string x) ∧ w9.cell? ⟨w.heap.size + 1 + 1, 3, none⟩ = some (.slice none 0 0) ∧ w9.cell? ⟨w.heap.size + 1 + 1, 4, none⟩ = some (.int .u64 0) ∧ w9.cell? ⟨w.heap.size + 1 + 1, 5, none⟩ = some (.int .u64 0) ∧ w9.cell? ⟨w.heap.size + 1 + 1, 6, none⟩ = some (.slice none 0 0) ∧ w9.cell? ⟨w.heap.size + 1 + 1, 7, none⟩ = some (.string ⟨#[]⟩) ∧ w9.cell? ⟨w.heap.size + 1 + 1, 8, none⟩ = some (.int .i64 0) ∧ w9.cell? ⟨w.heap.size + 1 + 1, 9, none⟩ = some (.string ⟨#[]⟩) := HR.out.at.2
      go_wp2_with fail
      ((with_reducible refine (HF.out _ ).mono ?_); rintro e w9 ⟨rfl, hb9⟩)
      have HR9 := Lib.hid (HR.out.on hb9)
      have HD9 := Lib.hid (HD.out.on hb9)
      clear q1 q2 q3 q4 q5 q6 q7 q8 q9 hb9
      obtain ⟨d0, d1, d2, d3, d4, d5, d6, d7, d8⟩ := HD9.out.nine
      obtain ⟨f0, f1, f2, f3, f4, f5, f6, f7, f8⟩ := HD9.out.f
      obtain ⟨q1, q2, q3, q4, q5, q6, q7, q8, q9⟩ : w9.cell? ⟨w.heap.size + 1 + 1, 1, none⟩ = some (.int .i64 4) ∧ w9.cell? ⟨w.heap.size + 1 + 1, 2, none⟩ = some (.string x) ∧ w9.cell? ⟨w.heap.size + 1 + 1, 3, none⟩ = some (.slice none 0 0) ∧ w9.cell? ⟨w.heap.size + 1 + 1, 4, none⟩ = some (.int .u64 0) ∧ w9.cell? ⟨w.heap.size + 1 + 1, 5, none⟩ = some (.int .u64 0) ∧ w9.cell? ⟨w.heap.size + 1 + 1, 6, none⟩ = some (.slice none 0 0) ∧ w9.cell? ⟨w.heap.size + 1 + 1, 7, none⟩ = some (.string ⟨#[]⟩) ∧ w9.cell? ⟨w.heap.size + 1 + 1, 8, none⟩ = some (.int .i64 0) ∧ w9.cell? ⟨w.heap.size + 1 + 1, 9, none⟩ = some (.string ⟨#[]⟩) := HR9.out.at.2
      have hb := set9_below HD9.out.b (.int .i64 4) (.string x) (.slice none 0 0) (.int .u64 0) (.int .u64 0) (.slice none 0 0) (.string ⟨#[]⟩) (.int .i64 0) (.string ⟨#[]⟩)
      go_wp2
      exact bodyPost_ret (v := .tuple #[.agg #[.int .i64 4, .string x, .slice none 0 0, .int .u64 0, .int .u64 0, .slice none 0 0, .string ⟨#[]⟩, .int .i64 0, .string ⟨#[]⟩], .int .i64 0]) (by simp [results, Try.results21, go_sem, d0, d1, d2, d3, d4, d5, d6, d7, d8, World.cell?_setCell_other, World.cell?_setCell_same']) rfl ⟨_, rfl, ⟨_, _, rfl, isEnts_nil _, isDigs_nil _⟩, hb⟩

set_option maxRecDepth 100000 in
set_option maxHeartbeats 8000000 in
theorem dec4_bad (s : BA) (hs : s.size ≤ 65536) (w : World) (r1 : Rd) (hI : rdI (s, false) = (4, r1)) (h1 : r1.1.size ≤ 65536) (x : BA) (r2 : Rd) (hT : rdT r1 = (x, r2)) (HQ : Hid (r2 = ((⟨#[]⟩, false) : Rd))) (c : Int) (hc : c ≠ 0) (HF : Hid (∀ W, Calls Try.prog 25 #[.agg #[.int .i64 4, .string x, .slice none 0 0, .int .u64 0, .int .u64 0, .slice none 0 0, .string ⟨#[]⟩, .int .i64 0, .string ⟨#[]⟩]] W fun e w' => e = .returned (.int .i64 c) ∧ Below W.heap.size W w')) :
    Calls Try.prog 21 #[.string s] w fun e w' => ∃ v, e = .returned (.tuple #[v, .int .i64 13]) ∧ IsOb w' v (zOb 0) ∧ Below w.heap.size w w' := by
  have hne : (c != 0) = true := by simpa using hc
  clear hc
  obtain ⟨R0, D0⟩ := dec_fresh w s
  have n1 : ¬ 65536 < s.size := by omega
  have IC : Hid (∀ W, RdAt W (w.heap.size + 1) (s, false) → Calls Try.prog 32 #[.pointer (some ⟨w.heap.size + 1, 0, none⟩)] W fun e w' => e = .returned (.int .i64 4) ∧ RdAt w' (w.heap.size + 1) r1 ∧ Only1 (w.heap.size + 1) W w') := Lib.hid fun W hW => intR_any _ (s, false) W hW (Nat.le_trans hs (by decide)) _ r1 hI
  clear hI
  go_enter Try.func21, Try.ntmps21
  go_wp2_with fail
  ((with_reducible refine (readR_any s _).mono ?_); rintro e w1 ⟨rfl, rfl⟩)
  go_wp2_with fail
  ((with_reducible refine (IC.out _ R0.rd).mono ?_); rintro e w2 ⟨rfl, hr1, ho1⟩)
  have R1 := R0.read hr1 ho1
  have D1 := D0.on2 (Only2.one ho1)
  clear R0 D0 hr1 ho1 IC
  obtain ⟨p0, p1, -, -, -, -, -, -, -, -⟩ := R1.at
  have f1 := R1.f 1
  have R2 := R1.setK 4
  have D2 := D1.on2 (Only2.two (Only1.set (N := w.heap.size + 1 + 1) w2 1 (.int .i64 4)))
  clear R1 D1
  go_wp2_with fail
  ((with_reducible refine (readers4 (w.heap.size + 1) _).mono ?_); rintro e w3 ⟨rfl, rfl⟩)
  obtain ⟨G, hG⟩ : ∃ G, (w2.setCell ⟨w.heap.size + 1 + 1, 1, none⟩ (.int .i64 4)).heap.size = G := ⟨_, rfl⟩
  have lG : w.heap.size + 1 + 1 < G := by rw [← hG]; exact R2.lt
  have XF : ((w2.setCell ⟨w.heap.size + 1 + 1, 1, none⟩ (.int .i64 4)).alloc (.cells #[.func (.func 60) #[.pointer (some ⟨w.heap.size + 1 + 1, 0, none⟩)] #[]] 1)).heap[G]? = some (.cells #[.func (.func 60) #[.pointer (some ⟨w.heap.size + 1 + 1, 0, none⟩)] #[]] 1 (0, 0)) := by rw [← hG]; exact World.alloc_heap_new _ _
  have R3 := Lib.hid (R2.on ((Below.refl _ _).alloc (Nat.le_refl _) (.cells #[.func (.func 60) #[.pointer (some ⟨w.heap.size + 1 + 1, 0, none⟩)] #[]] 1)))
  have D3 := Lib.hid (D2.on ((Below.refl _ _).alloc (Nat.le_refl _) (.cells #[.func (.func 60) #[.pointer (some ⟨w.heap.size + 1 + 1, 0, none⟩)] #[]] 1)))
  have HX := Lib.hid XF
  rw [hG]
  have HG := Lib.hid hG
  clear R2 D2 p0 p1 f1 XF hG
  go_wp2
  go_loopw [32] (fun s32 wr => (s32 = .int .i64 0 ∧ Hid (Ro (w.heap.size + 1) r1 4 ⟨#[]⟩ (.slice none 0 0) 0 0 (.slice none 0 0) ⟨#[]⟩ 0 ⟨#[]⟩ wr) ∧ Hid (Dc w wr) ∧ Hid (wr.heap[G]? = some (.cells #[.func (.func 60) #[.pointer (some ⟨w.heap.size + 1 + 1, 0, none⟩)] #[]] 1 (0, 0)))) ∨ (s32 = .int .i64 1 ∧ Hid (Ro (w.heap.size + 1) r2 4 x (.slice none 0 0) 0 0 (.slice none 0 0) ⟨#[]⟩ 0 ⟨#[]⟩ wr) ∧ Hid (Dc w wr))) (fun i _ => 1 - (intOf i).toNat)
  case atStart => exact .inl ⟨rfl, R3, D3, HX⟩
  case round =>
    rcases hrel with ⟨rfl, HR, HD, HX⟩ | ⟨rfl, HR, HD⟩
    · clear R3 D3
      have cf : wr.cell? ⟨G, 0, none⟩ = some (.func (.func 60) #[.pointer (some ⟨w.heap.size + 1 + 1, 0, none⟩)] #[]) := by rw [Lib.cell_of_heap HX.out]; rfl
      go_wp2_with fail
      ((with_reducible refine (dataM_any (w.heap.size + 1) r1 _ _ _ _ _ _ _ _ _ _ HR.out (Nat.le_trans h1 (by decide)) x r2 hT).mono ?_); rintro e w5 ⟨rfl, hR5, ho5⟩)
      have HR5 := Lib.hid hR5
      have HD5 := Lib.hid (HD.out.on2 ho5)
      clear hR5 ho5 cf
      go_wp2
      go_roundw
      case rel => exact .inr ⟨rfl, HR5, HD5⟩
      case measure => simp [intOf]
    · clear R3 D3 HX
      obtain ⟨q0, -, -, -, -, -, -, -, -, -⟩ := HR.out.at
      go_wp2_with fail
      ((with_reducible refine (doneR_true _ _ _ HR.out.rd HQ.out).mono ?_); rintro e w9 ⟨rfl, rfl⟩)
      clear q0
      obtain ⟨q1, q2, q3, q4, q5, q6, q7, q8, q9⟩ : w9.cell? ⟨w.heap.size + 1 + 1, 1, none⟩ = some (.int .i64 4) ∧ w9.cell? ⟨w.heap.size + 1 + 1, 2, none⟩ = some (.string x) ∧ w9.cell? ⟨w.heap.size + 1 + 1, 3, none⟩ = some (.slice none 0 0) ∧ w9.cell? ⟨w.heap.size + 1 + 1, 4, none⟩ = some (.int .u64 0) ∧ w9.cell? ⟨w.heap.size + 1 + 1, 5, none⟩ = some (.int .u64 0) ∧ w9.cell? ⟨w.heap.size + 1 + 1, 6, none⟩ = some (.slice none 0 0) ∧ w9.cell? ⟨w.heap.size + 1 + 1, 7, none⟩ = some (.string ⟨#[]⟩) ∧ w9.cell? ⟨w.heap.size + 1 + 1, 8, none⟩ = some (.int .i64 0) ∧ w9.cell? ⟨w.heap.size + 1 + 1, 9, none⟩ = some (.string ⟨#[]⟩) := HR.out.at.2
      go_wp2_with fail
      ((with_reducible refine (HF.out _ ).mono ?_); rintro e w9 ⟨rfl, hb9⟩)
      have HR9 := Lib.hid (HR.out.on hb9)
      have HD9 := Lib.hid (HD.out.on hb9)
      clear q1 q2 q3 q4 q5 q6 q7 q8 q9 hb9
      obtain ⟨d0, d1, d2, d3, d4, d5, d6, d7, d8⟩ := HD9.out.nine
      obtain ⟨f0, f1, f2, f3, f4, f5, f6, f7, f8⟩ := HD9.out.f
      have hb := set9_below HD9.out.b (.int .i64 0) (.string ⟨#[]⟩) (.slice none 0 0) (.int .u64 0) (.int .u64 0) (.slice none 0 0) (.string ⟨#[]⟩) (.int .i64 0) (.string ⟨#[]⟩)
      go_wp2
      exact bodyPost_ret (v := .tuple #[.agg #[.int .i64 0, .string ⟨#[]⟩, .slice none 0 0, .int .u64 0, .int .u64 0, .slice none 0 0, .string ⟨#[]⟩, .int .i64 0, .string ⟨#[]⟩], .int .i64 13]) (by simp [results, Try.results21, go_sem, d0, d1, d2, d3, d4, d5, d6, d7, d8, World.cell?_setCell_other, World.cell?_setCell_same']) rfl ⟨_, rfl, isOb_zero _, hb⟩

set_option maxRecDepth 100000 in
set_option maxHeartbeats 8000000 in
theorem dec4_not (s : BA) (hs : s.size ≤ 65536) (w : World) (r1 : Rd) (hI : rdI (s, false) = (4, r1)) (h1 : r1.1.size ≤ 65536) (x : BA) (r2 : Rd) (hT : rdT r1 = (x, r2)) (HQ : Hid (¬ r2 = ((⟨#[]⟩, false) : Rd))) :
    Calls Try.prog 21 #[.string s] w fun e w' => ∃ v, e = .returned (.tuple #[v, .int .i64 13]) ∧ IsOb w' v (zOb 0) ∧ Below w.heap.size w w' := by
  obtain ⟨R0, D0⟩ := dec_fresh w s
  have n1 : ¬ 65536 < s.size := by omega
  have IC : Hid (∀ W, RdAt W (w.heap.size + 1) (s, false) → Calls Try.prog 32 #[.pointer (some ⟨w.heap.size + 1, 0, none⟩)] W fun e w' => e = .returned (.int .i64 4) ∧ RdAt w' (w.heap.size + 1) r1 ∧ Only1 (w.heap.size + 1) W w') := Lib.hid fun W hW => intR_any _ (s, false) W hW (Nat.le_trans hs (by decide)) _ r1 hI
  clear hI
  go_enter Try.func21, Try.ntmps21
  go_wp2_with fail
  ((with_reducible refine (readR_any s _).mono ?_); rintro e w1 ⟨rfl, rfl⟩)
  go_wp2_with fail
  ((with_reducible refine (IC.out _ R0.rd).mono ?_); rintro e w2 ⟨rfl, hr1, ho1⟩)
  have R1 := R0.read hr1 ho1
  have D1 := D0.on2 (Only2.one ho1)
  clear R0 D0 hr1 ho1 IC
  obtain ⟨p0, p1, -, -, -, -, -, -, -, -⟩ := R1.at
  have f1 := R1.f 1
  have R2 := R1.setK 4
  have D2 := D1.on2 (Only2.two (Only1.set (N := w.heap.size + 1 + 1) w2 1 (.int .i64 4)))
  clear R1 D1
  go_wp2_with fail
  ((with_reducible refine (readers4 (w.heap.size + 1) _).mono ?_); rintro e w3 ⟨rfl, rfl⟩)
  obtain ⟨G, hG⟩ : ∃ G, (w2.setCell ⟨w.heap.size + 1 + 1, 1, none⟩ (.int .i64 4)).heap.size = G := ⟨_, rfl⟩
  have lG : w.heap.size + 1 + 1 < G := by rw [← hG]; exact R2.lt
  have XF : ((w2.setCell ⟨w.heap.size + 1 + 1, 1, none⟩ (.int .i64 4)).alloc (.cells #[.func (.func 60) #[.pointer (some ⟨w.heap.size + 1 + 1, 0, none⟩)] #[]] 1)).heap[G]? = some (.cells #[.func (.func 60) #[.pointer (some ⟨w.heap.size + 1 + 1, 0, none⟩)] #[]] 1 (0, 0)) := by rw [← hG]; exact World.alloc_heap_new _ _
  have R3 := Lib.hid (R2.on ((Below.refl _ _).alloc (Nat.le_refl _) (.cells #[.func (.func 60) #[.pointer (some ⟨w.heap.size + 1 + 1, 0, none⟩)] #[]] 1)))
  have D3 := Lib.hid (D2.on ((Below.refl _ _).alloc (Nat.le_refl _) (.cells #[.func (.func 60) #[.pointer (some ⟨w.heap.size + 1 + 1, 0, none⟩)] #[]] 1)))
  have HX := Lib.hid XF
  rw [hG]
  have HG := Lib.hid hG
  clear R2 D2 p0 p1 f1 XF hG
  go_wp2
  go_loopw [32] (fun s32 wr => (s32 = .int .i64 0 ∧ Hid (Ro (w.heap.size + 1) r1 4 ⟨#[]⟩ (.slice none 0 0) 0 0 (.slice none 0 0) ⟨#[]⟩ 0 ⟨#[]⟩ wr) ∧ Hid (Dc w wr) ∧ Hid (wr.heap[G]? = some (.cells #[.func (.func 60) #[.pointer (some ⟨w.heap.size + 1 + 1, 0, none⟩)] #[]] 1 (0, 0)))) ∨ (s32 = .int .i64 1 ∧ Hid (Ro (w.heap.size + 1) r2 4 x (.slice none 0 0) 0 0 (.slice none 0 0) ⟨#[]⟩ 0 ⟨#[]⟩ wr) ∧ Hid (Dc w wr))) (fun i _ => 1 - (intOf i).toNat)
  case atStart => exact .inl ⟨rfl, R3, D3, HX⟩
  case round =>
    rcases hrel with ⟨rfl, HR, HD, HX⟩ | ⟨rfl, HR, HD⟩
    · clear R3 D3
      have cf : wr.cell? ⟨G, 0, none⟩ = some (.func (.func 60) #[.pointer (some ⟨w.heap.size + 1 + 1, 0, none⟩)] #[]) := by rw [Lib.cell_of_heap HX.out]; rfl
      go_wp2_with fail
      ((with_reducible refine (dataM_any (w.heap.size + 1) r1 _ _ _ _ _ _ _ _ _ _ HR.out (Nat.le_trans h1 (by decide)) x r2 hT).mono ?_); rintro e w5 ⟨rfl, hR5, ho5⟩)
      have HR5 := Lib.hid hR5
      have HD5 := Lib.hid (HD.out.on2 ho5)
      clear hR5 ho5 cf
      go_wp2
      go_roundw
      case rel => exact .inr ⟨rfl, HR5, HD5⟩
      case measure => simp [intOf]
    · clear R3 D3 HX
      obtain ⟨q0, -, -, -, -, -, -, -, -, -⟩ := HR.out.at
      go_wp2_with fail
      ((with_reducible refine (doneR_false _ _ _ HR.out.rd HQ.out).mono ?_); rintro e w9 ⟨rfl, rfl⟩)
      clear q0
      obtain ⟨d0, d1, d2, d3, d4, d5, d6, d7, d8⟩ := HD.out.nine
      obtain ⟨f0, f1, f2, f3, f4, f5, f6, f7, f8⟩ := HD.out.f
      have hb := set9_below HD.out.b (.int .i64 0) (.string ⟨#[]⟩) (.slice none 0 0) (.int .u64 0) (.int .u64 0) (.slice none 0 0) (.string ⟨#[]⟩) (.int .i64 0) (.string ⟨#[]⟩)
      go_wp2
      exact bodyPost_ret (v := .tuple #[.agg #[.int .i64 0, .string ⟨#[]⟩, .slice none 0 0, .int .u64 0, .int .u64 0, .slice none 0 0, .string ⟨#[]⟩, .int .i64 0, .string ⟨#[]⟩], .int .i64 13]) (by simp [results, Try.results21, go_sem, d0, d1, d2, d3, d4, d5, d6, d7, d8, World.cell?_setCell_other, World.cell?_setCell_same']) rfl ⟨_, rfl, isOb_zero _, hb⟩

set_option maxRecDepth 100000 in
set_option maxHeartbeats 8000000 in
theorem dec0_not (s : BA) (hs : s.size ≤ 65536) (w : World) (k : Nat) (hk : ¬ (k = 1 ∨ k = 2 ∨ k = 3 ∨ k = 4)) (r1 : Rd) (hI : rdI (s, false) = (k, r1)) (HQ : Hid (¬ rdBad = ((⟨#[]⟩, false) : Rd))) :
    Calls Try.prog 21 #[.string s] w fun e w' => ∃ v, e = .returned (.tuple #[v, .int .i64 13]) ∧ IsOb w' v (zOb 0) ∧ Below w.heap.size w w' := by
  obtain ⟨R0, D0⟩ := dec_fresh w s
  have n1 : ¬ 65536 < s.size := by omega
  have IC : Hid (∀ W, RdAt W (w.heap.size + 1) (s, false) → Calls Try.prog 32 #[.pointer (some ⟨w.heap.size + 1, 0, none⟩)] W fun e w' => e = .returned (.int .i64 k) ∧ RdAt w' (w.heap.size + 1) r1 ∧ Only1 (w.heap.size + 1) W w') := Lib.hid fun W hW => intR_any _ (s, false) W hW (Nat.le_trans hs (by decide)) _ r1 hI
  clear hI
  go_enter Try.func21, Try.ntmps21
  go_wp2_with fail
  ((with_reducible refine (readR_any s _).mono ?_); rintro e w1 ⟨rfl, rfl⟩)
  go_wp2_with fail
  ((with_reducible refine (IC.out _ R0.rd).mono ?_); rintro e w2 ⟨rfl, hr1, ho1⟩)
  have R1 := R0.read hr1 ho1
  have D1 := D0.on2 (Only2.one ho1)
  clear R0 D0 hr1 ho1 IC
  obtain ⟨p0, p1, -, -, -, -, -, -, -, -⟩ := R1.at
  have f1 := R1.f 1
  have R2 := R1.setK k
  have D2 := D1.on2 (Only2.two (Only1.set (N := w.heap.size + 1 + 1) w2 1 (.int .i64 k)))
  clear R1 D1
  go_wp2_with fail
  ((with_reducible refine (readers0 (w.heap.size + 1) k hk _ R2.at.1).mono ?_); rintro e w3 ⟨rfl, rfl⟩)
  obtain ⟨G, hG⟩ : ∃ G, (w2.setCell ⟨w.heap.size + 1 + 1, 1, none⟩ (.int .i64 k)).heap.size = G := ⟨_, rfl⟩
  have lG : w.heap.size + 1 + 1 < G := by rw [← hG]; exact R2.lt
  have XF : ((w2.setCell ⟨w.heap.size + 1 + 1, 1, none⟩ (.int .i64 k)).alloc (.cells #[.func (.func 58) #[.pointer (some ⟨w.heap.size + 1, 0, none⟩)] #[]] 1)).heap[G]? = some (.cells #[.func (.func 58) #[.pointer (some ⟨w.heap.size + 1, 0, none⟩)] #[]] 1 (0, 0)) := by rw [← hG]; exact World.alloc_heap_new _ _
  have R3 := Lib.hid (R2.on ((Below.refl _ _).alloc (Nat.le_refl _) (.cells #[.func (.func 58) #[.pointer (some ⟨w.heap.size + 1, 0, none⟩)] #[]] 1)))
  have D3 := Lib.hid (D2.on ((Below.refl _ _).alloc (Nat.le_refl _) (.cells #[.func (.func 58) #[.pointer (some ⟨w.heap.size + 1, 0, none⟩)] #[]] 1)))
  have HX := Lib.hid XF
  rw [hG]
  have HG := Lib.hid hG
  clear R2 D2 p0 p1 f1 XF hG
  go_wp2
  go_loopw [32] (fun s32 wr => (s32 = .int .i64 0 ∧ Hid (Ro (w.heap.size + 1) r1 k ⟨#[]⟩ (.slice none 0 0) 0 0 (.slice none 0 0) ⟨#[]⟩ 0 ⟨#[]⟩ wr) ∧ Hid (Dc w wr) ∧ Hid (wr.heap[G]? = some (.cells #[.func (.func 58) #[.pointer (some ⟨w.heap.size + 1, 0, none⟩)] #[]] 1 (0, 0)))) ∨ (s32 = .int .i64 1 ∧ Hid (Ro (w.heap.size + 1) rdBad k ⟨#[]⟩ (.slice none 0 0) 0 0 (.slice none 0 0) ⟨#[]⟩ 0 ⟨#[]⟩ wr) ∧ Hid (Dc w wr))) (fun i _ => 1 - (intOf i).toNat)
  case atStart => exact .inl ⟨rfl, R3, D3, HX⟩
  case round =>
    rcases hrel with ⟨rfl, HR, HD, HX⟩ | ⟨rfl, HR, HD⟩
    · clear R3 D3
      have cf : wr.cell? ⟨G, 0, none⟩ = some (.func (.func 58) #[.pointer (some ⟨w.heap.size + 1, 0, none⟩)] #[]) := by rw [Lib.cell_of_heap HX.out]; rfl
      have FA := Lib.hid (fail_any (w.heap.size + 1) r1 wr HR.out.rd)
      unfold Reads at FA
      go_wp2_with fail
      ((with_reducible refine FA.out.mono ?_); rintro e w5 ⟨rfl, hr5, ho5⟩)
      have HR5 := Lib.hid (HR.out.read hr5 ho5)
      have HD5 := Lib.hid (HD.out.on2 (Only2.one ho5))
      clear hr5 ho5 cf FA
      go_wp2
      go_roundw
      case rel => exact .inr ⟨rfl, HR5, HD5⟩
      case measure => simp [intOf]
    · clear R3 D3 HX
      obtain ⟨q0, -, -, -, -, -, -, -, -, -⟩ := HR.out.at
      go_wp2_with fail
      ((with_reducible refine (doneR_false _ _ _ HR.out.rd HQ.out).mono ?_); rintro e w9 ⟨rfl, rfl⟩)
      clear q0
      obtain ⟨d0, d1, d2, d3, d4, d5, d6, d7, d8⟩ := HD.out.nine
      obtain ⟨f0, f1, f2, f3, f4, f5, f6, f7, f8⟩ := HD.out.f
      have hb := set9_below HD.out.b (.int .i64 0) (.string ⟨#[]⟩) (.slice none 0 0) (.int .u64 0) (.int .u64 0) (.slice none 0 0) (.string ⟨#[]⟩) (.int .i64 0) (.string ⟨#[]⟩)
      go_wp2
      exact bodyPost_ret (v := .tuple #[.agg #[.int .i64 0, .string ⟨#[]⟩, .slice none 0 0, .int .u64 0, .int .u64 0, .slice none 0 0, .string ⟨#[]⟩, .int .i64 0, .string ⟨#[]⟩], .int .i64 13]) (by simp [results, Try.results21, go_sem, d0, d1, d2, d3, d4, d5, d6, d7, d8, World.cell?_setCell_other, World.cell?_setCell_same']) rfl ⟨_, rfl, isOb_zero _, hb⟩
end Go.Proofs.Ytiaahjoldahlnaa
