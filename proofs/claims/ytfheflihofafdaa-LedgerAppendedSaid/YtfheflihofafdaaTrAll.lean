/- TrBits, TrBase, TrOf, TrRef, TrBytes, TrPair, TrVerify1, TrVerify2, TrVerify3, TrVerify4, TrVerify5, TrTree1, TrTree2, TrTree3: texts joined, at this translation. -/
import Derived.Shelf.Small.Bits
import Derived.Test.YtfheflihofafdaaProg
import Derived.Below
import Derived.LoopTactic
import Derived.Lib.Hide
import Derived.WalkKit
import Derived.Maps.AppendAt
import Derived.RangeFuncBox
import Derived.Laws.IdiomStrings
import Derived.Deep.RegionHeld3
import Derived.BigQuiet
import Derived.Lib.UnsafeStr
import Derived.Lib.Bytealg
import Derived.Lib.IndexLaws
import Derived.Laws.Bits64
import Derived.Laws.BitsLemmas
import Derived.Shelf.Strings.Builder1
import Derived.Deep.AppendLies
import Derived.Deep.Onto
/- math/bits.Len off the shelf, at this translation, in plain words. -/
namespace Go.Proofs
open Go.Shelf
def Try.lays125_ren : Go.Shelf.Ren := ⟨fun | 125 => 71 | 128 => 81 | 129 => 82 | n => n, fun | 46 => 94 | 3 => 3 | 51 => 101 | 53 => 38 | 4 => 4 | 5 => 5 | 9 => 9 | n => n, fun | n => n⟩
theorem Try.lays125 : Go.Proofs.Lays.n125 Try.prog Try.lays125_ren := {
  mixed := by kernel_rfl
  f125 := Try.func71.trans (congrArg some (by kernel_rfl))
  f128 := Try.func81.trans (congrArg some (by kernel_rfl))
  f129 := Try.func82.trans (congrArg some (by kernel_rfl))
  t3 := Try.underlying3
  a3 := Try.isAgg3
  z3 := Try.sizeOf3
  v3 := Try.zeroValue3
  t4 := Try.underlying4
  a4 := Try.isAgg4
  z4 := Try.sizeOf4
  v4 := Try.zeroValue4
  t5 := Try.underlying5
  a5 := Try.isAgg5
  z5 := Try.sizeOf5
  v5 := Try.zeroValue5
  t9 := Try.underlying9
  a9 := Try.isAgg9
  z9 := Try.sizeOf9
  v9 := Try.zeroValue9
  t46 := Try.underlying94
  a46 := Try.isAgg94
  z46 := Try.sizeOf94
  v46 := Try.zeroValue94
  t51 := Try.underlying101
  a51 := Try.isAgg101
  z51 := Try.sizeOf101
  v51 := Try.zeroValue101
  t53 := Try.underlying38
  a53 := Try.isAgg38
  z53 := Try.sizeOf38
  v53 := Try.zeroValue38 }
/-- bits.Len: "Len returns the minimum number of bits required to represent x; the result is 0 for x == 0.": IT RETURNS 'Lib.bitLen x'; the world is as it was. (A uint has 64 bits in the model.) ITS CALLEE bits.Len64 IS MET BY ITS OWN CONTRACT OFF THE SHELF (lay that first). (LAID: no walk: one application.) -/
theorem Try.bits_Len (x : Int) (w : World) (h0 : 0 ≤ x) (h1 : x ≤ 18446744073709551615) :
    Calls Try.prog 71 #[.int .u64 x] w fun e w' => e = .returned (.int .i64 (Lib.bitLen x.toNat)) ∧ w' = w := Any.bits_Len Try.lays125 x w h0 h1
end Go.Proofs

/- What the texts about digests and their trees share, at this translation. -/
namespace Go.Proofs.Ytfheflihofafdaa.Tr
open Go.RowKit
theorem info5 : (Try.prog.info? 5).map (fun i => (i.zero, i.size, i.bytes)) = some (some (.int .u8 0), 1, 1) := by kernel_rfl
theorem byteCells_snoc (l : List UInt8) (c : UInt8) : Lib.byteCells (l ++ [c]) = Lib.byteCells l ++ [.int .u8 c.toNat] := by
  simp [Lib.byteCells]
/-- A block of two numbers, which can be written. -/
def Two (w : World) (b : Nat) (x y : Int) : Prop :=
  w.cell? ⟨b, 0, none⟩ = some (.int .u64 x) ∧ w.cell? ⟨b, 1, none⟩ = some (.int .u64 y) ∧ w.frozen? ⟨b, 0, none⟩ = false ∧ w.frozen? ⟨b, 1, none⟩ = false
theorem Two.set0 {w : World} {b : Nat} {x y : Int} (h : Two w b x y) (z : Int) : Two (w.setCell ⟨b, 0, none⟩ (.int .u64 z)) b z y :=
  ⟨World.cell?_setCell_same' _ _ _ (by rw [h.1]; rfl), (World.cell?_setCell_other w _ _ _ (by simp)).trans h.2.1, (World.frozen?_setCell ..).trans h.2.2.1, (World.frozen?_setCell ..).trans h.2.2.2⟩
theorem Two.set1 {w : World} {b : Nat} {x y : Int} (h : Two w b x y) (z : Int) : Two (w.setCell ⟨b, 1, none⟩ (.int .u64 z)) b x z :=
  ⟨(World.cell?_setCell_other w _ _ _ (by simp)).trans h.1, World.cell?_setCell_same' _ _ _ (by rw [h.2.1]; rfl), (World.frozen?_setCell ..).trans h.2.2.1, (World.frozen?_setCell ..).trans h.2.2.2⟩
theorem Two.far {w : World} {b : Nat} {x y : Int} (h : Two w b x y) (p : Addr) (hp : p.block ≠ b) (v : Value) : Two (w.setCell p v) b x y :=
  ⟨(World.cell?_setCell_other w _ _ _ (by rintro rfl; exact hp rfl)).trans h.1, (World.cell?_setCell_other w _ _ _ (by rintro rfl; exact hp rfl)).trans h.2.1, (World.frozen?_setCell ..).trans h.2.2.1, (World.frozen?_setCell ..).trans h.2.2.2⟩
theorem Two.below {w w' : World} {B b : Nat} {x y : Int} (h : Two w b x y) (hB : Below B w w') (hb : b < B) : Two w' b x y :=
  ⟨(hB.cell (p := ⟨b, 0, none⟩) hb).trans h.1, (hB.cell (p := ⟨b, 1, none⟩) hb).trans h.2.1, (hB.frozen (p := ⟨b, 0, none⟩) hb).trans h.2.2.1, (hB.frozen (p := ⟨b, 1, none⟩) hb).trans h.2.2.2⟩
theorem Two.fresh (w : World) (x y : Int) (T : TypeId) : Two (w.alloc (.cells #[.int .u64 x, .int .u64 y] T)) w.heap.size x y := by
  refine ⟨?_, ?_, ?_, ?_⟩ <;> simp
theorem Two.alloc {w : World} {b : Nat} {x y : Int} (h : Two w b x y) (hb : b < w.heap.size) (o : Obj) : Two (w.alloc o) b x y :=
  h.below (((Below.refl w.heap.size w).alloc (Nat.le_refl _) o)) hb
theorem bl {a b c : World} (h : Below a.heap.size a b) (k : Below b.heap.size b c) : Below a.heap.size a c := h.trans (k.mono h.size)
theorem bla {a b : World} (h : Below a.heap.size a b) (o : Obj) : Below a.heap.size a (b.alloc o) := h.alloc h.size o
/-- What the law's two boxes hold, in a later world. -/
def Held (w : World) (a0 a1 b0 b1 : Int) (w' : World) : Prop :=
  (w'.cell? ⟨w.heap.size, 0, none⟩ = some (.int .u64 a0) ∧ w'.cell? ⟨w.heap.size, 1, none⟩ = some (.int .u64 a1) ∧ w'.cell? ⟨w.heap.size + 1, 0, none⟩ = some (.int .u64 b0) ∧ w'.cell? ⟨w.heap.size + 1, 1, none⟩ = some (.int .u64 b1)) ∧
    w.heap.size + 2 ≤ w'.heap.size ∧ Below w.heap.size w w'
theorem Held.on {w W W' : World} {a0 a1 b0 b1 : Int} (h : Held w a0 a1 b0 b1 W) (hB : Below W.heap.size W W') : Held w a0 a1 b0 b1 W' := by
  obtain ⟨⟨c1, c2, c3, c4⟩, hz, hb⟩ := h
  refine ⟨⟨(hB.cell (p := ⟨w.heap.size, 0, none⟩) ?_).trans c1, (hB.cell (p := ⟨w.heap.size, 1, none⟩) ?_).trans c2, (hB.cell (p := ⟨w.heap.size + 1, 0, none⟩) ?_).trans c3, (hB.cell (p := ⟨w.heap.size + 1, 1, none⟩) ?_).trans c4⟩, Nat.le_trans hz hB.size, bl hb hB⟩ <;> (show _ < W.heap.size; simp; omega)
/-- Function f, called with these arguments, makes memory alone and returns the value v. -/
def Gives (f : Nat) (args : Array Value) (v : Value) : Prop := ∀ w : World, Calls Try.prog f args w fun e w' => e = .returned v ∧ Below w.heap.size w w'
end Go.Proofs.Ytfheflihofafdaa.Tr

/- digest.Of: two hashes of a string, at this translation; and the two examples of the chapter (awake). -/
namespace Go.Proofs.Ytfheflihofafdaa.Tr
open Go.RowKit

def g1 (h b : Int) : Int := IntKind.u64.wrap (bits BinOp.xor IntKind.u64 h b * 1099511628211)
def g2 (h b : Int) : Int := bits BinOp.xor IntKind.u64 (IntKind.u64.wrap (h * 1099511628211)) b
def start : Int := 14695981039346656037

theorem step1_any (h b : Int) (w : World) :
    Calls Try.prog 73 #[.int .u64 h, .int .u64 b] w fun e w' => e = .returned (.int .u64 (g1 h b)) ∧ w = w' := by
  go_enter Try.func73, Try.ntmps73
  go_wp2
  go_ret
  exact ⟨rfl, rfl⟩
theorem step2_any (h b : Int) (w : World) :
    Calls Try.prog 74 #[.int .u64 h, .int .u64 b] w fun e w' => e = .returned (.int .u64 (g2 h b)) ∧ w = w' := by
  go_enter Try.func74, Try.ntmps74
  go_wp2
  go_ret
  exact ⟨rfl, rfl⟩

def hs (g : Int → Int → Int) (l : List UInt8) : Int := l.foldl (fun h c => g h (IntKind.u64.wrap (c.toNat : Int))) start

theorem hs_snoc (g : Int → Int → Int) (l : List UInt8) (c : UInt8) : hs g (l ++ [c]) = g (hs g l) (IntKind.u64.wrap (c.toNat : Int)) := by
  simp [hs]

theorem take_snoc (s : ByteArray) (k : Nat) (h : k < s.size) : s.data.toList.take (k + 1) = s.data.toList.take k ++ [s[k]] := by
  rw [List.take_succ_eq_append_getElem (by simpa using h)]; rfl

theorem ret_int {k : IntKind} {a b : Int} (h : a = b) : Ending.returned (.int k a) = .returned (.int k b) := by rw [h]

set_option maxHeartbeats 400000 in
set_option maxRecDepth 100000 in
theorem hash1_any (s : ByteArray) (w : World) (hs0 : s.size ≤ maxLen) :
    Calls Try.prog 72 #[.string s, .func (.func 73) #[] #[]] w fun e w' => e = .returned (.int .u64 (hs g1 s.data.toList)) ∧ w = w' := by
  unfold maxLen at hs0
  go_enter Try.func72, Try.ntmps72
  go_wp2
  go_loop [5, 9] (fun h i => ∃ k : Nat, k ≤ s.size ∧ i = .int .i64 k ∧ h = .int .u64 (hs g1 (s.data.toList.take k))) (fun _ i => s.size - (intOf i).toNat)
  case atStart => exact ⟨0, Nat.zero_le _, rfl, rfl⟩
  case round =>
    obtain ⟨k, hk, rfl, rfl⟩ := hrel
    by_cases hlt : k < s.size
    · have hsn := hs_snoc g1 (s.data.toList.take k) s[k]
      rw [← take_snoc s k hlt] at hsn
      have HS := Lib.hid hsn
      clear hsn
      go_wp2_with (go_at_call 73; refine (step1_any _ _ _).mono ?_; rintro e w' ⟨rfl, rfl⟩)
      go_round
      case rel => exact ⟨k + 1, by omega, by go_num, by rw [HS.out]⟩
      case measure => simp [intOf]; omega
    · go_wp2
      go_ret
      exact ⟨ret_int (by rw [List.take_of_length_le (by simp; omega)]), rfl⟩

set_option maxHeartbeats 400000 in
set_option maxRecDepth 100000 in
theorem hash2_any (s : ByteArray) (w : World) (hs0 : s.size ≤ maxLen) :
    Calls Try.prog 72 #[.string s, .func (.func 74) #[] #[]] w fun e w' => e = .returned (.int .u64 (hs g2 s.data.toList)) ∧ w = w' := by
  unfold maxLen at hs0
  go_enter Try.func72, Try.ntmps72
  go_wp2
  go_loop [5, 9] (fun h i => ∃ k : Nat, k ≤ s.size ∧ i = .int .i64 k ∧ h = .int .u64 (hs g2 (s.data.toList.take k))) (fun _ i => s.size - (intOf i).toNat)
  case atStart => exact ⟨0, Nat.zero_le _, rfl, rfl⟩
  case round =>
    obtain ⟨k, hk, rfl, rfl⟩ := hrel
    by_cases hlt : k < s.size
    · have hsn := hs_snoc g2 (s.data.toList.take k) s[k]
      rw [← take_snoc s k hlt] at hsn
      have HS := Lib.hid hsn
      clear hsn
      go_wp2_with (go_at_call 74; refine (step2_any _ _ _).mono ?_; rintro e w' ⟨rfl, rfl⟩)
      go_round
      case rel => exact ⟨k + 1, by omega, by go_num, by rw [HS.out]⟩
      case measure => simp [intOf]; omega
    · go_wp2
      go_ret
      exact ⟨ret_int (by rw [List.take_of_length_le (by simp; omega)]), rfl⟩

/-- Two digests are compared number by number. -/
theorem eq_arr (a b c d : Int) (w : World) : (Op.equalIn 10000 40 (.agg #[.int .u64 a, .int .u64 b]) (.agg #[.int .u64 c, .int .u64 d])).run Try.prog w = .ok (a == c && b == d) w := by
  have hi := fun (n : Nat) (x y : Int) (w : World) => run_equalIn_int (P := Try.prog) w n 38 .u64 .u64 x y Try.underlying38
  show (Op.equalIn (9998 + 1 + 1) 40 _ _).run Try.prog w = _
  generalize 9998 = n
  unfold Op.equalIn
  simp [go_sem, run_underlying Try.underlying40, Try.sizeOf38]
  rw [show List.range' 0 2 = [0, 1] from rfl]
  simp only [List.forIn_cons, List.forIn_nil]
  cases h1 : (a == c) <;> cases h2 : (b == d) <;> simp [go_sem, Try.isAgg38, hi, h1, h2]
attribute [local go_sem] eq_arr

def of0 (l : List UInt8) : Int := hs g1 l
def of1 (l : List UInt8) : Int := if hs g1 l = 0 ∧ hs g2 l = 0 then 1 else hs g2 l

set_option maxHeartbeats 400000 in
set_option maxRecDepth 100000 in
theorem of_any (s : ByteArray) (w : World) (hs0 : s.size ≤ maxLen) :
    Calls Try.prog 57 #[.string s] w fun e w' => e = .returned (.agg #[.int .u64 (of0 s.data.toList), .int .u64 (of1 s.data.toList)]) ∧ Below w.heap.size w w' := by
  by_cases hz : hs g1 s.data.toList = 0 ∧ hs g2 s.data.toList = 0
  · have e0 : of0 s.data.toList = hs g1 s.data.toList := rfl
    have e1 : of1 s.data.toList = 1 := by unfold of1; rw [if_pos hz]
    have ht : (hs g1 s.data.toList == 0 && hs g2 s.data.toList == 0) = true := by simp [hz.1, hz.2]
    rw [e0, e1]
    clear e0 e1 hz
    go_enter Try.func57, Try.ntmps57
    go_wp2_with fail
    refine (hash1_any _ _ hs0).mono ?_
    rintro e w' ⟨rfl, rfl⟩
    go_wp2_with fail
    refine (hash2_any _ _ hs0).mono ?_
    rintro e w' ⟨rfl, rfl⟩
    go_wp2
    exact bodyPost_ret (v := .agg #[.int .u64 (hs g1 s.data.toList), .int .u64 1]) (by simp [results, Try.results57, go_sem]) rfl ⟨rfl, ((Below.refl _ _).alloc (Nat.le_refl _) _).alloc (by simp) _⟩
  · have e0 : of0 s.data.toList = hs g1 s.data.toList := rfl
    have e1 : of1 s.data.toList = hs g2 s.data.toList := by unfold of1; rw [if_neg hz]
    have ht : (hs g1 s.data.toList == 0 && hs g2 s.data.toList == 0) = false := by simpa using hz
    rw [e0, e1]
    clear e0 e1 hz
    go_enter Try.func57, Try.ntmps57
    go_wp2_with fail
    refine (hash1_any _ _ hs0).mono ?_
    rintro e w' ⟨rfl, rfl⟩
    go_wp2_with fail
    refine (hash2_any _ _ hs0).mono ?_
    rintro e w' ⟨rfl, rfl⟩
    go_wp2
    exact bodyPost_ret (v := .agg #[.int .u64 (hs g1 s.data.toList), .int .u64 (hs g2 s.data.toList)]) (by simp [results, Try.results57, go_sem]) rfl ⟨rfl, ((Below.refl _ _).alloc (Nat.le_refl _) _).alloc (by simp) _⟩

theorem of_nil : of0 [] = 14695981039346656037 ∧ of1 [] = 14695981039346656037 := by decide +kernel
theorem of_a : of0 [97] = 12638187200555641996 ∧ of1 [97] = 12638153115695167422 := by decide +kernel
theorem of_empty (w : World) : Calls Try.prog 57 #[.string ⟨#[]⟩] w fun e w' => e = .returned (.agg #[.int .u64 14695981039346656037, .int .u64 14695981039346656037]) ∧ Below w.heap.size w w' := by
  refine (of_any ⟨#[]⟩ w (Nat.zero_le _)).mono ?_
  rintro e w' ⟨rfl, hB⟩
  exact ⟨by rw [show (ByteArray.mk #[]).data.toList = [] from rfl, of_nil.1, of_nil.2], hB⟩
theorem of_letter (w : World) : Calls Try.prog 57 #[.string ⟨#[97]⟩] w fun e w' => e = .returned (.agg #[.int .u64 12638187200555641996, .int .u64 12638153115695167422]) ∧ Below w.heap.size w w' := by
  refine (of_any ⟨#[97]⟩ w (by decide)).mono ?_
  rintro e w' ⟨rfl, hB⟩
  exact ⟨by rw [show (ByteArray.mk #[97]).data.toList = [97] from rfl, of_a.1, of_a.2], hB⟩

end Go.Proofs.Ytfheflihofafdaa.Tr

/- The reference implementation's Of, Compare, bytes, Node and Pair, and the program's bytesOf and Pair, at this translation. -/
namespace Go.Proofs.Ytfheflihofafdaa.Tr
open Go.RowKit
attribute [local go_sem] eq_arr

set_option maxHeartbeats 400000 in
set_option maxRecDepth 100000 in
theorem refOf_any (s : ByteArray) (w : World) (hs0 : s.size ≤ maxLen) :
    Calls Try.prog 29 #[.string s] w fun e w' => e = .returned (.agg #[.int .u64 (of0 s.data.toList), .int .u64 (of1 s.data.toList)]) ∧ Below w.heap.size w w' := by
  unfold maxLen at hs0
  go_enter Try.func29, Try.ntmps29
  go_wp2
  go_loop [3, 4, 5] (fun a b i => ∃ k : Nat, k ≤ s.size ∧ i = .int .i64 k ∧ a = .int .u64 (hs g1 (s.data.toList.take k)) ∧ b = .int .u64 (hs g2 (s.data.toList.take k))) (fun _ _ i => s.size - (intOf i).toNat)
  case atStart => exact ⟨0, Nat.zero_le _, rfl, rfl, rfl⟩
  case round =>
    obtain ⟨k, hk, rfl, rfl, rfl⟩ := hrel
    by_cases hlt : k < s.size
    · have h1 := hs_snoc g1 (s.data.toList.take k) s[k]
      have h2 := hs_snoc g2 (s.data.toList.take k) s[k]
      rw [← take_snoc s k hlt] at h1 h2
      have H1 := Lib.hid h1
      have H2 := Lib.hid h2
      clear h1 h2
      go_wp2
      go_round
      case rel => exact ⟨k + 1, by omega, by go_num, by rw [H1.out]; rfl, by rw [H2.out]; rfl⟩
      case measure => simp [intOf]; omega
    · have hks : s.data.toList.take k = s.data.toList := List.take_of_length_le (by simp; omega)
      rw [hks]
      clear hks
      by_cases hz : hs g1 s.data.toList = 0 ∧ hs g2 s.data.toList = 0
      · have e1 : of1 s.data.toList = 1 := by unfold of1; rw [if_pos hz]
        have t1 : (hs g1 s.data.toList == 0) = true := by simp [hz.1]
        have t2 : (hs g2 s.data.toList == 0) = true := by simp [hz.2]
        have E1 := Lib.hid e1
        clear e1 hz
        go_wp2
        exact bodyPost_ret (v := .agg #[.int .u64 (hs g1 s.data.toList), .int .u64 1]) (by simp [results, Try.results29, go_sem]) rfl ⟨by rw [E1.out]; rfl, bla (Below.refl _ _) _⟩
      · have e1 : of1 s.data.toList = hs g2 s.data.toList := by unfold of1; rw [if_neg hz]
        have E1 := Lib.hid e1
        clear e1
        cases t1 : (hs g1 s.data.toList == 0)
        · clear hz
          go_wp2
          exact bodyPost_ret (v := .agg #[.int .u64 (hs g1 s.data.toList), .int .u64 (hs g2 s.data.toList)]) (by simp [results, Try.results29, go_sem]) rfl ⟨by rw [E1.out]; rfl, bla (Below.refl _ _) _⟩
        · have t2 : (hs g2 s.data.toList == 0) = false := by
            have : hs g1 s.data.toList = 0 := by simpa using t1
            simpa [this] using hz
          clear hz
          go_wp2
          exact bodyPost_ret (v := .agg #[.int .u64 (hs g1 s.data.toList), .int .u64 (hs g2 s.data.toList)]) (by simp [results, Try.results29, go_sem]) rfl ⟨by rw [E1.out]; rfl, bla (Below.refl _ _) _⟩

theorem blN {B : Nat} {a b : World} (h : Below B a b) (n : Nat) : Below B a (b.drewN n) := ⟨h.os, h.tape, h.output, h.size, h.block⟩
theorem Held.drewN {w W : World} {a0 a1 b0 b1 : Int} (h : Held w a0 a1 b0 b1 W) (n : Nat) : Held w a0 a1 b0 b1 (W.drewN n) := ⟨h.1, h.2.1, blN h.2.2 n⟩

end Go.Proofs.Ytfheflihofafdaa.Tr

/- The program's bytesOf and the reference's bytes: the sixteen bytes of a digest, at this translation. -/
namespace Go.Proofs.Ytfheflihofafdaa.Tr
open Go.RowKit
attribute [local go_sem] eq_arr

/-- The last w digits in base 256, the most significant one first. -/
def byW : Nat → Nat → List UInt8
  | 0, _ => []
  | w + 1, n => byW w (n / 256) ++ [UInt8.ofNat (n % 256)]
theorem byW_length (w n : Nat) : (byW w n).length = w := by
  induction w generalizing n with
  | zero => rfl
  | succ w ih => simp [byW, ih]
theorem byW_step (n j : Nat) (hj : j < 8) : byW (j + 1) (n / 256 ^ (8 - (j + 1))) = byW j (n / 256 ^ (8 - j)) ++ [UInt8.ofNat (n / 2 ^ (56 - 8 * j) % 256)] := by
  have e1 : (256 : Nat) ^ (8 - j) = 256 ^ (8 - (j + 1)) * 256 := by
    rw [show 8 - j = (8 - (j + 1)) + 1 from by omega, Nat.pow_succ]
  have e2 : (2 : Nat) ^ (56 - 8 * j) = 256 ^ (8 - (j + 1)) := by
    rw [show (256 : Nat) = 2 ^ 8 from rfl, ← Nat.pow_mul]; congr 1; omega
  rw [byW, e2, e1, Nat.div_div_eq_div_mul]
theorem byte_val (m : Nat) : (((UInt8.ofNat (m % 256)).toNat : Nat) : Int) = ((m % 256 : Nat) : Int) := by
  have : (UInt8.ofNat (m % 256)).toNat = m % 256 := by
    rw [UInt8.toNat_ofNat']; omega
  rw [this]
theorem u8_wrap (n j : Nat) : (n : Int) / 2 ^ j % 256 = (((UInt8.ofNat (n / 2 ^ j % 256)).toNat : Nat) : Int) := by
  rw [byte_val]
  have : ((n : Int) / 2 ^ j) = ((n / 2 ^ j : Nat) : Int) := by
    rw [Int.natCast_ediv]; simp
  rw [this]; omega
/-- What the call's own slice of bytes holds. -/
def Own (w : World) (v : Value) (l : List UInt8) (wr : World) : Prop := wr.ownsRow (w.heap.size + 1) 5 1 v l.length (Lib.byteCells l)
theorem Own.of {w : World} {v : Value} {l : List UInt8} {wr : World} {n : Nat} (h : wr.ownsRow (w.heap.size + 1) 5 1 v n (Lib.byteCells l)) (hn : l.length = n) : Own w v l wr := by
  subst hn; exact h
theorem byteCells_get (l : List UInt8) (j : Nat) (hj : j < l.length) : (Lib.byteCells l)[j]? = some (.int .u8 (l[j].toNat : Int)) := by
  unfold Lib.byteCells
  rw [List.getElem?_map, List.getElem?_eq_getElem hj]; rfl
theorem Own.row {w : World} {v : Value} {l : List UInt8} {wr : World} (h : Own w v l wr) (n : Nat) (hn : l.length = n) : wr.ownsRow (w.heap.size + 1) 5 1 v n (Lib.byteCells l) := by
  subst hn; exact h

set_option maxHeartbeats 1000000 in
set_option maxRecDepth 100000 in
theorem bytesOf_any (n0 n1 : Nat) (w : World) :
    Calls Try.prog 75 #[.agg #[.int .u64 n0, .int .u64 n1]] w fun e w' => e = .returned (.string ⟨(byW 8 n0 ++ byW 8 n1).toArray⟩) ∧ Below w.heap.size w w' := by
  obtain ⟨i0, hi, hz0, hz1, hz2⟩ := info_parts info5
  have x0 : ∀ w, (Instr.index 40 (.agg #[.int .u64 n0, .int .u64 n1]) (.int .i64 0)).run Try.prog w = .ok (.int .u64 n0) w := fun _ => by kernel_rfl
  have x1 : ∀ w, (Instr.index 40 (.agg #[.int .u64 n0, .int .u64 n1]) (.int .i64 1)).run Try.prog w = .ok (.int .u64 n1) w := fun _ => by kernel_rfl
  go_enter Try.func75, Try.ntmps75
  go_wp2
  go_loopw [3, 8] (fun v i wr => ((i = .int .i64 0 ∧ Own w v [] wr) ∨ (i = .int .i64 1 ∧ Own w v (byW 8 n0) wr) ∨ (i = .int .i64 2 ∧ Own w v (byW 8 n0 ++ byW 8 n1) wr)) ∧ w.heap.size + 1 ≤ wr.heap.size ∧ Below w.heap.size w wr) (fun _ i _ => (2 - intOf i).toNat)
  case atStart => exact ⟨.inl ⟨rfl, World.ownsRow_nil _ _ _ _⟩, by simp, bla (Below.refl _ _) _⟩
  case round =>
    obtain ⟨⟨rfl, ho⟩ | ⟨rfl, ho⟩ | ⟨rfl, ho⟩, hz, hB⟩ := hrel
    · go_wp2
      go_loopw [3, 6] (fun v i wr => ∃ j : Nat, j ≤ 8 ∧ i = .int .i64 (56 - 8 * j : Int) ∧ Own w v (byW j (n0 / 256 ^ (8 - j))) wr ∧ w.heap.size + 1 ≤ wr.heap.size ∧ Below w.heap.size w wr) (fun _ i _ => (intOf i + 8).toNat)
      case atStart => exact ⟨0, by omega, rfl, by simpa [Own, byW, byW_length] using ho, hz, hB⟩
      case round =>
        obtain ⟨j, hj, rfl, ho, hz, hB⟩ := hrel
        by_cases hlt : j < 8
        · have hs := byW_step n0 j hlt
          have hc := u8_wrap n0 (56 - 8 * j)
          have HS := Lib.hid hs
          have HC := Lib.hid hc
          clear hs hc
          have hown := ho.row j (by simp [byW_length])
          go_wp2_with (at_builtin; refine wpList_append_own _ rfl _ _ 78 rfl (w.heap.size + 1) 5 i0 (.int .u8 0) 1 1 Try.underlying78 hi hz0 hz1 hz2 rfl (by decide) _ _ _ rfl (hown.alloc _) ⟨wr.heap.size, 0, none⟩ 1 1 [.int .u8 ((n0 : Int) / 2 ^ (56 - 8 * j) % 256)] rfl rfl ?c1 ?c2 ?c3 ?c4 ?c5 ?_)
          case c1 => exact cell_one_new _ _ _
          case c2 => intro u hu; simp at hu; subst hu; rfl
          case c3 => unfold maxLen; omega
          case c4 => omega
          case c5 => simp; omega
          intro v' w1 hown' hgrow _
          rw [HC.out, ← byteCells_snoc, ← HS.out] at hown'
          have ho' : Own w v' _ w1 := Own.of hown' (by simp [byW_length])
          have hz' := hgrow.size
          have hB' := (hB.alloc hB.size (.cells #[.int .u8 ((n0 : Int) / 2 ^ (56 - 8 * j) % 256)] 5)).grown hgrow (by simp; omega) (fun k hk => by have := (hown.lt k hk).1; omega)
          rw [World.size_alloc] at hz'
          clear hown hown' hgrow
          go_wp2
          go_roundw
          case rel => exact ⟨j + 1, by omega, by go_num, ho', by omega, hB'⟩
          case measure => simp [intOf]; omega
        · obtain rfl : j = 8 := by omega
          go_wp2
          go_roundw
          case rel => exact ⟨.inr (.inl ⟨rfl, by simpa using ho⟩), hz, hB⟩
          case measure => simp [intOf]
    · go_wp2
      go_loopw [3, 6] (fun v i wr => ∃ j : Nat, j ≤ 8 ∧ i = .int .i64 (56 - 8 * j : Int) ∧ Own w v (byW 8 n0 ++ byW j (n1 / 256 ^ (8 - j))) wr ∧ w.heap.size + 1 ≤ wr.heap.size ∧ Below w.heap.size w wr) (fun _ i _ => (intOf i + 8).toNat)
      case atStart => exact ⟨0, by omega, rfl, by simpa [Own, byW, byW_length] using ho, hz, hB⟩
      case round =>
        obtain ⟨j, hj, rfl, ho, hz, hB⟩ := hrel
        by_cases hlt : j < 8
        · have hs := byW_step n1 j hlt
          have hc := u8_wrap n1 (56 - 8 * j)
          have HS := Lib.hid hs
          have HC := Lib.hid hc
          clear hs hc
          have hown := ho.row (8 + j) (by simp [byW_length])
          go_wp2_with (at_builtin; refine wpList_append_own _ rfl _ _ 78 rfl (w.heap.size + 1) 5 i0 (.int .u8 0) 1 1 Try.underlying78 hi hz0 hz1 hz2 rfl (by decide) _ _ _ rfl (hown.alloc _) ⟨wr.heap.size, 0, none⟩ 1 1 [.int .u8 ((n1 : Int) / 2 ^ (56 - 8 * j) % 256)] rfl rfl ?c1 ?c2 ?c3 ?c4 ?c5 ?_)
          case c1 => exact cell_one_new _ _ _
          case c2 => intro u hu; simp at hu; subst hu; rfl
          case c3 => unfold maxLen; omega
          case c4 => omega
          case c5 => simp; omega
          intro v' w1 hown' hgrow _
          rw [HC.out, ← byteCells_snoc, List.append_assoc, ← HS.out] at hown'
          have ho' : Own w v' _ w1 := Own.of hown' (by simp [byW_length]; omega)
          have hz' := hgrow.size
          have hB' := (hB.alloc hB.size (.cells #[.int .u8 ((n1 : Int) / 2 ^ (56 - 8 * j) % 256)] 5)).grown hgrow (by simp; omega) (fun k hk => by have := (hown.lt k hk).1; omega)
          rw [World.size_alloc] at hz'
          clear hown hown' hgrow
          go_wp2
          go_roundw
          case rel => exact ⟨j + 1, by omega, by go_num, ho', by omega, hB'⟩
          case measure => simp [intOf]; omega
        · obtain rfl : j = 8 := by omega
          go_wp2
          go_roundw
          case rel => exact ⟨.inr (.inr ⟨rfl, by simpa using ho⟩), hz, hB⟩
          case measure => simp [intOf]
    · have hown := ho.row 16 (by simp [byW_length])
      obtain ⟨g, cap, rfl⟩ := ownsRow_succ hown
      have hcv := run_convert_bytes_back (P := Try.prog) wr 78 9 5 ⟨g, 0, none⟩ cap (byW 8 n0 ++ byW 8 n1) Try.underlying78 Try.underlying5 Try.underlying9 (fun j hj => by
        have := hown.cells rfl j (.int .u8 ((byW 8 n0 ++ byW 8 n1)[j].toNat : Int)) (byteCells_get _ j hj)
        exact this)
      rw [show (byW 8 n0 ++ byW 8 n1).length = 16 from by simp [byW_length]] at hcv
      go_wp2
      go_ret
      exact ⟨rfl, hB⟩
end Go.Proofs.Ytfheflihofafdaa.Tr

/- The reference's bytes, Node and Pair, and the program's Pair, at this translation. -/
namespace Go.Proofs.Ytfheflihofafdaa.Tr
open Go.RowKit
attribute [local go_sem] eq_arr

set_option maxHeartbeats 1000000 in
set_option maxRecDepth 100000 in
theorem refBytes_any (n0 n1 : Nat) (w : World) :
    Calls Try.prog 69 #[.agg #[.int .u64 n0, .int .u64 n1]] w fun e w' => e = .returned (.string ⟨(byW 8 n0 ++ byW 8 n1).toArray⟩) ∧ Below w.heap.size w w' := by
  obtain ⟨i0, hi, hz0, hz1, hz2⟩ := info_parts info5
  go_enter Try.func69, Try.ntmps69
  go_wp2
  go_loopw [3, 4] (fun v i wr => ((∃ j : Nat, j < 8 ∧ i = .int .i64 j ∧ Own w v (byW j (n0 / 256 ^ (8 - j))) wr) ∨ (∃ j : Nat, j ≤ 8 ∧ i = .int .i64 (8 + j : Int) ∧ Own w v (byW 8 n0 ++ byW j (n1 / 256 ^ (8 - j))) wr)) ∧ Two wr w.heap.size n0 n1 ∧ w.heap.size + 1 ≤ wr.heap.size ∧ Below w.heap.size w wr) (fun _ i _ => (16 - intOf i).toNat)
  case atStart =>
    refine ⟨.inl ⟨0, by omega, rfl, ?_⟩, (Two.fresh w n0 n1 40).alloc (by simp) _, by simp, bla (bla (Below.refl _ _) _) _⟩
    have := World.ownsRow_made (base := w.heap.size + 1) (e := 5) (size := 1) (w.alloc (.cells #[.int .u64 n0, .int .u64 n1] 40)) #[] 0 (by simp) (Nat.zero_le _) rfl
    rw [World.size_alloc] at this
    exact this
  case round =>
    obtain ⟨⟨j, hlt, rfl, ho⟩ | ⟨j, hj, rfl, ho⟩, hT, hz, hB⟩ := hrel
    · obtain ⟨a0, a1, f0, f1⟩ := hT
      have hT : Two wr w.heap.size n0 n1 := ⟨a0, a1, f0, f1⟩
      have hs := byW_step n0 j hlt
      have hc := u8_wrap n0 (56 - 8 * j)
      have hq : ((j : Nat) : Int) / 8 = 0 := by omega
      have hr : ((j : Nat) : Int) % 8 = j := by omega
      have he : ((56 : Int) - 8 * (j : Int)).toNat = 56 - 8 * j := by omega
      have hp0 : (0 : Int) ≤ 56 - 8 * (j : Int) := by omega
      have hp1 : (56 : Int) - 8 * (j : Int) ≤ 64 := by omega
      have HS := Lib.hid hs
      have HC := Lib.hid hc
      clear hs hc
      have hown := ho.row j (by simp [byW_length])
      go_wp2_with (at_builtin; refine wpList_append_own _ rfl _ _ 78 rfl (w.heap.size + 1) 5 i0 (.int .u8 0) 1 1 Try.underlying78 hi hz0 hz1 hz2 rfl (by decide) _ _ _ rfl (hown.alloc _) ⟨wr.heap.size, 0, none⟩ 1 1 [.int .u8 ((n0 : Int) / 2 ^ (56 - 8 * j) % 256)] rfl rfl ?c1 ?c2 ?c3 ?c4 ?c5 ?_)
      case c1 => exact cell_one_new _ _ _
      case c2 => intro u hu; simp at hu; subst hu; rfl
      case c3 => unfold maxLen; omega
      case c4 => omega
      case c5 => simp; omega
      intro v' w1 hown' hgrow _
      rw [HC.out, ← byteCells_snoc, ← HS.out] at hown'
      have ho' : Own w v' _ w1 := Own.of hown' (by simp [byW_length])
      have hz' := hgrow.size
      have hB' := (hB.alloc hB.size (.cells #[.int .u8 ((n0 : Int) / 2 ^ (56 - 8 * j) % 256)] 5)).grown hgrow (by simp; omega) (fun k hk => by have := (hown.lt k hk).1; omega)
      have hT' : Two w1 w.heap.size n0 n1 := (hT.alloc (by omega) (.cells #[.int .u8 ((n0 : Int) / 2 ^ (56 - 8 * j) % 256)] 5)).below (B := w.heap.size + 1) ((Below.refl _ _).grown hgrow (by simp; omega) (fun k hk => by have := (hown.lt k hk).1; omega)) (by omega)
      rw [World.size_alloc] at hz'
      clear hown hown' hgrow hq hr he
      go_wp2
      go_roundw
      case rel =>
        refine ⟨?_, hT', by omega, hB'⟩
        rcases Nat.lt_or_ge (j + 1) 8 with h | h
        · exact .inl ⟨j + 1, h, by go_num, ho'⟩
        · obtain rfl : j = 7 := by omega
          exact .inr ⟨0, by omega, rfl, by simpa [byW] using ho'⟩
      case measure => simp [intOf]; omega
    · obtain ⟨a0, a1, f0, f1⟩ := hT
      have hT : Two wr w.heap.size n0 n1 := ⟨a0, a1, f0, f1⟩
      by_cases hlt : j < 8
      · have hs := byW_step n1 j hlt
        have hc := u8_wrap n1 (56 - 8 * j)
        have hq : ((8 : Int) + (j : Nat) : Int) / 8 = 1 := by omega
        have hr : ((8 : Int) + (j : Nat) : Int) % 8 = j := by omega
        have he : ((56 : Int) - 8 * (j : Int)).toNat = 56 - 8 * j := by omega
        have hp0 : (0 : Int) ≤ 56 - 8 * (j : Int) := by omega
        have hp1 : (56 : Int) - 8 * (j : Int) ≤ 64 := by omega
        have HS := Lib.hid hs
        have HC := Lib.hid hc
        clear hs hc
        have hown := ho.row (8 + j) (by simp [byW_length])
        go_wp2_with (at_builtin; refine wpList_append_own _ rfl _ _ 78 rfl (w.heap.size + 1) 5 i0 (.int .u8 0) 1 1 Try.underlying78 hi hz0 hz1 hz2 rfl (by decide) _ _ _ rfl (hown.alloc _) ⟨wr.heap.size, 0, none⟩ 1 1 [.int .u8 ((n1 : Int) / 2 ^ (56 - 8 * j) % 256)] rfl rfl ?c1 ?c2 ?c3 ?c4 ?c5 ?_)
        case c1 => exact cell_one_new _ _ _
        case c2 => intro u hu; simp at hu; subst hu; rfl
        case c3 => unfold maxLen; omega
        case c4 => omega
        case c5 => simp; omega
        intro v' w1 hown' hgrow _
        rw [HC.out, ← byteCells_snoc, List.append_assoc, ← HS.out] at hown'
        have ho' : Own w v' _ w1 := Own.of hown' (by simp [byW_length]; omega)
        have hz' := hgrow.size
        have hB' := (hB.alloc hB.size (.cells #[.int .u8 ((n1 : Int) / 2 ^ (56 - 8 * j) % 256)] 5)).grown hgrow (by simp; omega) (fun k hk => by have := (hown.lt k hk).1; omega)
        have hT' : Two w1 w.heap.size n0 n1 := (hT.alloc (by omega) (.cells #[.int .u8 ((n1 : Int) / 2 ^ (56 - 8 * j) % 256)] 5)).below (B := w.heap.size + 1) ((Below.refl _ _).grown hgrow (by simp; omega) (fun k hk => by have := (hown.lt k hk).1; omega)) (by omega)
        rw [World.size_alloc] at hz'
        clear hown hown' hgrow hq hr he
        go_wp2
        go_roundw
        case rel => exact ⟨.inr ⟨j + 1, by omega, by go_num, ho'⟩, hT', by omega, hB'⟩
        case measure => simp [intOf]; omega
      · obtain rfl : j = 8 := by omega
        have hown := ho.row 16 (by simp [byW_length])
        obtain ⟨g, cap, rfl⟩ := ownsRow_succ hown
        have hcv := run_convert_bytes_back (P := Try.prog) wr 78 9 5 ⟨g, 0, none⟩ cap (byW 8 n0 ++ byW 8 n1) Try.underlying78 Try.underlying5 Try.underlying9 (fun j hj => by
          have := hown.cells rfl j (.int .u8 ((byW 8 n0 ++ byW 8 n1)[j].toNat : Int)) (by have := byteCells_get _ j hj; simpa using this)
          exact this)
        rw [show (byW 8 n0 ++ byW 8 n1).length = 16 from by simp [byW_length]] at hcv
        go_wp2
        go_ret
        exact ⟨rfl, hB⟩

/-- The sixteen bytes of a digest. -/
def byS (n0 n1 : Nat) : ByteArray := ⟨(byW 8 n0 ++ byW 8 n1).toArray⟩
/-- What is hashed for two subtrees. -/
def nodeS (a0 a1 b0 b1 : Nat) : ByteArray := ByteArray.mk #[1] ++ byS a0 a1 ++ byS b0 b1
theorem byS_size (n0 n1 : Nat) : (byS n0 n1).size = 16 := by
  show (byW 8 n0 ++ byW 8 n1).toArray.size = 16
  simp [byW_length]
theorem byS_of (n0 n1 : Nat) (w : World) : Calls Try.prog 75 #[.agg #[.int .u64 n0, .int .u64 n1]] w fun e w' => e = .returned (.string (byS n0 n1)) ∧ Below w.heap.size w w' := bytesOf_any n0 n1 w
theorem byS_ref (n0 n1 : Nat) (w : World) : Calls Try.prog 69 #[.agg #[.int .u64 n0, .int .u64 n1]] w fun e w' => e = .returned (.string (byS n0 n1)) ∧ Below w.heap.size w w' := refBytes_any n0 n1 w
set_option maxHeartbeats 1000000 in
set_option maxRecDepth 100000 in
theorem refNode_any (a0 a1 b0 b1 : Nat) (w : World) :
    Calls Try.prog 50 #[.agg #[.int .u64 a0, .int .u64 a1], .agg #[.int .u64 b0, .int .u64 b1]] w fun e w' => e = .returned (.string (nodeS a0 a1 b0 b1)) ∧ Below w.heap.size w w' := by
  have z0 := byS_size a0 a1
  have z1 := byS_size b0 b1
  go_enter Try.func50, Try.ntmps50
  go_wp2
  have start : Held w a0 a1 b0 b1 ((w.alloc (.cells #[.int .u64 a0, .int .u64 a1] 40)).alloc (.cells #[.int .u64 b0, .int .u64 b1] 40)).drew := by
    refine ⟨?_, by simp, (bla (bla (Below.refl _ _) _) _).drew⟩
    go_simp
  go_region_held3 (fun w' => (w'.cell? ⟨w.heap.size, 0, none⟩ = some (.int .u64 a0) ∧ w'.cell? ⟨w.heap.size, 1, none⟩ = some (.int .u64 a1) ∧ w'.cell? ⟨w.heap.size + 1, 0, none⟩ = some (.int .u64 b0) ∧ w'.cell? ⟨w.heap.size + 1, 1, none⟩ = some (.int .u64 b1)) ∧
    w.heap.size + 2 ≤ w'.heap.size ∧ Below w.heap.size w w') (first | exact hh | exact start)
    (first | (go_at_call 69; refine (byS_ref _ _ _).mono ?_; rintro e w' ⟨rfl, hb⟩; have hh := Held.on (by first | exact hh | exact start) hb; clear hb))
  go_wp2
  go_ret
  exact ⟨rfl, hh.2.2⟩
/-- What Pair's two boxes and its result's cells hold, in a later world. -/
structure Held3 (w : World) (a0 a1 b0 b1 : Int) (w' : World) : Prop where
  held : Held w a0 a1 b0 b1 w'
  res : Two w' (w.heap.size + 2) 0 0
  size : w.heap.size + 2 < w'.heap.size
theorem Held3.on {w W W' : World} {a0 a1 b0 b1 : Int} (h : Held3 w a0 a1 b0 b1 W) (hB : Below W.heap.size W W') : Held3 w a0 a1 b0 b1 W' :=
  ⟨h.held.on hB, h.res.below hB h.size, Nat.lt_of_lt_of_le h.size hB.size⟩
theorem Held.cells {w W : World} {a0 a1 b0 b1 : Int} (h : Held w a0 a1 b0 b1 W) (b o : Nat) (hb : w.heap.size + 2 ≤ b) (v : Value) : Held w a0 a1 b0 b1 (W.setCell ⟨b, o, none⟩ v) := by
  obtain ⟨⟨c1, c2, c3, c4⟩, hz, hB⟩ := h
  refine ⟨⟨(World.cell?_setCell_other W _ _ _ ?_).trans c1, (World.cell?_setCell_other W _ _ _ ?_).trans c2, (World.cell?_setCell_other W _ _ _ ?_).trans c3, (World.cell?_setCell_other W _ _ _ ?_).trans c4⟩, by simpa [World.setCell] using hz, hB.setCell (p := ⟨b, o, none⟩) (by show w.heap.size ≤ b; omega) _⟩ <;> (intro e; injection e; omega)
theorem Held3.put {w W : World} {a0 a1 b0 b1 : Int} (h : Held3 w a0 a1 b0 b1 W) (x y : Value) :
    Held w a0 a1 b0 b1 ((W.setCell ⟨w.heap.size + 1 + 1, 0, none⟩ x).setCell ⟨w.heap.size + 1 + 1, 1, none⟩ y) := (h.held.cells _ _ (Nat.le_refl _) _).cells _ _ (Nat.le_refl _) _
theorem nodeS_size (a0 a1 b0 b1 : Nat) : (nodeS a0 a1 b0 b1).size ≤ maxLen := by
  unfold nodeS
  rw [ByteArray.size_append, ByteArray.size_append, byS_size, byS_size]
  decide
theorem of_node (a0 a1 b0 b1 : Nat) (w : World) : Calls Try.prog 57 #[.string (ByteArray.mk #[1] ++ byS a0 a1 ++ byS b0 b1)] w fun e w' =>
    e = .returned (.agg #[.int .u64 (of0 (nodeS a0 a1 b0 b1).data.toList), .int .u64 (of1 (nodeS a0 a1 b0 b1).data.toList)]) ∧ Below w.heap.size w w' := of_any (nodeS a0 a1 b0 b1) w (nodeS_size ..)
theorem refOf_node (a0 a1 b0 b1 : Nat) (w : World) : Calls Try.prog 29 #[.string (nodeS a0 a1 b0 b1)] w fun e w' =>
    e = .returned (.agg #[.int .u64 (of0 (nodeS a0 a1 b0 b1).data.toList), .int .u64 (of1 (nodeS a0 a1 b0 b1).data.toList)]) ∧ Below w.heap.size w w' := refOf_any (nodeS a0 a1 b0 b1) w (nodeS_size ..)
set_option maxHeartbeats 1000000 in
set_option maxRecDepth 100000 in
theorem pair_any (a0 a1 b0 b1 : Nat) (w : World) :
    Calls Try.prog 60 #[.agg #[.int .u64 a0, .int .u64 a1], .agg #[.int .u64 b0, .int .u64 b1]] w fun e w' => e = .returned (.agg #[.int .u64 (of0 (nodeS a0 a1 b0 b1).data.toList), .int .u64 (of1 (nodeS a0 a1 b0 b1).data.toList)]) ∧ Below w.heap.size w w' := by
  have z0 := byS_size a0 a1
  have z1 := byS_size b0 b1
  go_enter Try.func60, Try.ntmps60
  go_wp2
  have start : Held3 w a0 a1 b0 b1 (((w.alloc (.cells #[.int .u64 a0, .int .u64 a1] 40)).alloc (.cells #[.int .u64 b0, .int .u64 b1] 40)).alloc (.cells #[.int .u64 0, .int .u64 0] 40)).drew := by
    refine ⟨⟨?_, by simp, (bla (bla (bla (Below.refl _ _) _) _) _).drew⟩, ?_, by simp⟩
    · go_simp
    · have := Two.fresh ((w.alloc (.cells #[.int .u64 a0, .int .u64 a1] 40)).alloc (.cells #[.int .u64 b0, .int .u64 b1] 40)) 0 0 40
      rw [World.size_alloc, World.size_alloc] at this
      exact this
  go_region_held3 (fun w' => w'.cell? ⟨w.heap.size, 0, none⟩ = some (.int .u64 a0) ∧ w'.cell? ⟨w.heap.size, 1, none⟩ = some (.int .u64 a1) ∧ w'.cell? ⟨w.heap.size + 1, 0, none⟩ = some (.int .u64 b0) ∧ w'.cell? ⟨w.heap.size + 1, 1, none⟩ = some (.int .u64 b1)) (first | exact hh.held.1 | exact start.held.1 | exact (hh.put _ _).1)
    (first | (go_at_call 75; refine (byS_of _ _ _).mono ?_; rintro e w' ⟨rfl, hb⟩; have hh := Held3.on (by first | exact hh | exact start) hb; clear hb) | (go_at_call 57; refine (of_node _ _ _ _ _).mono ?_; rintro e w' ⟨rfl, hb⟩; have hh := Held3.on (by first | exact hh | exact start) hb; obtain ⟨r0, r1, r2, r3⟩ := hh.res; clear hb))
  go_wp2
  refine bodyPost_ret (v := .agg #[.int .u64 (of0 (nodeS a0 a1 b0 b1).data.toList), .int .u64 (of1 (nodeS a0 a1 b0 b1).data.toList)]) ?_ rfl ⟨rfl, (hh.put _ _).2.2⟩
  obtain ⟨q0, q1, _, _⟩ := (hh.res.set0 (of0 (nodeS a0 a1 b0 b1).data.toList)).set1 (of1 (nodeS a0 a1 b0 b1).data.toList)
  simp [results, Try.results60, go_sem, q0, q1]
set_option maxHeartbeats 1000000 in
set_option maxRecDepth 100000 in
theorem refPair_any (a0 a1 b0 b1 : Nat) (w : World) :
    Calls Try.prog 61 #[.agg #[.int .u64 a0, .int .u64 a1], .agg #[.int .u64 b0, .int .u64 b1]] w fun e w' => e = .returned (.agg #[.int .u64 (of0 (nodeS a0 a1 b0 b1).data.toList), .int .u64 (of1 (nodeS a0 a1 b0 b1).data.toList)]) ∧ Below w.heap.size w w' := by
  have start : Held3 w a0 a1 b0 b1 (((w.alloc (.cells #[.int .u64 a0, .int .u64 a1] 40)).alloc (.cells #[.int .u64 b0, .int .u64 b1] 40)).alloc (.cells #[.int .u64 0, .int .u64 0] 40)) := by
    refine ⟨⟨?_, by simp, bla (bla (bla (Below.refl _ _) _) _) _⟩, ?_, by simp⟩
    · go_simp
    · have := Two.fresh ((w.alloc (.cells #[.int .u64 a0, .int .u64 a1] 40)).alloc (.cells #[.int .u64 b0, .int .u64 b1] 40)) 0 0 40
      rw [World.size_alloc, World.size_alloc] at this
      exact this
  go_enter Try.func61, Try.ntmps61
  go_wp2_with fail
  refine (refNode_any a0 a1 b0 b1 _).mono ?_
  rintro e w1 ⟨rfl, hb1⟩
  have hh := start.on hb1
  go_wp2_with fail
  refine (refOf_node a0 a1 b0 b1 _).mono ?_
  rintro e w2 ⟨rfl, hb2⟩
  have hh2 := hh.on hb2
  obtain ⟨r0, r1, r2, r3⟩ := hh2.res
  go_wp2
  refine bodyPost_ret (v := .agg #[.int .u64 (of0 (nodeS a0 a1 b0 b1).data.toList), .int .u64 (of1 (nodeS a0 a1 b0 b1).data.toList)]) ?_ rfl ⟨rfl, (hh2.put _ _).2.2⟩
  obtain ⟨q0, q1, _, _⟩ := (hh2.res.set0 (of0 (nodeS a0 a1 b0 b1).data.toList)).set1 (of1 (nodeS a0 a1 b0 b1).data.toList)
  simp [results, Try.results61, go_sem, q0, q1]
end Go.Proofs.Ytfheflihofafdaa.Tr

/- Leaves, and the sizes of left subtrees, of program and reference, at this translation. -/
namespace Go.Proofs.Ytfheflihofafdaa.Tr
open Go.RowKit
attribute [local go_sem] eq_arr

theorem bitLenAux_spec : ∀ (f x : Nat), 1 ≤ x → x < 2 ^ f → ∃ j, Lib.bitLenAux f x = j + 1 ∧ 2 ^ j ≤ x ∧ x < 2 ^ (j + 1)
  | 0, x, h, h2 => by simp at h2; omega
  | f + 1, x, h, h2 => by
    unfold Lib.bitLenAux
    rw [if_neg (by omega)]
    by_cases h1 : x = 1
    · subst h1
      refine ⟨0, ?_, by simp, by simp⟩
      cases f <;> simp [Lib.bitLenAux]
    · obtain ⟨j, e, a, b⟩ := bitLenAux_spec f (x / 2) (by omega) (by rw [Nat.pow_succ] at h2; omega)
      refine ⟨j + 1, by omega, ?_, ?_⟩
      · rw [Nat.pow_succ]; omega
      · rw [Nat.pow_succ]; omega
/-- How many of n digests are in the left subtree. -/
def leftN (n : Nat) : Nat := 2 ^ (Lib.bitLen (n - 1) - 1)
theorem leftN_spec (n : Nat) (h : 2 ≤ n) (h2 : n ≤ 2 ^ 40) : ∃ j, Lib.bitLen (n - 1) = j + 1 ∧ j < 40 ∧ leftN n = 2 ^ j ∧ leftN n < n ∧ n ≤ 2 * leftN n := by
  obtain ⟨j, e, a, b⟩ := bitLenAux_spec 64 (n - 1) (by omega) (by omega)
  have e' : Lib.bitLen (n - 1) = j + 1 := e
  have hl : leftN n = 2 ^ j := by unfold leftN; rw [e']; simp
  rw [Nat.pow_succ] at b
  refine ⟨j, e', ?_, hl, by rw [hl]; omega, by rw [hl]; omega⟩
  rcases Nat.lt_or_ge j 40 with h3 | h3
  · exact h3
  · have := Nat.pow_le_pow_right (n := 2) (by decide) h3
    omega
theorem leftN_unique (n j : Nat) (h : 2 ≤ n) (h2 : n ≤ 2 ^ 40) (h3 : 2 ^ j < n) (h4 : n ≤ 2 * 2 ^ j) : leftN n = 2 ^ j := by
  obtain ⟨i, _, _, e, a, b⟩ := leftN_spec n h h2
  rw [e] at a b ⊢
  have h5 : i = j := by
    rcases Nat.lt_trichotomy i j with h6 | h6 | h6
    · have := Nat.pow_le_pow_right (n := 2) (by decide) (show i + 1 ≤ j from h6)
      rw [Nat.pow_succ] at this; omega
    · exact h6
    · have := Nat.pow_le_pow_right (n := 2) (by decide) (show j + 1 ≤ i from h6)
      rw [Nat.pow_succ] at this; omega
  rw [h5]
theorem pow_lt40 (j : Nat) (h : j < 40) : 2 ^ j < 1099511627776 := by
  have := Nat.pow_lt_pow_right (a := 2) (by decide) h
  omega

set_option maxHeartbeats 400000 in
set_option maxRecDepth 100000 in
theorem left_any (n : Nat) (h : 2 ≤ n) (h2 : n ≤ 1099511627776) (w : World) : Calls Try.prog 54 #[.int .i64 n] w fun e w' => e = .returned (.int .i64 (leftN n)) ∧ w = w' := by
  go_enter Try.func54, Try.ntmps54
  go_wp2
  go_loop [3] (fun k => ∃ j : Nat, j < 40 ∧ 2 ^ j < n ∧ k = .int .i64 (((2 ^ j : Nat) : Int))) (fun k => n - (intOf k).toNat)
  case atStart => exact ⟨0, by omega, by omega, rfl⟩
  case round =>
    obtain ⟨j, hj, hlt, rfl⟩ := hrel
    obtain ⟨p, hp⟩ : ∃ p : Nat, p = 2 ^ j := ⟨_, rfl⟩
    rw [← hp] at hlt ⊢
    have HP := Lib.hid hp
    have hpos : 0 < p := by rw [hp]; exact Nat.pow_pos (by decide)
    clear hp
    by_cases hq : 2 * p < n
    · have hq' : 2 * (p : Int) < (n : Int) := by omega
      go_wp2
      go_round
      case rel =>
        refine ⟨j + 1, ?_, by rw [Nat.pow_succ, ← HP.out]; omega, ?_⟩
        · rcases Nat.lt_or_ge (j + 1) 40 with h3 | h3
          · exact h3
          · have h4 := Nat.pow_le_pow_right (n := 2) (by decide) (show 39 ≤ j by omega)
            rw [← HP.out] at h4
            omega
        · rw [Nat.pow_succ, ← HP.out, Nat.mul_comm]; go_num
      case measure => simp [intOf]; omega
    · have hq' : ¬ 2 * (p : Int) < (n : Int) := by omega
      have HE := Lib.hid (leftN_unique n j h (by omega) (by rw [← HP.out]; exact hlt) (by rw [← HP.out]; omega))
      go_wp2
      go_ret
      exact ⟨ret_int (by rw [HE.out, ← HP.out]), rfl⟩
set_option maxHeartbeats 400000 in
set_option maxRecDepth 100000 in
theorem half_any (n : Nat) (h : 2 ≤ n) (h2 : n ≤ 1099511627776) (w : World) : Calls Try.prog 59 #[.int .i64 n] w fun e w' => e = .returned (.int .i64 (leftN n)) ∧ w = w' := by
  obtain ⟨j, e, hj, hl, _, _⟩ := leftN_spec n h (by omega)
  have hpw := pow_lt40 j hj
  have HL := Lib.hid hl
  have HE := Lib.hid e
  clear hl e
  have wu : IntKind.u64.wrap ((n : Int) - 1) = ((n - 1 : Nat) : Int) := by rw [IntKind.wrap_u64]; omega
  go_enter Try.func59, Try.ntmps59
  go_wp2_with fail
  refine (Try.bits_Len _ _ (by omega) (by omega)).mono ?_
  rintro e w' ⟨rfl, rfl⟩
  rw [Int.toNat_natCast, HE.out]
  have hs : ((((j + 1 : Nat) : Int)) - 1) = (j : Int) := by omega
  have hj1 : (0 : Int) ≤ (j : Int) := by omega
  have hj2 : (j : Int) < 40 := by omega
  have hw : wrap64 ((2 : Int) ^ j) = ((2 ^ j : Nat) : Int) := by
    have : ((2 : Int) ^ j) = ((2 ^ j : Nat) : Int) := by simp
    rw [this]
    clear this
    generalize (2 : Nat) ^ j = p at hpw ⊢
    unfold wrap64
    omega
  have HW := Lib.hid hw
  clear hw
  go_wp2
  go_ret
  exact ⟨ret_int (by rw [HW.out, HL.out]), rfl⟩

/-- A digest as a pair of numbers. -/
abbrev Dig := Nat × Nat
def Dig.v (d : Dig) : Value := .agg #[.int .u64 d.1, .int .u64 d.2]
theorem u64_pos (x : Int) : 0 ≤ IntKind.u64.wrap x := by rw [IntKind.wrap_u64]; omega
theorem hs_pos (g : Int → Int → Int) (hg : ∀ a b, 0 ≤ g a b) (l : List UInt8) : 0 ≤ hs g l := by
  rcases List.eq_nil_or_concat l with rfl | ⟨l', c, rfl⟩
  · simp [hs, start]
  · rw [List.concat_eq_append, hs_snoc]; exact hg _ _
theorem of0_pos (l : List UInt8) : 0 ≤ of0 l := hs_pos g1 (fun _ _ => u64_pos _) l
theorem of1_pos (l : List UInt8) : 0 ≤ of1 l := by
  unfold of1
  split
  · decide
  · exact hs_pos g2 (fun a b => u64_pos _) l
/-- The digest of a string. -/
def ofD (l : List UInt8) : Dig := ((of0 l).toNat, (of1 l).toNat)
theorem ofD_v (l : List UInt8) : Value.agg #[.int .u64 (of0 l), .int .u64 (of1 l)] = (ofD l).v := by
  unfold ofD Dig.v
  simp only [Int.toNat_of_nonneg (of0_pos l), Int.toNat_of_nonneg (of1_pos l)]
def leafD (d : Dig) : Dig := ofD (ByteArray.mk #[0] ++ byS d.1 d.2).data.toList
def pairD (a b : Dig) : Dig := ofD (nodeS a.1 a.2 b.1 b.2).data.toList
theorem pairD_any (a b : Dig) (w : World) : Calls Try.prog 60 #[a.v, b.v] w fun e w' => e = .returned (pairD a b).v ∧ Below w.heap.size w w' := by
  refine (pair_any a.1 a.2 b.1 b.2 w).mono ?_
  rintro e w' ⟨rfl, hB⟩
  exact ⟨by rw [ofD_v]; rfl, hB⟩
theorem refPairD_any (a b : Dig) (w : World) : Calls Try.prog 61 #[a.v, b.v] w fun e w' => e = .returned (pairD a b).v ∧ Below w.heap.size w w' := by
  refine (refPair_any a.1 a.2 b.1 b.2 w).mono ?_
  rintro e w' ⟨rfl, hB⟩
  exact ⟨by rw [ofD_v]; rfl, hB⟩
theorem leafS_size (n0 n1 : Nat) : (ByteArray.mk #[0] ++ byS n0 n1).size ≤ maxLen := by
  rw [ByteArray.size_append, byS_size]; decide
set_option maxHeartbeats 400000 in
set_option maxRecDepth 100000 in
theorem refLeaf_any (n0 n1 : Nat) (w : World) : Calls Try.prog 48 #[.agg #[.int .u64 n0, .int .u64 n1]] w fun e w' => e = .returned (.string (ByteArray.mk #[0] ++ byS n0 n1)) ∧ Below w.heap.size w w' := by
  have z0 := byS_size n0 n1
  go_enter Try.func48, Try.ntmps48
  go_wp2_with fail
  refine (byS_ref n0 n1 _).mono ?_
  rintro e w1 ⟨rfl, hb1⟩
  go_wp2
  go_ret
  exact ⟨rfl, bl (bla (Below.refl _ _) _) hb1⟩
set_option maxHeartbeats 400000 in
set_option maxRecDepth 100000 in
theorem leafV_any (n0 n1 : Nat) (w : World) : Calls Try.prog 58 #[.agg #[.int .u64 n0, .int .u64 n1]] w fun e w' => e = .returned (leafD (n0, n1)).v ∧ Below w.heap.size w w' := by
  have z0 := byS_size n0 n1
  obtain ⟨x, y, hxy⟩ : ∃ x y : Int, (of0 (ByteArray.mk #[0] ++ byS n0 n1).data.toList = x ∧ of1 (ByteArray.mk #[0] ++ byS n0 n1).data.toList = y) := ⟨_, _, rfl, rfl⟩
  have HXY := Lib.hid hxy
  have hv : Value.agg #[.int .u64 x, .int .u64 y] = (leafD (n0, n1)).v := by rw [← hxy.1, ← hxy.2, ofD_v]; rfl
  have HV := Lib.hid hv
  clear hxy hv
  rw [← HV.out]
  go_enter Try.func58, Try.ntmps58
  go_wp2_with fail
  refine (byS_of n0 n1 _).mono ?_
  rintro e w1 ⟨rfl, hb1⟩
  go_wp2_with fail
  refine (of_any _ _ (leafS_size n0 n1)).mono ?_
  rintro e w2 ⟨rfl, hb2⟩
  rw [HXY.out.1, HXY.out.2]
  have r0 := Two.fresh (w.alloc (.cells #[.int .u64 n0, .int .u64 n1] 40)) 0 0 40
  rw [World.size_alloc] at r0
  obtain ⟨q0, q1, q2, q3⟩ := (r0.below hb1 (by simp)).below hb2 (by have := hb1.size; simp at this; omega)
  have hQ : Two w2 (w.heap.size + 1) 0 0 := ⟨q0, q1, q2, q3⟩
  go_wp2
  refine bodyPost_ret (v := .agg #[.int .u64 x, .int .u64 y]) ?_ rfl ⟨rfl, ?_⟩
  · obtain ⟨s0, s1, _, _⟩ := (hQ.set0 x).set1 y
    simp [results, Try.results58, go_sem, s0, s1]
  · exact ((bl (bl (bla (bla (Below.refl _ _) _) _) hb1) hb2).setCell (p := ⟨w.heap.size + 1, 0, none⟩) (by simp) _).setCell (p := ⟨w.heap.size + 1, 1, none⟩) (by simp) _
end Go.Proofs.Ytfheflihofafdaa.Tr

/- The root that results from an element and its proof, of program and reference, at this translation. -/
namespace Go.Proofs.Ytfheflihofafdaa.Tr
open Go.RowKit
attribute [local go_sem] eq_arr

/-- A slice of digests that came in. -/
def IsDigs (w : World) (v : Value) (L : List Dig) : Prop :=
  ∃ a cap, v = .slice a L.length cap ∧ L.length ≤ cap ∧ cap ≤ maxLen ∧ (L = [] ∨ ∃ b off, a = some ⟨b, off, none⟩ ∧ b < w.heap.size ∧
    ∀ (j : Nat) (d : Dig), L[j]? = some d → w.cell? ⟨b, off + j * 2, none⟩ = some (.int .u64 d.1) ∧ w.cell? ⟨b, off + j * 2 + 1, none⟩ = some (.int .u64 d.2))
theorem IsDigs.below {w w' : World} {v : Value} {L : List Dig} (h : IsDigs w v L) (hB : Below w.heap.size w w') : IsDigs w' v L := by
  obtain ⟨a, cap, e, h1, h2, h3⟩ := h
  refine ⟨a, cap, e, h1, h2, ?_⟩
  rcases h3 with h3 | ⟨b, off, e2, hb, hc⟩
  · exact .inl h3
  · refine .inr ⟨b, off, e2, Nat.lt_of_lt_of_le hb hB.size, fun j d hj => ?_⟩
    have := hc j d hj
    exact ⟨(hB.cell (p := ⟨b, off + j * 2, none⟩) hb).trans this.1, (hB.cell (p := ⟨b, off + j * 2 + 1, none⟩) hb).trans this.2⟩
theorem IsDigs.last {w : World} {v : Value} {M : List Dig} {p : Dig} (h : IsDigs w v (M ++ [p])) : ∃ b off cap, v = .slice (some ⟨b, off, none⟩) (M.length + 1) cap ∧ M.length + 1 ≤ cap ∧ cap ≤ maxLen ∧ b < w.heap.size ∧
    w.cell? ⟨b, off + M.length * 2, none⟩ = some (.int .u64 p.1) ∧ w.cell? ⟨b, off + M.length * 2 + 1, none⟩ = some (.int .u64 p.2) ∧ IsDigs w (.slice (some ⟨b, off, none⟩) M.length cap) M := by
  obtain ⟨a, cap, e, h1, h2, h3⟩ := h
  rcases h3 with h3 | ⟨b, off, e2, hb, hc⟩
  · simp at h3
  · simp only [List.length_append, List.length_singleton] at e h1
    have hl := hc M.length p (by simp)
    refine ⟨b, off, cap, by rw [e, e2], h1, h2, hb, hl.1, hl.2, ⟨some ⟨b, off, none⟩, cap, rfl, by omega, h2, .inr ⟨b, off, rfl, hb, fun j d hj => hc j d ?_⟩⟩⟩
    have : j < M.length := (List.getElem?_eq_some_iff.1 hj).1
    rw [List.getElem?_append_left this]; exact hj

/-- The root that results, and whether the proof has the right number of elements; the proof's last element stands first. -/
def rootM : Nat → Nat → Dig → List Dig → Dig × Bool
  | n, _, d, [] => if n = 1 then (leafD d, true) else ((0, 0), false)
  | n, i, d, p :: rp => if n = 1 then (leafD d, false) else if i < leftN n then (pairD (rootM (leftN n) i d rp).1 p, (rootM (leftN n) i d rp).2) else (pairD p (rootM (n - leftN n) (i - leftN n) d rp).1, (rootM (n - leftN n) (i - leftN n) d rp).2)

/-- The last element's two cells, and that nothing old has turned. -/
def LastAt (w : World) (b o : Nat) (x y : Int) (w' : World) : Prop := w'.cell? ⟨b, o, none⟩ = some (.int .u64 x) ∧ w'.cell? ⟨b, o + 1, none⟩ = some (.int .u64 y) ∧ Below w.heap.size w w'
theorem LastAt.alloc {w w' : World} {b o : Nat} {x y : Int} (h : LastAt w b o x y w') (hb : b < w.heap.size) (ob : Obj) : LastAt w b o x y (w'.alloc ob) := by
  have hz := h.2.2.size
  have hB := (Below.refl w'.heap.size w').alloc (Nat.le_refl _) ob
  exact ⟨(hB.cell (p := ⟨b, o, none⟩) (by show b < _; omega)).trans h.1, (hB.cell (p := ⟨b, o + 1, none⟩) (by show b < _; omega)).trans h.2.1, bla h.2.2 _⟩
theorem LastAt.put {w w' : World} {b o : Nat} {x y : Int} (h : LastAt w b o x y w') (hb : b < w.heap.size) (c i : Nat) (hc : w.heap.size ≤ c) (v : Value) : LastAt w b o x y (w'.setCell ⟨c, i, none⟩ v) := by
  refine ⟨(World.cell?_setCell_other w' _ _ _ ?_).trans h.1, (World.cell?_setCell_other w' _ _ _ ?_).trans h.2.1, h.2.2.setCell (p := ⟨c, i, none⟩) hc _⟩ <;> (intro e; injection e; omega)

/-- What the three blocks of a call hold, in a later world. -/
structure Box4 (w : World) (p0 p1 : Int) (w' : World) : Prop where
  res : Two w' (w.heap.size + 1) 0 0
  last : Two w' (w.heap.size + 1 + 1) p0 p1
  size : w.heap.size + 1 + 1 < w'.heap.size
  below : Below w.heap.size w w'
theorem Box4.first (w : World) (d0 d1 p0 p1 : Int) : Box4 w p0 p1 (((w.alloc (.cells #[.int .u64 d0, .int .u64 d1] 40)).alloc (.cells #[.int .u64 0, .int .u64 0] 40)).alloc (.cells #[.int .u64 p0, .int .u64 p1] 40)).drew := by
  have h1 := (Two.fresh (w.alloc (.cells #[.int .u64 d0, .int .u64 d1] 40)) 0 0 40).alloc (by simp) (.cells #[.int .u64 p0, .int .u64 p1] 40)
  have h2 := Two.fresh ((w.alloc (.cells #[.int .u64 d0, .int .u64 d1] 40)).alloc (.cells #[.int .u64 0, .int .u64 0] 40)) p0 p1 40
  rw [World.size_alloc] at h1
  rw [World.size_alloc, World.size_alloc] at h2
  exact ⟨h1, h2, by simp, (bla (bla (bla (Below.refl _ _) _) _) _).drew⟩
theorem Box4.on {w W W' : World} {p0 p1 : Int} (h : Box4 w p0 p1 W) (hB : Below W.heap.size W W') : Box4 w p0 p1 W' :=
  ⟨h.res.below hB (Nat.lt_of_succ_lt h.size), h.last.below hB h.size, Nat.lt_of_lt_of_le h.size hB.size, bl h.below hB⟩
theorem Box4.alloc {w W : World} {p0 p1 : Int} (h : Box4 w p0 p1 W) (o : Obj) : Box4 w p0 p1 (W.alloc o) := h.on ((Below.refl _ _).alloc (Nat.le_refl _) o)

set_option maxHeartbeats 1000000 in
set_option maxRecDepth 100000 in
theorem rootOf_less (n i m : Nat) (d0 d1 p0 p1 r0 r1 s0 s1 : Int) (ok : Bool) (hn : 2 ≤ n) (hn2 : n ≤ 1099511627776) (hi : i < leftN n) (b off cap : Nat) (w : World)
    (hc1 : m + 1 ≤ cap) (hc2 : cap ≤ maxLen) (hb : b < w.heap.size) (e0 : w.cell? ⟨b, off + m * 2, none⟩ = some (.int .u64 p0)) (e1 : w.cell? ⟨b, off + m * 2 + 1, none⟩ = some (.int .u64 p1))
    (hrec : ∀ W, Below w.heap.size w W → Calls Try.prog 62 #[.int .i64 (leftN n), .int .i64 i, .agg #[.int .u64 d0, .int .u64 d1], .slice (some ⟨b, off, none⟩) m cap] W fun e w' => e = .returned (.tuple #[.agg #[.int .u64 r0, .int .u64 r1], .bool ok]) ∧ Below W.heap.size W w')
    (hpair : ∀ W, Calls Try.prog 60 #[.agg #[.int .u64 r0, .int .u64 r1], .agg #[.int .u64 p0, .int .u64 p1]] W fun e w' => e = .returned (.agg #[.int .u64 s0, .int .u64 s1]) ∧ Below W.heap.size W w') :
    Calls Try.prog 62 #[.int .i64 n, .int .i64 i, .agg #[.int .u64 d0, .int .u64 d1], .slice (some ⟨b, off, none⟩) (m + 1) cap] w fun e w' => e = .returned (.tuple #[.agg #[.int .u64 s0, .int .u64 s1], .bool ok]) ∧ Below w.heap.size w w' := by
  unfold maxLen at hc2
  have HR := Lib.hid hrec
  have HP := Lib.hid hpair
  clear hrec hpair
  have t1 : ((n : Int) == 1) = false := by simp; omega
  have t2 : ((m : Int) + 1 == 0) = false := by simp; omega
  have t3 : (0 : Int) ≤ (m : Int) := by omega
  have t4 : (m : Int) < (m : Int) + 1 := by omega
  have t5 : (m : Int) ≤ (cap : Int) := by omega
  have t6 : (i : Int) < (leftN n : Int) := by omega
  have w1 : IntKind.i64.wrap (m : Int) = (m : Int) := by rw [IntKind.wrap_i64]; omega
  have w2 : IntKind.i64.wrap ((m : Int) + 1 - 1) = (m : Int) := by rw [IntKind.wrap_i64]; omega
  go_enter Try.func62, Try.ntmps62
  go_wp2
  have start : LastAt w b (off + m * 2) p0 p1 ((w.alloc (.cells #[.int .u64 d0, .int .u64 d1] 40)).alloc (.cells #[.int .u64 0, .int .u64 0] 40)).drew := by
    have h0 : LastAt w b (off + m * 2) p0 p1 w := ⟨e0, e1, Below.refl _ _⟩
    have h2 := (h0.alloc hb (.cells #[.int .u64 d0, .int .u64 d1] 40)).alloc hb (.cells #[.int .u64 0, .int .u64 0] 40)
    exact ⟨h2.1, h2.2.1, h2.2.2.drew⟩
  have start3 : ∀ ob, LastAt w b (off + m * 2) p0 p1 (((w.alloc (.cells #[.int .u64 d0, .int .u64 d1] 40)).alloc (.cells #[.int .u64 0, .int .u64 0] 40)).alloc ob).drew := fun ob => by
    have h0 : LastAt w b (off + m * 2) p0 p1 w := ⟨e0, e1, Below.refl _ _⟩
    have h2 := ((h0.alloc hb (.cells #[.int .u64 d0, .int .u64 d1] 40)).alloc hb (.cells #[.int .u64 0, .int .u64 0] 40)).alloc hb ob
    exact ⟨h2.1, h2.2.1, h2.2.2.drew⟩
  go_region_held3 (fun w' => w'.cell? ⟨b, off + m * 2, none⟩ = some (.int .u64 p0) ∧ w'.cell? ⟨b, off + m * 2 + 1, none⟩ = some (.int .u64 p1) ∧ Below w.heap.size w w') (first | exact start | exact start3 _)
    (first | (go_at_call 59; refine (half_any n hn hn2 _).mono ?_; rintro e w' ⟨rfl, rfl⟩))
  all_goals
    go_wp2_with fail
    refine (HR.out _ (start3 _).2.2).mono ?_
    rintro e w' ⟨rfl, hb1⟩
    have k1 := (Box4.first w d0 d1 p0 p1).on hb1
    obtain ⟨a1, a2, a3, a4⟩ := k1.last
    have a5 := k1.size
    go_wp2_with fail
    refine (HP.out _).mono ?_
    rintro e w2 ⟨rfl, hb2⟩
    have k2 := (k1.alloc (.cells #[.int .u64 r0, .int .u64 r1] 40)).on hb2
    obtain ⟨c1, c2, c3, c4⟩ := k2.res
    have c5 := k2.size
    clear a1 a2 a3 a4 a5
    go_wp2
    refine bodyPost_ret (v := .tuple #[.agg #[.int .u64 s0, .int .u64 s1], .bool ok]) ?_ rfl ⟨rfl, ?_⟩
    · obtain ⟨x1, x2, _, _⟩ := (k2.res.set0 s0).set1 s1
      simp [results, Try.results62, go_sem, x1, x2]
    · exact (k2.below.setCell (p := ⟨w.heap.size + 1, 0, none⟩) (by simp) _).setCell (p := ⟨w.heap.size + 1, 1, none⟩) (by simp) _
set_option maxHeartbeats 1000000 in
set_option maxRecDepth 100000 in
theorem rootOf_more (n i m : Nat) (d0 d1 p0 p1 r0 r1 s0 s1 : Int) (ok : Bool) (hn : 2 ≤ n) (hn2 : n ≤ 1099511627776) (hi : leftN n ≤ i) (hi2 : i < n) (hk : leftN n < n) (b off cap : Nat) (w : World)
    (hc1 : m + 1 ≤ cap) (hc2 : cap ≤ maxLen) (hb : b < w.heap.size) (e0 : w.cell? ⟨b, off + m * 2, none⟩ = some (.int .u64 p0)) (e1 : w.cell? ⟨b, off + m * 2 + 1, none⟩ = some (.int .u64 p1))
    (hrec : ∀ W, Below w.heap.size w W → Calls Try.prog 62 #[.int .i64 ((n : Int) - (leftN n : Int)), .int .i64 ((i : Int) - (leftN n : Int)), .agg #[.int .u64 d0, .int .u64 d1], .slice (some ⟨b, off, none⟩) m cap] W fun e w' => e = .returned (.tuple #[.agg #[.int .u64 r0, .int .u64 r1], .bool ok]) ∧ Below W.heap.size W w')
    (hpair : ∀ W, Calls Try.prog 60 #[.agg #[.int .u64 p0, .int .u64 p1], .agg #[.int .u64 r0, .int .u64 r1]] W fun e w' => e = .returned (.agg #[.int .u64 s0, .int .u64 s1]) ∧ Below W.heap.size W w') :
    Calls Try.prog 62 #[.int .i64 n, .int .i64 i, .agg #[.int .u64 d0, .int .u64 d1], .slice (some ⟨b, off, none⟩) (m + 1) cap] w fun e w' => e = .returned (.tuple #[.agg #[.int .u64 s0, .int .u64 s1], .bool ok]) ∧ Below w.heap.size w w' := by
  unfold maxLen at hc2
  have HR := Lib.hid hrec
  have HP := Lib.hid hpair
  clear hrec hpair
  have t1 : ((n : Int) == 1) = false := by simp; omega
  have t2 : ((m : Int) + 1 == 0) = false := by simp; omega
  have t3 : (0 : Int) ≤ (m : Int) := by omega
  have t4 : (m : Int) < (m : Int) + 1 := by omega
  have t5 : (m : Int) ≤ (cap : Int) := by omega
  have t6 : ¬ (i : Int) < (leftN n : Int) := by omega
  have t7 : (leftN n : Int) ≤ (i : Int) := by omega
  have t8 : (i : Int) < (n : Int) := by omega
  have t9 : (n : Int) ≤ 1099511627776 := by omega
  have w1 : IntKind.i64.wrap (m : Int) = (m : Int) := by rw [IntKind.wrap_i64]; omega
  have w2 : IntKind.i64.wrap ((m : Int) + 1 - 1) = (m : Int) := by rw [IntKind.wrap_i64]; omega
  go_enter Try.func62, Try.ntmps62
  go_wp2
  have start : LastAt w b (off + m * 2) p0 p1 ((w.alloc (.cells #[.int .u64 d0, .int .u64 d1] 40)).alloc (.cells #[.int .u64 0, .int .u64 0] 40)).drew := by
    have h0 : LastAt w b (off + m * 2) p0 p1 w := ⟨e0, e1, Below.refl _ _⟩
    have h2 := (h0.alloc hb (.cells #[.int .u64 d0, .int .u64 d1] 40)).alloc hb (.cells #[.int .u64 0, .int .u64 0] 40)
    exact ⟨h2.1, h2.2.1, h2.2.2.drew⟩
  have start3 : ∀ ob, LastAt w b (off + m * 2) p0 p1 (((w.alloc (.cells #[.int .u64 d0, .int .u64 d1] 40)).alloc (.cells #[.int .u64 0, .int .u64 0] 40)).alloc ob).drew := fun ob => by
    have h0 : LastAt w b (off + m * 2) p0 p1 w := ⟨e0, e1, Below.refl _ _⟩
    have h2 := ((h0.alloc hb (.cells #[.int .u64 d0, .int .u64 d1] 40)).alloc hb (.cells #[.int .u64 0, .int .u64 0] 40)).alloc hb ob
    exact ⟨h2.1, h2.2.1, h2.2.2.drew⟩
  go_region_held3 (fun w' => w'.cell? ⟨b, off + m * 2, none⟩ = some (.int .u64 p0) ∧ w'.cell? ⟨b, off + m * 2 + 1, none⟩ = some (.int .u64 p1) ∧ Below w.heap.size w w') (first | exact start | exact start3 _)
    (first | (go_at_call 59; refine (half_any n hn hn2 _).mono ?_; rintro e w' ⟨rfl, rfl⟩))
  all_goals
    go_wp2_with fail
    refine (HR.out _ (start3 _).2.2).mono ?_
    rintro e w' ⟨rfl, hb1⟩
    have k1 := (Box4.first w d0 d1 p0 p1).on hb1
    obtain ⟨a1, a2, a3, a4⟩ := k1.last
    have a5 := k1.size
    go_wp2_with fail
    refine (HP.out _).mono ?_
    rintro e w2 ⟨rfl, hb2⟩
    have k2 := (k1.alloc (.cells #[.int .u64 r0, .int .u64 r1] 40)).on hb2
    obtain ⟨c1, c2, c3, c4⟩ := k2.res
    have c5 := k2.size
    clear a1 a2 a3 a4 a5
    go_wp2
    refine bodyPost_ret (v := .tuple #[.agg #[.int .u64 s0, .int .u64 s1], .bool ok]) ?_ rfl ⟨rfl, ?_⟩
    · obtain ⟨x1, x2, _, _⟩ := (k2.res.set0 s0).set1 s1
      simp [results, Try.results62, go_sem, x1, x2]
    · exact (k2.below.setCell (p := ⟨w.heap.size + 1, 0, none⟩) (by simp) _).setCell (p := ⟨w.heap.size + 1, 1, none⟩) (by simp) _
set_option maxHeartbeats 1000000 in
set_option maxRecDepth 100000 in
theorem rootOf_one (i len cap : Nat) (a : Option Addr) (d0 d1 l0 l1 : Int)
    (hleaf : ∀ W, Calls Try.prog 58 #[.agg #[.int .u64 d0, .int .u64 d1]] W fun e w' => e = .returned (.agg #[.int .u64 l0, .int .u64 l1]) ∧ Below W.heap.size W w') (w : World) :
    Calls Try.prog 62 #[.int .i64 1, .int .i64 i, .agg #[.int .u64 d0, .int .u64 d1], .slice a len cap] w fun e w' => e = .returned (.tuple #[.agg #[.int .u64 l0, .int .u64 l1], .bool ((len : Int) == 0)]) ∧ Below w.heap.size w w' := by
  have HL := Lib.hid hleaf
  clear hleaf
  go_enter Try.func62, Try.ntmps62
  go_wp2_with fail
  refine (HL.out _).mono ?_
  rintro e w' ⟨rfl, hb1⟩
  have r0 := Two.fresh (w.alloc (.cells #[.int .u64 d0, .int .u64 d1] 40)) 0 0 40
  rw [World.size_alloc] at r0
  have hQ := r0.below hb1 (by simp)
  obtain ⟨q0, q1, q2, q3⟩ := hQ
  have hQ : Two w' (w.heap.size + 1) 0 0 := ⟨q0, q1, q2, q3⟩
  go_wp2
  refine bodyPost_ret (v := .tuple #[.agg #[.int .u64 l0, .int .u64 l1], .bool ((len : Int) == 0)]) ?_ rfl ⟨rfl, ?_⟩
  · obtain ⟨x1, x2, _, _⟩ := (hQ.set0 l0).set1 l1
    simp [results, Try.results62, go_sem, x1, x2]
  · exact ((bl (bla (bla (Below.refl _ _) _) _) hb1).setCell (p := ⟨w.heap.size + 1, 0, none⟩) (by simp) _).setCell (p := ⟨w.heap.size + 1, 1, none⟩) (by simp) _
set_option maxHeartbeats 1000000 in
set_option maxRecDepth 100000 in
theorem rootOf_none (n i cap : Nat) (a : Option Addr) (d0 d1 : Int) (hn : 2 ≤ n) (w : World) :
    Calls Try.prog 62 #[.int .i64 n, .int .i64 i, .agg #[.int .u64 d0, .int .u64 d1], .slice a 0 cap] w fun e w' => e = .returned (.tuple #[.agg #[.int .u64 0, .int .u64 0], .bool false]) ∧ Below w.heap.size w w' := by
  have t1 : ((n : Int) == 1) = false := by simp; omega
  go_enter Try.func62, Try.ntmps62
  go_wp2
  refine bodyPost_ret (v := .tuple #[.agg #[.int .u64 0, .int .u64 0], .bool false]) ?_ rfl ⟨rfl, ?_⟩
  · simp [results, Try.results62, go_sem]
  · exact bla (bla (Below.refl _ _) _) _

/-- digest.rootOf returns the root that results. -/
theorem rootOf_any (d : Dig) : ∀ (rp : List Dig) (n i : Nat) (w : World) (v : Value), 1 ≤ n → n ≤ 1099511627776 → i < n → IsDigs w v rp.reverse →
    Calls Try.prog 62 #[.int .i64 n, .int .i64 i, d.v, v] w fun e w' => e = .returned (.tuple #[(rootM n i d rp).1.v, .bool (rootM n i d rp).2]) ∧ Below w.heap.size w w'
  | [], n, i, w, v, h1, h2, h3, hv => by
    obtain ⟨a, cap, rfl, _⟩ := hv
    by_cases hn : n = 1
    · subst hn
      exact rootOf_one i 0 cap a d.1 d.2 (leafD d).1 (leafD d).2 (fun W => leafV_any d.1 d.2 W) w
    · have e : rootM n i d [] = ((0, 0), false) := by unfold rootM; rw [if_neg hn]
      rw [e]
      exact rootOf_none n i cap a d.1 d.2 (by omega) w
  | p :: rp, n, i, w, v, h1, h2, h3, hv => by
    rw [List.reverse_cons] at hv
    obtain ⟨b, off, cap, rfl, hc1, hc2, hb, e0, e1, hrest⟩ := hv.last
    by_cases hn : n = 1
    · subst hn
      have e : rootM 1 i d (p :: rp) = (leafD d, false) := by unfold rootM; rw [if_pos rfl]
      rw [e]
      refine (rootOf_one i (rp.reverse.length + 1) cap _ d.1 d.2 (leafD d).1 (leafD d).2 (fun W => leafV_any d.1 d.2 W) w).mono ?_
      rintro e w' ⟨rfl, hB⟩
      refine ⟨?_, hB⟩
      have : (((rp.reverse.length + 1 : Nat) : Int) == 0) = false := by simp; omega
      rw [this]; rfl
    · obtain ⟨_, _, _, _, hk, _⟩ := leftN_spec n (by omega) (by omega)
      have hpos : 1 ≤ leftN n := Nat.pow_pos (by decide)
      by_cases hi : i < leftN n
      · have e : rootM n i d (p :: rp) = (pairD (rootM (leftN n) i d rp).1 p, (rootM (leftN n) i d rp).2) := by rw [rootM, if_neg hn, if_pos hi]
        rw [e]
        exact rootOf_less n i _ d.1 d.2 p.1 p.2 (rootM (leftN n) i d rp).1.1 (rootM (leftN n) i d rp).1.2 (pairD (rootM (leftN n) i d rp).1 p).1 (pairD (rootM (leftN n) i d rp).1 p).2 _ (by omega) h2 hi b off cap w hc1 hc2 hb e0 e1
          (fun W hW => rootOf_any d rp (leftN n) i W _ hpos (by omega) hi (hrest.below hW)) (fun W => pairD_any _ p W)
      · have e : rootM n i d (p :: rp) = (pairD p (rootM (n - leftN n) (i - leftN n) d rp).1, (rootM (n - leftN n) (i - leftN n) d rp).2) := by rw [rootM, if_neg hn, if_neg hi]
        rw [e]
        refine rootOf_more n i _ d.1 d.2 p.1 p.2 (rootM (n - leftN n) (i - leftN n) d rp).1.1 (rootM (n - leftN n) (i - leftN n) d rp).1.2 (pairD p (rootM (n - leftN n) (i - leftN n) d rp).1).1 (pairD p (rootM (n - leftN n) (i - leftN n) d rp).1).2 _ (by omega) h2 (by omega) h3 hk b off cap w hc1 hc2 hb e0 e1
          (fun W hW => ?_) (fun W => pairD_any p _ W)
        have := rootOf_any d rp (n - leftN n) (i - leftN n) W _ (by omega) (by omega) (by omega) (hrest.below hW)
        rw [Int.natCast_sub (by omega), Int.natCast_sub (by omega)] at this
        exact this
end Go.Proofs.Ytfheflihofafdaa.Tr

/- The reference's result, at this translation: the root that results from an element and its proof. -/
namespace Go.Proofs.Ytfheflihofafdaa.Tr
open Go.RowKit
attribute [local go_sem] eq_arr

/-- The digest's box and the result's cells, in a later world. -/
structure Box5 (w : World) (d0 d1 : Int) (W : World) : Prop where
  d : Two W w.heap.size d0 d1
  res : Two W (w.heap.size + 1) 0 0
  size : w.heap.size + 1 < W.heap.size
  below : Below w.heap.size w W
theorem Box5.on {w W W' : World} {d0 d1 : Int} (h : Box5 w d0 d1 W) (hB : Below W.heap.size W W') : Box5 w d0 d1 W' :=
  ⟨h.d.below hB (Nat.lt_of_succ_lt h.size), h.res.below hB h.size, Nat.lt_of_lt_of_le h.size hB.size, bl h.below hB⟩
theorem Box5.alloc {w W : World} {d0 d1 : Int} (h : Box5 w d0 d1 W) (o : Obj) : Box5 w d0 d1 (W.alloc o) := h.on ((Below.refl _ _).alloc (Nat.le_refl _) o)
theorem Box5.put {w W : World} {d0 d1 : Int} (h : Box5 w d0 d1 W) (c i : Nat) (hc : w.heap.size + 2 ≤ c) (v : Value) : Box5 w d0 d1 (W.setCell ⟨c, i, none⟩ v) :=
  ⟨h.d.far _ (by show c ≠ _; omega) _, h.res.far _ (by show c ≠ _; omega) _, by simpa [World.setCell] using h.size, h.below.setCell (p := ⟨c, i, none⟩) (by show _ ≤ c; omega) _⟩
theorem Box5.first (w : World) (d0 d1 : Int) : Box5 w d0 d1 ((w.alloc (.cells #[.int .u64 d0, .int .u64 d1] 40)).alloc (.cells #[.int .u64 0, .int .u64 0] 40)) := by
  have h0 := (Two.fresh w d0 d1 40).alloc (by simp) (.cells #[.int .u64 0, .int .u64 0] 40)
  have h1 := Two.fresh (w.alloc (.cells #[.int .u64 d0, .int .u64 d1] 40)) 0 0 40
  rw [World.size_alloc] at h1
  exact ⟨h0, h1, by simp, bla (bla (Below.refl _ _) _) _⟩
theorem Box5.drew {w W : World} {d0 d1 : Int} (h : Box5 w d0 d1 W) : Box5 w d0 d1 W.drew := ⟨h.d, h.res, h.size, h.below.drew⟩
theorem Box5.cells {w W : World} {d0 d1 : Int} (h : Box5 w d0 d1 W) : W.cell? ⟨w.heap.size, 0, none⟩ = some (.int .u64 d0) ∧ W.cell? ⟨w.heap.size, 1, none⟩ = some (.int .u64 d1) := ⟨h.d.1, h.d.2.1⟩

/-- The recursive result's box at block c, the result's cells, and the proof's last element, in a later world. -/
structure Box6 (w : World) (c : Nat) (x y : Int) (b o : Nat) (p0 p1 : Int) (W : World) : Prop where
  t : Two W c x y
  res : Two W (w.heap.size + 1) 0 0
  l0 : W.cell? ⟨b, o, none⟩ = some (.int .u64 p0)
  l1 : W.cell? ⟨b, o + 1, none⟩ = some (.int .u64 p1)
  old : b < w.heap.size
  far : w.heap.size + 1 < c
  size : c < W.heap.size
  below : Below w.heap.size w W
theorem Box6.on {w W W' : World} {c b o : Nat} {x y p0 p1 : Int} (h : Box6 w c x y b o p0 p1 W) (hB : Below W.heap.size W W') : Box6 w c x y b o p0 p1 W' :=
  ⟨h.t.below hB h.size, h.res.below hB (Nat.lt_trans h.far h.size), (hB.cell (p := ⟨b, o, none⟩) (Nat.lt_of_lt_of_le h.old h.below.size)).trans h.l0, (hB.cell (p := ⟨b, o + 1, none⟩) (Nat.lt_of_lt_of_le h.old h.below.size)).trans h.l1, h.old, h.far, Nat.lt_of_lt_of_le h.size hB.size, bl h.below hB⟩
theorem Box6.drew {w W : World} {c b o : Nat} {x y p0 p1 : Int} (h : Box6 w c x y b o p0 p1 W) : Box6 w c x y b o p0 p1 W.drew := ⟨h.t, h.res, h.l0, h.l1, h.old, h.far, h.size, h.below.drew⟩
theorem Box6.cells {w W : World} {c b o : Nat} {x y p0 p1 : Int} (h : Box6 w c x y b o p0 p1 W) :
    W.cell? ⟨c, 0, none⟩ = some (.int .u64 x) ∧ W.cell? ⟨c, 1, none⟩ = some (.int .u64 y) ∧ W.cell? ⟨b, o, none⟩ = some (.int .u64 p0) ∧ W.cell? ⟨b, o + 1, none⟩ = some (.int .u64 p1) := ⟨h.t.1, h.t.2.1, h.l0, h.l1⟩
theorem Box6.putCells {w W : World} {c b o : Nat} {x y p0 p1 : Int} (h : Box6 w c x y b o p0 p1 W) (u v : Value) :
    ((W.setCell ⟨w.heap.size + 1, 0, none⟩ u).setCell ⟨w.heap.size + 1, 1, none⟩ v).cell? ⟨c, 0, none⟩ = some (.int .u64 x) ∧ ((W.setCell ⟨w.heap.size + 1, 0, none⟩ u).setCell ⟨w.heap.size + 1, 1, none⟩ v).cell? ⟨c, 1, none⟩ = some (.int .u64 y) ∧
    ((W.setCell ⟨w.heap.size + 1, 0, none⟩ u).setCell ⟨w.heap.size + 1, 1, none⟩ v).cell? ⟨b, o, none⟩ = some (.int .u64 p0) ∧ ((W.setCell ⟨w.heap.size + 1, 0, none⟩ u).setCell ⟨w.heap.size + 1, 1, none⟩ v).cell? ⟨b, o + 1, none⟩ = some (.int .u64 p1) := by
  have ho := h.old
  have hf := h.far
  have key : ∀ (q : Addr) (z : Value), q.block ≠ w.heap.size + 1 → W.cell? q = some z → ((W.setCell ⟨w.heap.size + 1, 0, none⟩ u).setCell ⟨w.heap.size + 1, 1, none⟩ v).cell? q = some z := fun q z hq hz => by
    rw [World.cell?_setCell_other _ _ _ _ (by rintro rfl; exact hq rfl), World.cell?_setCell_other _ _ _ _ (by rintro rfl; exact hq rfl)]; exact hz
  exact ⟨key _ _ (by show c ≠ _; omega) h.t.1, key _ _ (by show c ≠ _; omega) h.t.2.1, key _ _ (by show b ≠ _; omega) h.l0, key _ _ (by show b ≠ _; omega) h.l1⟩
theorem Box6.ofA {w W : World} {d0 d1 x y p0 p1 : Int} {b o : Nat} (h : Box5 w d0 d1 W) (hb : b < w.heap.size) (e0 : w.cell? ⟨b, o, none⟩ = some (.int .u64 p0)) (e1 : w.cell? ⟨b, o + 1, none⟩ = some (.int .u64 p1)) :
    Box6 w W.heap.size x y b o p0 p1 (W.alloc (.cells #[.int .u64 x, .int .u64 y] 40)).drew :=
  Box6.drew ⟨Two.fresh W x y 40, (h.alloc _).res, ((bla h.below _).cell (p := ⟨b, o, none⟩) hb).trans e0, ((bla h.below _).cell (p := ⟨b, o + 1, none⟩) hb).trans e1, hb, h.size, by simp, bla h.below _⟩
theorem Box6.ofB {w W : World} {d0 d1 x y p0 p1 : Int} {b o : Nat} (h : Box5 w d0 d1 W) (k : Two W (w.heap.size + 1 + 1) 0 0) (hz : w.heap.size + 1 + 1 < W.heap.size) (hb : b < w.heap.size) (e0 : w.cell? ⟨b, o, none⟩ = some (.int .u64 p0)) (e1 : w.cell? ⟨b, o + 1, none⟩ = some (.int .u64 p1)) :
    Box6 w (w.heap.size + 1 + 1) x y b o p0 p1 ((W.setCell ⟨w.heap.size + 1 + 1, 0, none⟩ (.int .u64 x)).setCell ⟨w.heap.size + 1 + 1, 1, none⟩ (.int .u64 y)).drew := by
  have h2 := (h.put (w.heap.size + 1 + 1) 0 (Nat.le_refl _) (.int .u64 x)).put (w.heap.size + 1 + 1) 1 (Nat.le_refl _) (.int .u64 y)
  exact Box6.drew ⟨(k.set0 x).set1 y, h2.res, (h2.below.cell (p := ⟨b, o, none⟩) hb).trans e0, (h2.below.cell (p := ⟨b, o + 1, none⟩) hb).trans e1, hb, by omega, by simpa [World.setCell] using hz, h2.below⟩

set_option maxHeartbeats 1000000 in
set_option maxRecDepth 100000 in
theorem result_less (n i m : Nat) (d0 d1 p0 p1 r0 r1 s0 s1 : Int) (ok : Bool) (hn : 2 ≤ n) (hn2 : n ≤ 1099511627776) (hi : i < leftN n) (b off cap : Nat) (w : World)
    (hc1 : m + 1 ≤ cap) (hc2 : cap ≤ maxLen) (hb : b < w.heap.size) (e0 : w.cell? ⟨b, off + m * 2, none⟩ = some (.int .u64 p0)) (e1 : w.cell? ⟨b, off + m * 2 + 1, none⟩ = some (.int .u64 p1))
    (hrec : ∀ W, Below w.heap.size w W → Calls Try.prog 66 #[.int .i64 (leftN n), .int .i64 i, .agg #[.int .u64 d0, .int .u64 d1], .slice (some ⟨b, off, none⟩) m cap] W fun e w' => e = .returned (.tuple #[.agg #[.int .u64 r0, .int .u64 r1], .bool ok]) ∧ Below W.heap.size W w')
    (hpair : ∀ W, Calls Try.prog 61 #[.agg #[.int .u64 r0, .int .u64 r1], .agg #[.int .u64 p0, .int .u64 p1]] W fun e w' => e = .returned (.agg #[.int .u64 s0, .int .u64 s1]) ∧ Below W.heap.size W w') :
    Calls Try.prog 66 #[.int .i64 n, .int .i64 i, .agg #[.int .u64 d0, .int .u64 d1], .slice (some ⟨b, off, none⟩) (m + 1) cap] w fun e w' => e = .returned (.tuple #[.agg #[.int .u64 s0, .int .u64 s1], .bool ok]) ∧ Below w.heap.size w w' := by
  unfold maxLen at hc2
  have HR := Lib.hid hrec
  have HP := Lib.hid hpair
  clear hrec hpair
  have t1 : ((n : Int) == 1) = false := by simp; omega
  have t3 : (0 : Int) ≤ (m : Int) := by omega
  have t4 : (m : Int) < (m : Int) + 1 := by omega
  have t5 : (m : Int) ≤ (cap : Int) := by omega
  have t6 : (i : Int) < (leftN n : Int) := by omega
  have t7 : ¬ (m : Int) < 0 := by omega
  go_enter Try.func66, Try.ntmps66
  go_wp2_with (go_at_call 54; refine (left_any n hn hn2 _).mono ?_; rintro e w' ⟨rfl, rfl⟩)
  have f0 := Box5.first w d0 d1
  have start := f0.drew
  have startB : ∀ ob, Box5 w d0 d1 (((w.alloc (.cells #[.int .u64 d0, .int .u64 d1] 40)).alloc (.cells #[.int .u64 0, .int .u64 0] 40)).alloc ob).drew := fun ob => (f0.alloc ob).drew
  have freshB : Two (((w.alloc (.cells #[.int .u64 d0, .int .u64 d1] 40)).alloc (.cells #[.int .u64 0, .int .u64 0] 40)).alloc (.cells #[.int .u64 0, .int .u64 0] 40)).drew (w.heap.size + 1 + 1) 0 0 := by
    have := Two.fresh ((w.alloc (.cells #[.int .u64 d0, .int .u64 d1] 40)).alloc (.cells #[.int .u64 0, .int .u64 0] 40)) 0 0 40
    rw [World.size_alloc, World.size_alloc] at this
    exact this
  go_region_held3 (fun w' => w'.cell? ⟨w.heap.size, 0, none⟩ = some (.int .u64 d0) ∧ w'.cell? ⟨w.heap.size, 1, none⟩ = some (.int .u64 d1)) (first | exact hh.cells | exact (hh.alloc _).cells | exact ((hh.put _ _ (Nat.le_refl _) _).put _ _ (Nat.le_refl _) _).cells | exact start.cells | exact (startB _).cells)
    (first | (go_at_call 66; refine (HR.out _ (by first | exact (startB _).below | exact start.below)).mono ?_; rintro e w' ⟨rfl, hb1⟩; have hh := Box5.on (by first | exact startB _ | exact start) hb1; first | (have kb := Two.below freshB hb1 (by simp); obtain ⟨kb0, kb1, kb2, kb3⟩ := kb) | skip))
  · have start2 := Box6.ofA (x := r0) (y := r1) hh hb e0 e1
    go_wp2
    go_region_held3 (fun W => W.cell? ⟨w'.heap.size, 0, none⟩ = some (.int .u64 r0) ∧ W.cell? ⟨w'.heap.size, 1, none⟩ = some (.int .u64 r1) ∧ W.cell? ⟨b, off + m * 2, none⟩ = some (.int .u64 p0) ∧ W.cell? ⟨b, off + m * 2 + 1, none⟩ = some (.int .u64 p1)) (first | exact hh2.cells | exact hh2.putCells _ _ | exact start2.cells)
      (first | (go_at_call 61; refine (HP.out _).mono ?_; rintro e w2 ⟨rfl, hb2⟩; have hh2 := Box6.on start2 hb2; obtain ⟨c1, c2, c3, c4⟩ := hh2.res))
    go_wp2
    refine bodyPost_ret (v := .tuple #[.agg #[.int .u64 s0, .int .u64 s1], .bool ok]) ?_ rfl ⟨rfl, ?_⟩
    · obtain ⟨x1, x2, _, _⟩ := (hh2.res.set0 s0).set1 s1
      simp [results, Try.results66, go_sem, x1, x2]
    · exact (hh2.below.setCell (p := ⟨w.heap.size + 1, 0, none⟩) (by simp) _).setCell (p := ⟨w.heap.size + 1, 1, none⟩) (by simp) _
  · have start2 := Box6.ofB (x := r0) (y := r1) hh ⟨kb0, kb1, kb2, kb3⟩ (by have := hb1.size; simp at this; omega) hb e0 e1
    go_wp2
    go_region_held3 (fun W => W.cell? ⟨w.heap.size + 1 + 1, 0, none⟩ = some (.int .u64 r0) ∧ W.cell? ⟨w.heap.size + 1 + 1, 1, none⟩ = some (.int .u64 r1) ∧ W.cell? ⟨b, off + m * 2, none⟩ = some (.int .u64 p0) ∧ W.cell? ⟨b, off + m * 2 + 1, none⟩ = some (.int .u64 p1)) (first | exact hh2.cells | exact hh2.putCells _ _ | exact start2.cells)
      (first | (go_at_call 61; refine (HP.out _).mono ?_; rintro e w2 ⟨rfl, hb2⟩; have hh2 := Box6.on start2 hb2; obtain ⟨c1, c2, c3, c4⟩ := hh2.res))
    go_wp2
    refine bodyPost_ret (v := .tuple #[.agg #[.int .u64 s0, .int .u64 s1], .bool ok]) ?_ rfl ⟨rfl, ?_⟩
    · obtain ⟨x1, x2, _, _⟩ := (hh2.res.set0 s0).set1 s1
      simp [results, Try.results66, go_sem, x1, x2]
    · exact (hh2.below.setCell (p := ⟨w.heap.size + 1, 0, none⟩) (by simp) _).setCell (p := ⟨w.heap.size + 1, 1, none⟩) (by simp) _
set_option maxHeartbeats 1000000 in
set_option maxRecDepth 100000 in
theorem result_more (n i m : Nat) (d0 d1 p0 p1 r0 r1 s0 s1 : Int) (ok : Bool) (hn : 2 ≤ n) (hn2 : n ≤ 1099511627776) (hi : leftN n ≤ i) (hi2 : i < n) (hk : leftN n < n) (b off cap : Nat) (w : World)
    (hc1 : m + 1 ≤ cap) (hc2 : cap ≤ maxLen) (hb : b < w.heap.size) (e0 : w.cell? ⟨b, off + m * 2, none⟩ = some (.int .u64 p0)) (e1 : w.cell? ⟨b, off + m * 2 + 1, none⟩ = some (.int .u64 p1))
    (hrec : ∀ W, Below w.heap.size w W → Calls Try.prog 66 #[.int .i64 ((n : Int) - (leftN n : Int)), .int .i64 ((i : Int) - (leftN n : Int)), .agg #[.int .u64 d0, .int .u64 d1], .slice (some ⟨b, off, none⟩) m cap] W fun e w' => e = .returned (.tuple #[.agg #[.int .u64 r0, .int .u64 r1], .bool ok]) ∧ Below W.heap.size W w')
    (hpair : ∀ W, Calls Try.prog 61 #[.agg #[.int .u64 p0, .int .u64 p1], .agg #[.int .u64 r0, .int .u64 r1]] W fun e w' => e = .returned (.agg #[.int .u64 s0, .int .u64 s1]) ∧ Below W.heap.size W w') :
    Calls Try.prog 66 #[.int .i64 n, .int .i64 i, .agg #[.int .u64 d0, .int .u64 d1], .slice (some ⟨b, off, none⟩) (m + 1) cap] w fun e w' => e = .returned (.tuple #[.agg #[.int .u64 s0, .int .u64 s1], .bool ok]) ∧ Below w.heap.size w w' := by
  unfold maxLen at hc2
  have HR := Lib.hid hrec
  have HP := Lib.hid hpair
  clear hrec hpair
  have t1 : ((n : Int) == 1) = false := by simp; omega
  have t3 : (0 : Int) ≤ (m : Int) := by omega
  have t4 : (m : Int) < (m : Int) + 1 := by omega
  have t5 : (m : Int) ≤ (cap : Int) := by omega
  have t6 : ¬ (i : Int) < (leftN n : Int) := by omega
  have u7 : (leftN n : Int) ≤ (i : Int) := by omega
  have u8 : (i : Int) < (n : Int) := by omega
  have u9 : (n : Int) ≤ 1099511627776 := by omega
  have w1 : IntKind.i64.wrap ((n : Int) - (leftN n : Int)) = (n : Int) - (leftN n : Int) := by rw [IntKind.wrap_i64]; omega
  have w2 : IntKind.i64.wrap ((i : Int) - (leftN n : Int)) = (i : Int) - (leftN n : Int) := by rw [IntKind.wrap_i64]; omega
  have t7 : ¬ (m : Int) < 0 := by omega
  go_enter Try.func66, Try.ntmps66
  go_wp2_with (go_at_call 54; refine (left_any n hn hn2 _).mono ?_; rintro e w' ⟨rfl, rfl⟩)
  have f0 := Box5.first w d0 d1
  have start := f0.drew
  have startB : ∀ ob, Box5 w d0 d1 (((w.alloc (.cells #[.int .u64 d0, .int .u64 d1] 40)).alloc (.cells #[.int .u64 0, .int .u64 0] 40)).alloc ob).drew := fun ob => (f0.alloc ob).drew
  have freshB : Two (((w.alloc (.cells #[.int .u64 d0, .int .u64 d1] 40)).alloc (.cells #[.int .u64 0, .int .u64 0] 40)).alloc (.cells #[.int .u64 0, .int .u64 0] 40)).drew (w.heap.size + 1 + 1) 0 0 := by
    have := Two.fresh ((w.alloc (.cells #[.int .u64 d0, .int .u64 d1] 40)).alloc (.cells #[.int .u64 0, .int .u64 0] 40)) 0 0 40
    rw [World.size_alloc, World.size_alloc] at this
    exact this
  go_region_held3 (fun w' => w'.cell? ⟨w.heap.size, 0, none⟩ = some (.int .u64 d0) ∧ w'.cell? ⟨w.heap.size, 1, none⟩ = some (.int .u64 d1)) (first | exact hh.cells | exact (hh.alloc _).cells | exact ((hh.put _ _ (Nat.le_refl _) _).put _ _ (Nat.le_refl _) _).cells | exact start.cells | exact (startB _).cells)
    (first | (go_at_call 66; refine (HR.out _ (by first | exact (startB _).below | exact start.below)).mono ?_; rintro e w' ⟨rfl, hb1⟩; have hh := Box5.on (by first | exact startB _ | exact start) hb1; first | (have kb := Two.below freshB hb1 (by simp); obtain ⟨kb0, kb1, kb2, kb3⟩ := kb) | skip))
  · have start2 := Box6.ofA (x := r0) (y := r1) hh hb e0 e1
    go_wp2
    go_region_held3 (fun W => W.cell? ⟨w'.heap.size, 0, none⟩ = some (.int .u64 r0) ∧ W.cell? ⟨w'.heap.size, 1, none⟩ = some (.int .u64 r1) ∧ W.cell? ⟨b, off + m * 2, none⟩ = some (.int .u64 p0) ∧ W.cell? ⟨b, off + m * 2 + 1, none⟩ = some (.int .u64 p1)) (first | exact hh2.cells | exact hh2.putCells _ _ | exact start2.cells)
      (first | (go_at_call 61; refine (HP.out _).mono ?_; rintro e w2 ⟨rfl, hb2⟩; have hh2 := Box6.on start2 hb2; obtain ⟨c1, c2, c3, c4⟩ := hh2.res))
    go_wp2
    refine bodyPost_ret (v := .tuple #[.agg #[.int .u64 s0, .int .u64 s1], .bool ok]) ?_ rfl ⟨rfl, ?_⟩
    · obtain ⟨x1, x2, _, _⟩ := (hh2.res.set0 s0).set1 s1
      simp [results, Try.results66, go_sem, x1, x2]
    · exact (hh2.below.setCell (p := ⟨w.heap.size + 1, 0, none⟩) (by simp) _).setCell (p := ⟨w.heap.size + 1, 1, none⟩) (by simp) _
  · have start2 := Box6.ofB (x := r0) (y := r1) hh ⟨kb0, kb1, kb2, kb3⟩ (by have := hb1.size; simp at this; omega) hb e0 e1
    go_wp2
    go_region_held3 (fun W => W.cell? ⟨w.heap.size + 1 + 1, 0, none⟩ = some (.int .u64 r0) ∧ W.cell? ⟨w.heap.size + 1 + 1, 1, none⟩ = some (.int .u64 r1) ∧ W.cell? ⟨b, off + m * 2, none⟩ = some (.int .u64 p0) ∧ W.cell? ⟨b, off + m * 2 + 1, none⟩ = some (.int .u64 p1)) (first | exact hh2.cells | exact hh2.putCells _ _ | exact start2.cells)
      (first | (go_at_call 61; refine (HP.out _).mono ?_; rintro e w2 ⟨rfl, hb2⟩; have hh2 := Box6.on start2 hb2; obtain ⟨c1, c2, c3, c4⟩ := hh2.res))
    go_wp2
    refine bodyPost_ret (v := .tuple #[.agg #[.int .u64 s0, .int .u64 s1], .bool ok]) ?_ rfl ⟨rfl, ?_⟩
    · obtain ⟨x1, x2, _, _⟩ := (hh2.res.set0 s0).set1 s1
      simp [results, Try.results66, go_sem, x1, x2]
    · exact (hh2.below.setCell (p := ⟨w.heap.size + 1, 0, none⟩) (by simp) _).setCell (p := ⟨w.heap.size + 1, 1, none⟩) (by simp) _
set_option maxHeartbeats 1000000 in
set_option maxRecDepth 100000 in
theorem result_one (i len cap : Nat) (a : Option Addr) (d0 d1 l0 l1 : Int) (S : ByteArray) (hlm : (len : Int) ≤ 9223372036854775807)
    (hstr : ∀ W, Calls Try.prog 48 #[.agg #[.int .u64 d0, .int .u64 d1]] W fun e w' => e = .returned (.string S) ∧ Below W.heap.size W w')
    (hof : ∀ W, Calls Try.prog 29 #[.string S] W fun e w' => e = .returned (.agg #[.int .u64 l0, .int .u64 l1]) ∧ Below W.heap.size W w') (w : World) :
    Calls Try.prog 66 #[.int .i64 1, .int .i64 i, .agg #[.int .u64 d0, .int .u64 d1], .slice a len cap] w fun e w' => e = .returned (.tuple #[.agg #[.int .u64 l0, .int .u64 l1], .bool (decide ((len : Int) - 1 < 0))]) ∧ Below w.heap.size w w' := by
  have HS := Lib.hid hstr
  have HO := Lib.hid hof
  clear hstr hof
  go_enter Try.func66, Try.ntmps66
  go_wp2_with fail
  refine (HS.out _).mono ?_
  rintro e w1 ⟨rfl, hb1⟩
  go_wp2_with fail
  refine (HO.out _).mono ?_
  rintro e w2 ⟨rfl, hb2⟩
  have k := ((Box5.first w d0 d1).on hb1).on hb2
  obtain ⟨q0, q1, q2, q3⟩ := k.res
  go_wp2
  refine bodyPost_ret (v := .tuple #[.agg #[.int .u64 l0, .int .u64 l1], .bool (decide ((len : Int) - 1 < 0))]) ?_ rfl ⟨rfl, ?_⟩
  · obtain ⟨x1, x2, _, _⟩ := (k.res.set0 l0).set1 l1
    simp [results, Try.results66, go_sem, x1, x2]
  · exact (k.below.setCell (p := ⟨w.heap.size + 1, 0, none⟩) (by simp) _).setCell (p := ⟨w.heap.size + 1, 1, none⟩) (by simp) _
set_option maxHeartbeats 1000000 in
set_option maxRecDepth 100000 in
theorem result_none (n i cap : Nat) (a : Option Addr) (d0 d1 : Int) (hn : 2 ≤ n) (w : World) :
    Calls Try.prog 66 #[.int .i64 n, .int .i64 i, .agg #[.int .u64 d0, .int .u64 d1], .slice a 0 cap] w fun e w' => e = .returned (.tuple #[.agg #[.int .u64 0, .int .u64 0], .bool false]) ∧ Below w.heap.size w w' := by
  have t1 : ((n : Int) == 1) = false := by simp; omega
  go_enter Try.func66, Try.ntmps66
  go_wp2
  refine bodyPost_ret (v := .tuple #[.agg #[.int .u64 0, .int .u64 0], .bool false]) ?_ rfl ⟨rfl, ?_⟩
  · simp [results, Try.results66, go_sem]
  · exact bla (bla (Below.refl _ _) _) _
theorem refOf_leaf (d : Dig) (W : World) : Calls Try.prog 29 #[.string (ByteArray.mk #[0] ++ byS d.1 d.2)] W fun e w' => e = .returned (.agg #[.int .u64 (leafD d).1, .int .u64 (leafD d).2]) ∧ Below W.heap.size W w' := by
  refine (refOf_any _ W (leafS_size d.1 d.2)).mono ?_
  rintro e w' ⟨rfl, hB⟩
  exact ⟨by rw [ofD_v]; rfl, hB⟩

/-- The reference's result returns the root that results. -/
theorem result_any (d : Dig) : ∀ (rp : List Dig) (n i : Nat) (w : World) (v : Value), 1 ≤ n → n ≤ 1099511627776 → i < n → IsDigs w v rp.reverse →
    Calls Try.prog 66 #[.int .i64 n, .int .i64 i, d.v, v] w fun e w' => e = .returned (.tuple #[(rootM n i d rp).1.v, .bool (rootM n i d rp).2]) ∧ Below w.heap.size w w'
  | [], n, i, w, v, h1, h2, h3, hv => by
    obtain ⟨a, cap, rfl, _⟩ := hv
    by_cases hn : n = 1
    · subst hn
      exact result_one i 0 cap a d.1 d.2 (leafD d).1 (leafD d).2 _ (by decide) (fun W => refLeaf_any d.1 d.2 W) (fun W => refOf_leaf d W) w
    · have e : rootM n i d [] = ((0, 0), false) := by unfold rootM; rw [if_neg hn]
      rw [e]
      exact result_none n i cap a d.1 d.2 (by omega) w
  | p :: rp, n, i, w, v, h1, h2, h3, hv => by
    rw [List.reverse_cons] at hv
    obtain ⟨b, off, cap, rfl, hc1, hc2, hb, e0, e1, hrest⟩ := hv.last
    by_cases hn : n = 1
    · subst hn
      have e : rootM 1 i d (p :: rp) = (leafD d, false) := by unfold rootM; rw [if_pos rfl]
      rw [e]
      refine (result_one i (rp.reverse.length + 1) cap _ d.1 d.2 (leafD d).1 (leafD d).2 _ (by unfold maxLen at hc2; omega) (fun W => refLeaf_any d.1 d.2 W) (fun W => refOf_leaf d W) w).mono ?_
      rintro e w' ⟨rfl, hB⟩
      refine ⟨?_, hB⟩
      have : decide ((((rp.reverse.length + 1 : Nat) : Int)) - 1 < 0) = false := by simp
      rw [this]; rfl
    · obtain ⟨_, _, _, _, hk, _⟩ := leftN_spec n (by omega) (by omega)
      have hpos : 1 ≤ leftN n := Nat.pow_pos (by decide)
      by_cases hi : i < leftN n
      · have e : rootM n i d (p :: rp) = (pairD (rootM (leftN n) i d rp).1 p, (rootM (leftN n) i d rp).2) := by rw [rootM, if_neg hn, if_pos hi]
        rw [e]
        exact result_less n i _ d.1 d.2 p.1 p.2 (rootM (leftN n) i d rp).1.1 (rootM (leftN n) i d rp).1.2 (pairD (rootM (leftN n) i d rp).1 p).1 (pairD (rootM (leftN n) i d rp).1 p).2 _ (by omega) h2 hi b off cap w hc1 hc2 hb e0 e1
          (fun W hW => result_any d rp (leftN n) i W _ hpos (by omega) hi (hrest.below hW)) (fun W => refPairD_any _ p W)
      · have e : rootM n i d (p :: rp) = (pairD p (rootM (n - leftN n) (i - leftN n) d rp).1, (rootM (n - leftN n) (i - leftN n) d rp).2) := by rw [rootM, if_neg hn, if_neg hi]
        rw [e]
        refine result_more n i _ d.1 d.2 p.1 p.2 (rootM (n - leftN n) (i - leftN n) d rp).1.1 (rootM (n - leftN n) (i - leftN n) d rp).1.2 (pairD p (rootM (n - leftN n) (i - leftN n) d rp).1).1 (pairD p (rootM (n - leftN n) (i - leftN n) d rp).1).2 _ (by omega) h2 (by omega) h3 hk b off cap w hc1 hc2 hb e0 e1
          (fun W hW => ?_) (fun W => refPairD_any p _ W)
        have := result_any d rp (n - leftN n) (i - leftN n) W _ (by omega) (by omega) (by omega) (hrest.below hW)
        rw [Int.natCast_sub (by omega), Int.natCast_sub (by omega)] at this
        exact this
end Go.Proofs.Ytfheflihofafdaa.Tr

/- Verify, of program and reference, at this translation. -/
namespace Go.Proofs.Ytfheflihofafdaa.Tr
open Go.RowKit
attribute [local go_sem] eq_arr

set_option maxHeartbeats 1000000 in
set_option maxRecDepth 100000 in
theorem bad26 (n i x0 x1 d0 d1 : Int) (a : Option Addr) (len cap : Nat) (h : n < 1 ∨ 1099511627776 < n ∨ i < 0 ∨ n ≤ i) (w : World) :
    Calls Try.prog 42 #[.agg #[.int .u64 x0, .int .u64 x1], .int .i64 n, .int .i64 i, .agg #[.int .u64 d0, .int .u64 d1], .slice a len cap] w fun e w' => e = .returned (.bool false) ∧ Below w.heap.size w w' := by
  by_cases h1 : n < 1
  · clear h
    go_enter Try.func42, Try.ntmps42
    go_wp2
    go_ret
    exact ⟨rfl, bla (bla (Below.refl _ _) _) _⟩
  · by_cases h2 : 1099511627776 < n
    · clear h
      go_enter Try.func42, Try.ntmps42
      go_wp2
      go_ret
      exact ⟨rfl, bla (bla (Below.refl _ _) _) _⟩
    · by_cases h3 : i < 0
      · clear h
        go_enter Try.func42, Try.ntmps42
        go_wp2
        go_ret
        exact ⟨rfl, bla (bla (Below.refl _ _) _) _⟩
      · have h4 : n ≤ i := by omega
        clear h
        go_enter Try.func42, Try.ntmps42
        go_wp2
        go_ret
        exact ⟨rfl, bla (bla (Below.refl _ _) _) _⟩
set_option maxHeartbeats 1000000 in
set_option maxRecDepth 100000 in
theorem good26 (n i x0 x1 d0 d1 r0 r1 : Int) (ok t : Bool) (a : Option Addr) (len cap : Nat) (h1 : 1 ≤ n) (h2 : n ≤ 1099511627776) (h3 : 0 ≤ i) (h4 : i < n) (w : World) (ht : (r0 == x0 && r1 == x1) = t)
    (hrec : ∀ W, Below w.heap.size w W → Calls Try.prog 62 #[.int .i64 n, .int .i64 i, .agg #[.int .u64 d0, .int .u64 d1], .slice a len cap] W fun e w' => e = .returned (.tuple #[.agg #[.int .u64 r0, .int .u64 r1], .bool ok]) ∧ Below W.heap.size W w') :
    Calls Try.prog 42 #[.agg #[.int .u64 x0, .int .u64 x1], .int .i64 n, .int .i64 i, .agg #[.int .u64 d0, .int .u64 d1], .slice a len cap] w fun e w' => e = .returned (.bool (ok && t)) ∧ Below w.heap.size w w' := by
  have HR := Lib.hid hrec
  clear hrec
  have u1 : ¬ n < 1 := by omega
  have u2 : ¬ 1099511627776 < n := by omega
  have u3 : ¬ i < 0 := by omega
  have u4 : ¬ n ≤ i := by omega
  cases ok
  · go_enter Try.func42, Try.ntmps42
    go_wp2_with fail
    refine (HR.out _ (bla (bla (Below.refl _ _) _) _)).mono ?_
    rintro e w1 ⟨rfl, hb1⟩
    go_wp2
    go_ret
    exact ⟨rfl, bla (bl (bla (bla (Below.refl _ _) _) _) hb1) _⟩
  · cases t
    all_goals
      go_enter Try.func42, Try.ntmps42
      go_wp2_with fail
      refine (HR.out _ (bla (bla (Below.refl _ _) _) _)).mono ?_
      rintro e w1 ⟨rfl, hb1⟩
      have q := ((Two.fresh w x0 x1 40).alloc (by simp) (.cells #[.int .u64 d0, .int .u64 d1] 40)).below hb1 (by simp; omega)
      have hz : w.heap.size < w1.heap.size := by have := hb1.size; simp at this; omega
      obtain ⟨q0, q1, q2, q3⟩ := q
      go_wp2
      go_ret
      exact ⟨rfl, bla (bl (bla (bla (Below.refl _ _) _) _) hb1) _⟩

set_option maxHeartbeats 1000000 in
set_option maxRecDepth 100000 in
theorem bad27 (n i x0 x1 d0 d1 : Int) (a : Option Addr) (len cap : Nat) (h : n < 1 ∨ 1099511627776 < n ∨ i < 0 ∨ n ≤ i) (w : World) :
    Calls Try.prog 44 #[.agg #[.int .u64 x0, .int .u64 x1], .int .i64 n, .int .i64 i, .agg #[.int .u64 d0, .int .u64 d1], .slice a len cap] w fun e w' => e = .returned (.bool false) ∧ Below w.heap.size w w' := by
  by_cases h1 : n < 1
  · clear h
    go_enter Try.func44, Try.ntmps44
    go_wp2
    go_ret
    exact ⟨rfl, bla (bla (Below.refl _ _) _) _⟩
  · by_cases h2 : 1099511627776 < n
    · clear h
      go_enter Try.func44, Try.ntmps44
      go_wp2
      go_ret
      exact ⟨rfl, bla (bla (Below.refl _ _) _) _⟩
    · by_cases h3 : i < 0
      · clear h
        go_enter Try.func44, Try.ntmps44
        go_wp2
        go_ret
        exact ⟨rfl, bla (bla (Below.refl _ _) _) _⟩
      · have h4 : n ≤ i := by omega
        clear h
        go_enter Try.func44, Try.ntmps44
        go_wp2
        go_ret
        exact ⟨rfl, bla (bla (Below.refl _ _) _) _⟩
set_option maxHeartbeats 1000000 in
set_option maxRecDepth 100000 in
theorem good27 (n i x0 x1 d0 d1 r0 r1 : Int) (ok t : Bool) (a : Option Addr) (len cap : Nat) (h1 : 1 ≤ n) (h2 : n ≤ 1099511627776) (h3 : 0 ≤ i) (h4 : i < n) (w : World) (ht : (r0 == x0 && r1 == x1) = t)
    (hrec : ∀ W, Below w.heap.size w W → Calls Try.prog 66 #[.int .i64 n, .int .i64 i, .agg #[.int .u64 d0, .int .u64 d1], .slice a len cap] W fun e w' => e = .returned (.tuple #[.agg #[.int .u64 r0, .int .u64 r1], .bool ok]) ∧ Below W.heap.size W w') :
    Calls Try.prog 44 #[.agg #[.int .u64 x0, .int .u64 x1], .int .i64 n, .int .i64 i, .agg #[.int .u64 d0, .int .u64 d1], .slice a len cap] w fun e w' => e = .returned (.bool (ok && t)) ∧ Below w.heap.size w w' := by
  have HR := Lib.hid hrec
  clear hrec
  have u1 : ¬ n < 1 := by omega
  have u2 : ¬ 1099511627776 < n := by omega
  have u3 : ¬ i < 0 := by omega
  have u4 : ¬ n ≤ i := by omega
  cases ok
  · go_enter Try.func44, Try.ntmps44
    go_wp2_with fail
    refine (HR.out _ (bla (bla (Below.refl _ _) _) _)).mono ?_
    rintro e w1 ⟨rfl, hb1⟩
    go_wp2
    go_ret
    exact ⟨rfl, bla (bl (bla (bla (Below.refl _ _) _) _) hb1) _⟩
  · cases t
    all_goals
      go_enter Try.func44, Try.ntmps44
      go_wp2_with fail
      refine (HR.out _ (bla (bla (Below.refl _ _) _) _)).mono ?_
      rintro e w1 ⟨rfl, hb1⟩
      have q := ((Two.fresh w x0 x1 40).alloc (by simp) (.cells #[.int .u64 d0, .int .u64 d1] 40)).below hb1 (by simp; omega)
      have hz : w.heap.size < w1.heap.size := by have := hb1.size; simp at this; omega
      obtain ⟨q0, q1, q2, q3⟩ := q
      go_wp2
      go_ret
      exact ⟨rfl, bla (bl (bla (bla (Below.refl _ _) _) _) hb1) _⟩
end Go.Proofs.Ytfheflihofafdaa.Tr

/- The walk of the law DigestVerify, at this translation. -/
namespace Go.Proofs.Ytfheflihofafdaa.Tr
open Go.RowKit
attribute [local go_sem] eq_arr

/-- Whether a proof shows that d is the element i of n. -/
def verM (x0 x1 n i : Int) (d : Dig) (L : List Dig) : Bool :=
  if n < 1 ∨ 1099511627776 < n ∨ i < 0 ∨ n ≤ i then false
  else (rootM n.toNat i.toNat d L.reverse).2 && ((((rootM n.toNat i.toNat d L.reverse).1.1 : Int) == x0) && (((rootM n.toNat i.toNat d L.reverse).1.2 : Int) == x1))
theorem verify_any (x0 x1 n i : Int) (d : Dig) (L : List Dig) (v : Value) (w : World) (hv : IsDigs w v L) :
    Calls Try.prog 42 #[.agg #[.int .u64 x0, .int .u64 x1], .int .i64 n, .int .i64 i, d.v, v] w fun e w' => e = .returned (.bool (verM x0 x1 n i d L)) ∧ Below w.heap.size w w' := by
  have hv' := hv
  obtain ⟨a, cap, rfl, _⟩ := hv'
  by_cases h : n < 1 ∨ 1099511627776 < n ∨ i < 0 ∨ n ≤ i
  · rw [show verM x0 x1 n i d L = false from by unfold verM; rw [if_pos h]]
    exact bad26 n i x0 x1 d.1 d.2 a _ cap h w
  · obtain ⟨m, rfl⟩ := Int.eq_ofNat_of_zero_le (show 0 ≤ n by omega)
    obtain ⟨j, rfl⟩ := Int.eq_ofNat_of_zero_le (show 0 ≤ i by omega)
    rw [show verM x0 x1 m j d L = ((rootM m j d L.reverse).2 && ((((rootM m j d L.reverse).1.1 : Int) == x0) && (((rootM m j d L.reverse).1.2 : Int) == x1))) from by unfold verM; rw [if_neg h]; simp only [Int.toNat_natCast]]
    exact good26 m j x0 x1 d.1 d.2 _ _ _ _ a _ cap (by omega) (by omega) (by omega) (by omega) w rfl (fun W hW => rootOf_any d L.reverse m j W _ (by omega) (by omega) (by omega) (by rw [List.reverse_reverse]; exact hv.below hW))
theorem refVerify_any (x0 x1 n i : Int) (d : Dig) (L : List Dig) (v : Value) (w : World) (hv : IsDigs w v L) :
    Calls Try.prog 44 #[.agg #[.int .u64 x0, .int .u64 x1], .int .i64 n, .int .i64 i, d.v, v] w fun e w' => e = .returned (.bool (verM x0 x1 n i d L)) ∧ Below w.heap.size w w' := by
  have hv' := hv
  obtain ⟨a, cap, rfl, _⟩ := hv'
  by_cases h : n < 1 ∨ 1099511627776 < n ∨ i < 0 ∨ n ≤ i
  · rw [show verM x0 x1 n i d L = false from by unfold verM; rw [if_pos h]]
    exact bad27 n i x0 x1 d.1 d.2 a _ cap h w
  · obtain ⟨m, rfl⟩ := Int.eq_ofNat_of_zero_le (show 0 ≤ n by omega)
    obtain ⟨j, rfl⟩ := Int.eq_ofNat_of_zero_le (show 0 ≤ i by omega)
    rw [show verM x0 x1 m j d L = ((rootM m j d L.reverse).2 && ((((rootM m j d L.reverse).1.1 : Int) == x0) && (((rootM m j d L.reverse).1.2 : Int) == x1))) from by unfold verM; rw [if_neg h]; simp only [Int.toNat_natCast]]
    exact good27 m j x0 x1 d.1 d.2 _ _ _ _ a _ cap (by omega) (by omega) (by omega) (by omega) w rfl (fun W hW => result_any d L.reverse m j W _ (by omega) (by omega) (by omega) (by rw [List.reverse_reverse]; exact hv.below hW))

end Go.Proofs.Ytfheflihofafdaa.Tr

/- Root, of program and reference, at this translation. -/
namespace Go.Proofs.Ytfheflihofafdaa.Tr
open Go.RowKit
attribute [local go_sem] eq_arr

/-- The result's cells, in a later world. -/
structure Res1 (w : World) (W : World) : Prop where
  res : Two W w.heap.size 0 0
  size : w.heap.size < W.heap.size
  below : Below w.heap.size w W
theorem Res1.on {w W W' : World} (h : Res1 w W) (hB : Below W.heap.size W W') : Res1 w W' := ⟨h.res.below hB h.size, Nat.lt_of_lt_of_le h.size hB.size, bl h.below hB⟩
theorem Res1.first (w : World) : Res1 w (w.alloc (.cells #[.int .u64 0, .int .u64 0] 40)) := ⟨Two.fresh w 0 0 40, by simp, bla (Below.refl _ _) _⟩
theorem Res1.drew {w W : World} (h : Res1 w W) : Res1 w W.drew := ⟨h.res, h.size, h.below.drew⟩
theorem Res1.put {w W : World} (h : Res1 w W) (u v : Value) : Below w.heap.size w ((W.setCell ⟨w.heap.size, 0, none⟩ u).setCell ⟨w.heap.size, 1, none⟩ v) :=
  (h.below.setCell (p := ⟨w.heap.size, 0, none⟩) (Nat.le_refl _) _).setCell (p := ⟨w.heap.size, 1, none⟩) (Nat.le_refl _) _

set_option maxHeartbeats 1000000 in
set_option maxRecDepth 100000 in
theorem root_two (len k cap b off : Nat) (x0 x1 y0 y1 s0 s1 : Int) (hk : leftN len = k) (hk0 : 1 ≤ k) (hk1 : k < len) (hl : 2 ≤ len) (hl2 : len ≤ 1099511627776) (hc1 : len ≤ cap) (w : World)
    (h1 : ∀ W, Below w.heap.size w W → Calls Try.prog 40 #[.slice (some ⟨b, off, none⟩) k cap] W fun e w' => e = .returned (.agg #[.int .u64 x0, .int .u64 x1]) ∧ Below W.heap.size W w')
    (h2 : ∀ W, Below w.heap.size w W → Calls Try.prog 40 #[.slice (some ⟨b, off + k * 2, none⟩) (len - k) (cap - k)] W fun e w' => e = .returned (.agg #[.int .u64 y0, .int .u64 y1]) ∧ Below W.heap.size W w')
    (hpair : ∀ W, Calls Try.prog 60 #[.agg #[.int .u64 x0, .int .u64 x1], .agg #[.int .u64 y0, .int .u64 y1]] W fun e w' => e = .returned (.agg #[.int .u64 s0, .int .u64 s1]) ∧ Below W.heap.size W w') :
    Calls Try.prog 40 #[.slice (some ⟨b, off, none⟩) len cap] w fun e w' => e = .returned (.agg #[.int .u64 s0, .int .u64 s1]) ∧ Below w.heap.size w w' := by
  have H1 := Lib.hid h1
  have H2 := Lib.hid h2
  have HP := Lib.hid hpair
  have HK := Lib.hid hk
  clear h1 h2 hpair hk
  have t0 : ((len : Int) == 0) = false := by simp; omega
  have t1 : ((len : Int) == 1) = false := by simp; omega
  have t2 : (0 : Int) ≤ (k : Int) := by omega
  have t3 : (k : Int) ≤ (len : Int) := by omega
  have t4 : (k : Int) ≤ (cap : Int) := by omega
  have t5 : (len : Int) ≤ (cap : Int) := by omega
  go_enter Try.func40, Try.ntmps40
  go_wp2_with (go_at_call 59; refine (half_any len hl hl2 _).mono ?_; rintro e w' ⟨rfl, rfl⟩; rw [HK.out])
  have start := (Res1.first w).drew
  go_region_held3 (fun W => Below w.heap.size w W) (first | exact hh.below | exact start.below | exact hh.put _ _)
    (first | (go_at_call 40; with_reducible refine (H1.out _ (by first | exact hh.below | exact start.below)).mono ?_; rintro e w' ⟨rfl, hb⟩; have hh := Res1.on (by first | exact hh | exact start) hb; clear hb) | (go_at_call 40; with_reducible refine (H2.out _ (by first | exact hh.below | exact start.below)).mono ?_; rintro e w' ⟨rfl, hb⟩; have hh := Res1.on (by first | exact hh | exact start) hb; clear hb) | (go_at_call 60; refine (HP.out _).mono ?_; rintro e w' ⟨rfl, hb⟩; have hh := Res1.on hh hb; obtain ⟨q0, q1, q2, q3⟩ := hh.res; clear hb))
  go_wp2
  refine bodyPost_ret (v := .agg #[.int .u64 s0, .int .u64 s1]) ?_ rfl ⟨rfl, hh.put _ _⟩
  obtain ⟨x0, x1, _, _⟩ := (hh.res.set0 s0).set1 s1
  simp [results, Try.results40, go_sem, x0, x1]
set_option maxHeartbeats 1000000 in
set_option maxRecDepth 100000 in
theorem refRoot_two (len k cap b off : Nat) (x0 x1 y0 y1 s0 s1 : Int) (hk : leftN len = k) (hk0 : 1 ≤ k) (hk1 : k < len) (hl : 2 ≤ len) (hl2 : len ≤ 1099511627776) (hc1 : len ≤ cap) (w : World)
    (h1 : ∀ W, Below w.heap.size w W → Calls Try.prog 41 #[.slice (some ⟨b, off, none⟩) k cap] W fun e w' => e = .returned (.agg #[.int .u64 x0, .int .u64 x1]) ∧ Below W.heap.size W w')
    (h2 : ∀ W, Below w.heap.size w W → Calls Try.prog 41 #[.slice (some ⟨b, off + k * 2, none⟩) (len - k) (cap - k)] W fun e w' => e = .returned (.agg #[.int .u64 y0, .int .u64 y1]) ∧ Below W.heap.size W w')
    (hpair : ∀ W, Calls Try.prog 61 #[.agg #[.int .u64 x0, .int .u64 x1], .agg #[.int .u64 y0, .int .u64 y1]] W fun e w' => e = .returned (.agg #[.int .u64 s0, .int .u64 s1]) ∧ Below W.heap.size W w') :
    Calls Try.prog 41 #[.slice (some ⟨b, off, none⟩) len cap] w fun e w' => e = .returned (.agg #[.int .u64 s0, .int .u64 s1]) ∧ Below w.heap.size w w' := by
  have H1 := Lib.hid h1
  have H2 := Lib.hid h2
  have HP := Lib.hid hpair
  have HK := Lib.hid hk
  clear h1 h2 hpair hk
  have t0 : ((len : Int) == 0) = false := by simp; omega
  have t1 : ((len : Int) == 1) = false := by simp; omega
  have t2 : (0 : Int) ≤ (k : Int) := by omega
  have t3 : (k : Int) ≤ (len : Int) := by omega
  have t4 : (k : Int) ≤ (cap : Int) := by omega
  have t5 : (len : Int) ≤ (cap : Int) := by omega
  go_enter Try.func41, Try.ntmps41
  go_wp2_with (go_at_call 54; refine (left_any len hl hl2 _).mono ?_; rintro e w' ⟨rfl, rfl⟩; rw [HK.out])
  have start := (Res1.first w).drew
  go_region_held3 (fun W => Below w.heap.size w W) (first | exact hh.below | exact start.below | exact hh.put _ _)
    (first | (go_at_call 41; with_reducible refine (H1.out _ (by first | exact hh.below | exact start.below)).mono ?_; rintro e w' ⟨rfl, hb⟩; have hh := Res1.on (by first | exact hh | exact start) hb; clear hb) | (go_at_call 41; with_reducible refine (H2.out _ (by first | exact hh.below | exact start.below)).mono ?_; rintro e w' ⟨rfl, hb⟩; have hh := Res1.on (by first | exact hh | exact start) hb; clear hb) | (go_at_call 61; refine (HP.out _).mono ?_; rintro e w' ⟨rfl, hb⟩; have hh := Res1.on hh hb; obtain ⟨q0, q1, q2, q3⟩ := hh.res; clear hb))
  go_wp2
  refine bodyPost_ret (v := .agg #[.int .u64 s0, .int .u64 s1]) ?_ rfl ⟨rfl, hh.put _ _⟩
  obtain ⟨x0, x1, _, _⟩ := (hh.res.set0 s0).set1 s1
  simp [results, Try.results41, go_sem, x0, x1]
set_option maxHeartbeats 400000 in
set_option maxRecDepth 100000 in
theorem root_zero (cap : Nat) (a : Option Addr) (s0 s1 : Int) (w : World) (hof : ∀ W, Calls Try.prog 57 #[.string ⟨#[]⟩] W fun e w' => e = .returned (.agg #[.int .u64 s0, .int .u64 s1]) ∧ Below W.heap.size W w') :
    Calls Try.prog 40 #[.slice a 0 cap] w fun e w' => e = .returned (.agg #[.int .u64 s0, .int .u64 s1]) ∧ Below w.heap.size w w' := by
  have HO := Lib.hid hof
  clear hof
  go_enter Try.func40, Try.ntmps40
  go_wp2_with fail
  refine (HO.out _).mono ?_
  rintro e w' ⟨rfl, hb⟩
  have hh := (Res1.first w).on hb
  obtain ⟨q0, q1, q2, q3⟩ := hh.res
  go_wp2
  refine bodyPost_ret (v := .agg #[.int .u64 s0, .int .u64 s1]) ?_ rfl ⟨rfl, hh.put _ _⟩
  obtain ⟨x0, x1, _, _⟩ := (hh.res.set0 s0).set1 s1
  simp [results, Try.results40, go_sem, x0, x1]
set_option maxHeartbeats 400000 in
set_option maxRecDepth 100000 in
theorem root_one (cap b off : Nat) (d0 d1 s0 s1 : Int) (w : World) (e0 : w.cell? ⟨b, off, none⟩ = some (.int .u64 d0)) (e1 : w.cell? ⟨b, off + 1, none⟩ = some (.int .u64 d1)) (hb : b < w.heap.size)
    (hleaf : ∀ W, Calls Try.prog 58 #[.agg #[.int .u64 d0, .int .u64 d1]] W fun e w' => e = .returned (.agg #[.int .u64 s0, .int .u64 s1]) ∧ Below W.heap.size W w') :
    Calls Try.prog 40 #[.slice (some ⟨b, off, none⟩) 1 cap] w fun e w' => e = .returned (.agg #[.int .u64 s0, .int .u64 s1]) ∧ Below w.heap.size w w' := by
  have HO := Lib.hid hleaf
  clear hleaf
  go_enter Try.func40, Try.ntmps40
  go_wp2_with fail
  refine (HO.out _).mono ?_
  rintro e w' ⟨rfl, hb⟩
  have hh := (Res1.first w).on hb
  obtain ⟨q0, q1, q2, q3⟩ := hh.res
  go_wp2
  refine bodyPost_ret (v := .agg #[.int .u64 s0, .int .u64 s1]) ?_ rfl ⟨rfl, hh.put _ _⟩
  obtain ⟨x0, x1, _, _⟩ := (hh.res.set0 s0).set1 s1
  simp [results, Try.results40, go_sem, x0, x1]
set_option maxHeartbeats 400000 in
set_option maxRecDepth 100000 in
theorem refRoot_zero (cap : Nat) (a : Option Addr) (s0 s1 : Int) (w : World) (hof : ∀ W, Calls Try.prog 29 #[.string ⟨#[]⟩] W fun e w' => e = .returned (.agg #[.int .u64 s0, .int .u64 s1]) ∧ Below W.heap.size W w') :
    Calls Try.prog 41 #[.slice a 0 cap] w fun e w' => e = .returned (.agg #[.int .u64 s0, .int .u64 s1]) ∧ Below w.heap.size w w' := by
  have HO := Lib.hid hof
  clear hof
  go_enter Try.func41, Try.ntmps41
  go_wp2_with fail
  refine (HO.out _).mono ?_
  rintro e w' ⟨rfl, hb⟩
  have hh := (Res1.first w).on hb
  obtain ⟨q0, q1, q2, q3⟩ := hh.res
  go_wp2
  refine bodyPost_ret (v := .agg #[.int .u64 s0, .int .u64 s1]) ?_ rfl ⟨rfl, hh.put _ _⟩
  obtain ⟨x0, x1, _, _⟩ := (hh.res.set0 s0).set1 s1
  simp [results, Try.results41, go_sem, x0, x1]
set_option maxHeartbeats 400000 in
set_option maxRecDepth 100000 in
theorem refRoot_one (cap b off : Nat) (d0 d1 s0 s1 : Int) (S : ByteArray) (w : World) (e0 : w.cell? ⟨b, off, none⟩ = some (.int .u64 d0)) (e1 : w.cell? ⟨b, off + 1, none⟩ = some (.int .u64 d1)) (hb : b < w.heap.size)
    (hstr : ∀ W, Calls Try.prog 48 #[.agg #[.int .u64 d0, .int .u64 d1]] W fun e w' => e = .returned (.string S) ∧ Below W.heap.size W w')
    (hof : ∀ W, Calls Try.prog 29 #[.string S] W fun e w' => e = .returned (.agg #[.int .u64 s0, .int .u64 s1]) ∧ Below W.heap.size W w') :
    Calls Try.prog 41 #[.slice (some ⟨b, off, none⟩) 1 cap] w fun e w' => e = .returned (.agg #[.int .u64 s0, .int .u64 s1]) ∧ Below w.heap.size w w' := by
  have HS := Lib.hid hstr
  have HO := Lib.hid hof
  clear hstr hof
  go_enter Try.func41, Try.ntmps41
  go_wp2_with fail
  refine (HS.out _).mono ?_
  rintro e w1 ⟨rfl, hb1⟩
  go_wp2_with fail
  refine (HO.out _).mono ?_
  rintro e w' ⟨rfl, hb⟩
  have hh := ((Res1.first w).on hb1).on hb
  obtain ⟨q0, q1, q2, q3⟩ := hh.res
  go_wp2
  refine bodyPost_ret (v := .agg #[.int .u64 s0, .int .u64 s1]) ?_ rfl ⟨rfl, hh.put _ _⟩
  obtain ⟨x0, x1, _, _⟩ := (hh.res.set0 s0).set1 s1
  simp [results, Try.results41, go_sem, x0, x1]

theorem IsDigs.parts {w : World} {v : Value} {L : List Dig} (h : IsDigs w v L) (hL : L ≠ []) : ∃ b off cap, v = .slice (some ⟨b, off, none⟩) L.length cap ∧ L.length ≤ cap ∧ cap ≤ maxLen ∧ b < w.heap.size ∧
    (∀ k, k ≤ L.length → IsDigs w (.slice (some ⟨b, off, none⟩) k cap) (L.take k)) ∧ (∀ k, k ≤ L.length → IsDigs w (.slice (some ⟨b, off + k * 2, none⟩) (L.length - k) (cap - k)) (L.drop k)) ∧
    (∀ (j : Nat) (d : Dig), L[j]? = some d → w.cell? ⟨b, off + j * 2, none⟩ = some (.int .u64 d.1) ∧ w.cell? ⟨b, off + j * 2 + 1, none⟩ = some (.int .u64 d.2)) := by
  obtain ⟨a, cap, e, h1, h2, h3⟩ := h
  rcases h3 with h3 | ⟨b, off, e2, hb, hc⟩
  · exact absurd h3 hL
  · refine ⟨b, off, cap, by rw [e, e2], h1, h2, hb, fun k hk => ?_, fun k hk => ?_, hc⟩
    · refine ⟨some ⟨b, off, none⟩, cap, by rw [List.length_take, Nat.min_eq_left hk], by rw [List.length_take, Nat.min_eq_left hk]; omega, h2, .inr ⟨b, off, rfl, hb, fun j d hj => hc j d ?_⟩⟩
      rw [List.getElem?_take] at hj
      split at hj
      · exact hj
      · cases hj
    · refine ⟨some ⟨b, off + k * 2, none⟩, cap - k, by rw [List.length_drop], by rw [List.length_drop]; omega, by omega, .inr ⟨b, off + k * 2, rfl, hb, fun j d hj => ?_⟩⟩
      rw [List.getElem?_drop] at hj
      have := hc (k + j) d hj
      rw [show off + (k + j) * 2 = off + k * 2 + j * 2 from by omega] at this
      exact this

/-- The root of a list of digests. -/
def rootT : Nat → List Dig → Dig
  | 0, _ => ofD []
  | f + 1, l => if l.length = 0 then ofD [] else if l.length = 1 then leafD (l.headD (0, 0)) else pairD (rootT f (l.take (leftN l.length))) (rootT f (l.drop (leftN l.length)))
theorem of_none (W : World) : Calls Try.prog 57 #[.string ⟨#[]⟩] W fun e w' => e = .returned (.agg #[.int .u64 (ofD []).1, .int .u64 (ofD []).2]) ∧ Below W.heap.size W w' := by
  refine (of_any ⟨#[]⟩ W (Nat.zero_le _)).mono ?_
  rintro e w' ⟨rfl, hB⟩
  exact ⟨by rw [ofD_v]; rfl, hB⟩
theorem refOf_none (W : World) : Calls Try.prog 29 #[.string ⟨#[]⟩] W fun e w' => e = .returned (.agg #[.int .u64 (ofD []).1, .int .u64 (ofD []).2]) ∧ Below W.heap.size W w' := by
  refine (refOf_any ⟨#[]⟩ W (Nat.zero_le _)).mono ?_
  rintro e w' ⟨rfl, hB⟩
  exact ⟨by rw [ofD_v]; rfl, hB⟩
theorem root_any : ∀ (f : Nat) (L : List Dig) (w : World) (v : Value), L.length < f → L.length ≤ 1099511627776 → IsDigs w v L →
    Calls Try.prog 40 #[v] w fun e w' => e = .returned (rootT f L).v ∧ Below w.heap.size w w'
  | 0, _, _, _, h, _, _ => absurd h (Nat.not_lt_zero _)
  | f + 1, L, w, v, hf, h40, hv => by
    by_cases h0 : L.length = 0
    · obtain rfl : L = [] := List.length_eq_zero_iff.1 h0
      obtain ⟨a, cap, rfl, _⟩ := hv
      exact root_zero cap a _ _ w of_none
    · obtain ⟨b, off, cap, rfl, h1, h2, hb, htake, hdrop, hc⟩ := hv.parts (by intro e; rw [e] at h0; exact h0 rfl)
      by_cases h3 : L.length = 1
      · obtain ⟨d, rfl⟩ := List.length_eq_one_iff.1 h3
        have hd := hc 0 d rfl
        simp only [Nat.zero_mul, Nat.add_zero] at hd
        have e : rootT (f + 1) [d] = leafD d := by simp [rootT]
        rw [e]
        exact root_one cap b off d.1 d.2 _ _ w hd.1 hd.2 hb (fun W => leafV_any d.1 d.2 W)
      · obtain ⟨_, _, _, _, hk, _⟩ := leftN_spec L.length (by omega) (by omega)
        have hpos : 1 ≤ leftN L.length := Nat.pow_pos (by decide)
        have e : rootT (f + 1) L = pairD (rootT f (L.take (leftN L.length))) (rootT f (L.drop (leftN L.length))) := by rw [rootT, if_neg h0, if_neg h3]
        rw [e]
        exact root_two L.length _ cap b off _ _ _ _ _ _ rfl hpos hk (by omega) h40 h1 w
          (fun W hW => root_any f (L.take (leftN L.length)) W _ (by rw [List.length_take]; omega) (by rw [List.length_take]; omega) ((htake _ (by omega)).below hW))
          (fun W hW => root_any f (L.drop (leftN L.length)) W _ (by rw [List.length_drop]; omega) (by rw [List.length_drop]; omega) ((hdrop _ (by omega)).below hW)) (fun W => pairD_any _ _ W)
theorem refRoot_any : ∀ (f : Nat) (L : List Dig) (w : World) (v : Value), L.length < f → L.length ≤ 1099511627776 → IsDigs w v L →
    Calls Try.prog 41 #[v] w fun e w' => e = .returned (rootT f L).v ∧ Below w.heap.size w w'
  | 0, _, _, _, h, _, _ => absurd h (Nat.not_lt_zero _)
  | f + 1, L, w, v, hf, h40, hv => by
    by_cases h0 : L.length = 0
    · obtain rfl : L = [] := List.length_eq_zero_iff.1 h0
      obtain ⟨a, cap, rfl, _⟩ := hv
      exact refRoot_zero cap a _ _ w refOf_none
    · obtain ⟨b, off, cap, rfl, h1, h2, hb, htake, hdrop, hc⟩ := hv.parts (by intro e; rw [e] at h0; exact h0 rfl)
      by_cases h3 : L.length = 1
      · obtain ⟨d, rfl⟩ := List.length_eq_one_iff.1 h3
        have hd := hc 0 d rfl
        simp only [Nat.zero_mul, Nat.add_zero] at hd
        have e : rootT (f + 1) [d] = leafD d := by simp [rootT]
        rw [e]
        exact refRoot_one cap b off d.1 d.2 _ _ _ w hd.1 hd.2 hb (fun W => refLeaf_any d.1 d.2 W) (fun W => refOf_leaf d W)
      · obtain ⟨_, _, _, _, hk, _⟩ := leftN_spec L.length (by omega) (by omega)
        have hpos : 1 ≤ leftN L.length := Nat.pow_pos (by decide)
        have e : rootT (f + 1) L = pairD (rootT f (L.take (leftN L.length))) (rootT f (L.drop (leftN L.length))) := by rw [rootT, if_neg h0, if_neg h3]
        rw [e]
        exact refRoot_two L.length _ cap b off _ _ _ _ _ _ rfl hpos hk (by omega) h40 h1 w
          (fun W hW => refRoot_any f (L.take (leftN L.length)) W _ (by rw [List.length_take]; omega) (by rw [List.length_take]; omega) ((htake _ (by omega)).below hW))
          (fun W hW => refRoot_any f (L.drop (leftN L.length)) W _ (by rw [List.length_drop]; omega) (by rw [List.length_drop]; omega) ((hdrop _ (by omega)).below hW)) (fun W => refPairD_any _ _ W)
end Go.Proofs.Ytfheflihofafdaa.Tr

/- digest.proof, at this translation: the proof for an element. -/
namespace Go.Proofs.Ytfheflihofafdaa.Tr
open Go.RowKit
attribute [local go_sem] eq_arr

theorem info24 : (Try.prog.info? 40).map (fun i => (i.zero, i.size, i.bytes)) = some (some (.agg #[.int .u64 0, .int .u64 0]), 2, 16) := by kernel_rfl
def digCells (L : List Dig) : List Value := L.flatMap fun d => [.int .u64 d.1, .int .u64 d.2]
theorem digCells_snoc (L : List Dig) (d : Dig) : digCells (L ++ [d]) = digCells L ++ [.int .u64 d.1, .int .u64 d.2] := by simp [digCells]
/-- A slice of digests that the call has made. -/
def OwnD (w : World) (L : List Dig) (e : Ending) (w' : World) : Prop := ∃ v, e = .returned v ∧ w'.ownsRow w.heap.size 40 2 v L.length (digCells L) ∧ Below w.heap.size w w'
theorem own_kept {W W' : World} {B : Nat} {v : Value} {n : Nat} {xs : List Value} (h : W.ownsRow B 40 2 v n xs) (hB : Below W.heap.size W W') : W'.ownsRow B 40 2 v n xs := by
  refine h.kept (row := none) ⟨hB.os, hB.tape, hB.output, hB.size, fun k hk _ => hB.block k hk⟩ ?_
  cases hv : v.ownBlock
  · exact .inl rfl
  · exact .inr (by simp)

set_option maxHeartbeats 2000000 in
set_option maxRecDepth 100000 in
theorem proof_less (len k cap b off m : Nat) (i y0 y1 : Int) (xs : List Value) (hk : leftN len = k) (hk1 : k < len) (hl : 2 ≤ len) (hl2 : len ≤ 1099511627776) (hm : m ≤ 1000) (hc1 : len ≤ cap) (hi2 : i < (k : Int)) (w : World)
    (h1 : ∀ W, Below w.heap.size w W → Calls Try.prog 53 #[.slice (some ⟨b, off, none⟩) k cap, .int .i64 i] W fun e w' => ∃ v, e = .returned v ∧ w'.ownsRow W.heap.size 40 2 v m xs ∧ Below W.heap.size W w')
    (h2 : ∀ W, Below w.heap.size w W → Calls Try.prog 40 #[.slice (some ⟨b, off + k * 2, none⟩) (len - k) (cap - k)] W fun e w' => e = .returned (.agg #[.int .u64 y0, .int .u64 y1]) ∧ Below W.heap.size W w') :
    Calls Try.prog 53 #[.slice (some ⟨b, off, none⟩) len cap, .int .i64 i] w fun e w' => ∃ v, e = .returned v ∧ w'.ownsRow w.heap.size 40 2 v (m + 1) (xs ++ [.int .u64 y0, .int .u64 y1]) ∧ Below w.heap.size w w' := by
  obtain ⟨i0, hi, hz0, hz1, hz2⟩ := info_parts info24
  have H1 := Lib.hid h1
  have H2 := Lib.hid h2
  have HK := Lib.hid hk
  clear h1 h2 hk
  have t1 : ((len : Int) == 1) = false := by simp; omega
  have t2 : (0 : Int) ≤ (k : Int) := by omega
  have t3 : (k : Int) ≤ (len : Int) := by omega
  have t4 : (k : Int) ≤ (cap : Int) := by omega
  have t5 : (len : Int) ≤ (cap : Int) := by omega
  go_enter Try.func53, Try.ntmps53
  go_wp2_with (go_at_call 59; refine (half_any len hl hl2 _).mono ?_; rintro e w' ⟨rfl, rfl⟩; rw [HK.out])
  have start : Below w.heap.size w w.drew := (Below.refl _ w).drew
  go_region_held3 (fun W => Below w.heap.size w W) (first | exact hh | exact start | exact bla hh _)
    (first | (go_at_call 53; with_reducible refine (H1.out _ start).mono ?_; rintro e w1 ⟨v, rfl, hown, hb⟩; have hh := bl start hb; have hown1 := hown.mono (base' := w.heap.size) (Nat.le_refl _); clear hb hown) | (go_at_call 40; with_reducible refine (H2.out _ hh).mono ?_; rintro e w2 ⟨rfl, hb⟩; have hown1 := own_kept hown1 hb; have hh := bl hh hb; clear hb) | (refine step_append_lies _ rfl (.tmp 19) (.tmp 24) 35 rfl w.heap.size 40 i0 (.agg #[.int .u64 0, .int .u64 0]) 2 16 Try.underlying35 hi hz0 hz1 hz2 rfl (by decide) _ _ _ rfl (hown1.alloc _) ⟨w2.heap.size, 0, none⟩ 1 1 [.int .u64 y0, .int .u64 y1] rfl rfl (World.news_of_block (heap_alloc_new w2 _)) (by intro u hu; simp at hu; rcases hu with rfl | rfl <;> rfl) (by decide) (by unfold maxLen; omega) (by omega) (by have := hh.size; simp; omega) _ rfl ?_; intro g cap' w3 hown3 hgrow hat hlt; have hh := (bla hh (.cells #[.int .u64 y0, .int .u64 y1] 40)).grown hgrow (by have := hh.size; simp; omega) (fun k hk => (hown1.lt k hk).1)))
  go_wp2
  go_ret
  exact ⟨_, rfl, hown3, hh⟩
set_option maxHeartbeats 2000000 in
set_option maxRecDepth 100000 in
theorem proof_more (len k cap b off m : Nat) (i y0 y1 : Int) (xs : List Value) (hk : leftN len = k) (hk1 : k < len) (hl : 2 ≤ len) (hl2 : len ≤ 1099511627776) (hm : m ≤ 1000) (hc1 : len ≤ cap) (hi2 : (k : Int) ≤ i) (hi3 : i < (len : Int)) (w : World)
    (h1 : ∀ W, Below w.heap.size w W → Calls Try.prog 53 #[.slice (some ⟨b, off + k * 2, none⟩) (len - k) (cap - k), .int .i64 (i - (k : Int))] W fun e w' => ∃ v, e = .returned v ∧ w'.ownsRow W.heap.size 40 2 v m xs ∧ Below W.heap.size W w')
    (h2 : ∀ W, Below w.heap.size w W → Calls Try.prog 40 #[.slice (some ⟨b, off, none⟩) k cap] W fun e w' => e = .returned (.agg #[.int .u64 y0, .int .u64 y1]) ∧ Below W.heap.size W w') :
    Calls Try.prog 53 #[.slice (some ⟨b, off, none⟩) len cap, .int .i64 i] w fun e w' => ∃ v, e = .returned v ∧ w'.ownsRow w.heap.size 40 2 v (m + 1) (xs ++ [.int .u64 y0, .int .u64 y1]) ∧ Below w.heap.size w w' := by
  obtain ⟨i0, hi, hz0, hz1, hz2⟩ := info_parts info24
  have H1 := Lib.hid h1
  have H2 := Lib.hid h2
  have HK := Lib.hid hk
  clear h1 h2 hk
  have t1 : ((len : Int) == 1) = false := by simp; omega
  have t2 : (0 : Int) ≤ (k : Int) := by omega
  have t3 : (k : Int) ≤ (len : Int) := by omega
  have t4 : (k : Int) ≤ (cap : Int) := by omega
  have w1 : IntKind.i64.wrap (i - (k : Int)) = i - (k : Int) := by rw [IntKind.wrap_i64]; omega
  have t6 : ¬ i < (k : Int) := by omega
  have tk : ¬ cap = k := by omega
  have t5 : (len : Int) ≤ (cap : Int) := by omega
  go_enter Try.func53, Try.ntmps53
  go_wp2_with (go_at_call 59; refine (half_any len hl hl2 _).mono ?_; rintro e w' ⟨rfl, rfl⟩; rw [HK.out])
  have start : Below w.heap.size w w.drew := (Below.refl _ w).drew
  go_region_held3 (fun W => Below w.heap.size w W) (first | exact hh | exact start | exact bla hh _)
    (first | (go_at_call 53; with_reducible refine (H1.out _ start).mono ?_; rintro e w1 ⟨v, rfl, hown, hb⟩; have hh := bl start hb; have hown1 := hown.mono (base' := w.heap.size) (Nat.le_refl _); clear hb hown) | (go_at_call 40; with_reducible refine (H2.out _ hh).mono ?_; rintro e w2 ⟨rfl, hb⟩; have hown1 := own_kept hown1 hb; have hh := bl hh hb; clear hb) | (refine step_append_lies _ rfl (.tmp 32) (.tmp 37) 35 rfl w.heap.size 40 i0 (.agg #[.int .u64 0, .int .u64 0]) 2 16 Try.underlying35 hi hz0 hz1 hz2 rfl (by decide) _ _ _ rfl (hown1.alloc _) ⟨w2.heap.size, 0, none⟩ 1 1 [.int .u64 y0, .int .u64 y1] rfl rfl (World.news_of_block (heap_alloc_new w2 _)) (by intro u hu; simp at hu; rcases hu with rfl | rfl <;> rfl) (by decide) (by unfold maxLen; omega) (by omega) (by have := hh.size; simp; omega) _ rfl ?_; intro g cap' w3 hown3 hgrow hat hlt; have hh := (bla hh (.cells #[.int .u64 y0, .int .u64 y1] 40)).grown hgrow (by have := hh.size; simp; omega) (fun k hk => (hown1.lt k hk).1)))
  go_wp2
  go_ret
  exact ⟨_, rfl, hown3, hh⟩
set_option maxHeartbeats 400000 in
set_option maxRecDepth 100000 in
theorem proof_one (cap : Nat) (a : Option Addr) (i : Int) (w : World) :
    Calls Try.prog 53 #[.slice a 1 cap, .int .i64 i] w fun e w' => ∃ v, e = .returned v ∧ w'.ownsRow w.heap.size 40 2 v 0 [] ∧ Below w.heap.size w w' := by
  go_enter Try.func53, Try.ntmps53
  go_wp2
  go_ret
  exact ⟨_, rfl, World.ownsRow_nil _ _ _ _, Below.refl _ _⟩

/-- The proof for the element i of a list, as digest.proof makes it. -/
def proofT : Nat → List Dig → Nat → List Dig
  | 0, _, _ => []
  | f + 1, l, i => if l.length = 1 then [] else if i < leftN l.length then proofT f (l.take (leftN l.length)) i ++ [rootT (f + 1) (l.drop (leftN l.length))] else proofT f (l.drop (leftN l.length)) (i - leftN l.length) ++ [rootT (f + 1) (l.take (leftN l.length))]
theorem proofT_length : ∀ (f : Nat) (l : List Dig) (i : Nat), (proofT f l i).length ≤ f
  | 0, _, _ => Nat.le_refl _
  | f + 1, l, i => by
    unfold proofT
    split
    · simp
    · split
      · have := proofT_length f (l.take (leftN l.length)) i; simp; omega
      · have := proofT_length f (l.drop (leftN l.length)) (i - leftN l.length); simp; omega
theorem proof_any : ∀ (f : Nat) (L : List Dig) (i : Nat) (w : World) (v : Value), L.length < f → f ≤ 1000 → i < L.length → IsDigs w v L →
    Calls Try.prog 53 #[v, .int .i64 i] w fun e w' => ∃ v, e = .returned v ∧ w'.ownsRow w.heap.size 40 2 v (proofT f L i).length (digCells (proofT f L i)) ∧ Below w.heap.size w w'
  | 0, _, _, _, _, h, _, _, _ => absurd h (Nat.not_lt_zero _)
  | f + 1, L, i, w, v, hf, hf2, hi, hv => by
    obtain ⟨b, off, cap, rfl, h1, h2, hb, htake, hdrop, hc⟩ := hv.parts (by intro e; rw [e] at hi; exact absurd hi (Nat.not_lt_zero _))
    by_cases h3 : L.length = 1
    · have e : proofT (f + 1) L i = [] := by rw [proofT, if_pos h3]
      rw [e, h3]
      exact proof_one cap _ i w
    · obtain ⟨_, _, _, _, hk, hk2⟩ := leftN_spec L.length (by omega) (by omega)
      have hpos : 1 ≤ leftN L.length := Nat.pow_pos (by decide)
      by_cases hik : i < leftN L.length
      · have e : proofT (f + 1) L i = proofT f (L.take (leftN L.length)) i ++ [rootT (f + 1) (L.drop (leftN L.length))] := by rw [proofT, if_neg h3, if_pos hik]
        rw [e, digCells_snoc, List.length_append, List.length_singleton]
        exact proof_less L.length _ cap b off _ i _ _ _ rfl hk (by omega) (by omega) (Nat.le_trans (proofT_length f _ _) (by omega)) h1 (by omega) w
          (fun W hW => proof_any f (L.take (leftN L.length)) i W _ (by rw [List.length_take]; omega) (by omega) (by rw [List.length_take]; omega) ((htake _ (by omega)).below hW))
          (fun W hW => root_any (f + 1) (L.drop (leftN L.length)) W _ (by rw [List.length_drop]; omega) (by rw [List.length_drop]; omega) ((hdrop _ (by omega)).below hW))
      · have e : proofT (f + 1) L i = proofT f (L.drop (leftN L.length)) (i - leftN L.length) ++ [rootT (f + 1) (L.take (leftN L.length))] := by rw [proofT, if_neg h3, if_neg hik]
        rw [e, digCells_snoc, List.length_append, List.length_singleton]
        refine proof_more L.length _ cap b off _ i _ _ _ rfl hk (by omega) (by omega) (Nat.le_trans (proofT_length f _ _) (by omega)) h1 (by omega) (by omega) w
          (fun W hW => ?_)
          (fun W hW => root_any (f + 1) (L.take (leftN L.length)) W _ (by rw [List.length_take]; omega) (by rw [List.length_take]; omega) ((htake _ (by omega)).below hW))
        have := proof_any f (L.drop (leftN L.length)) (i - leftN L.length) W _ (by rw [List.length_drop]; omega) (by omega) (by rw [List.length_drop]; omega) ((hdrop _ (by omega)).below hW)
        rw [Int.natCast_sub (by omega)] at this
        exact this

set_option maxHeartbeats 400000 in
set_option maxRecDepth 100000 in
theorem proofBad_any (len cap : Nat) (a : Option Addr) (i : Int) (h : i < 0 ∨ (len : Int) ≤ i) (w : World) :
    Calls Try.prog 34 #[.slice a len cap, .int .i64 i] w fun e w' => ∃ v, e = .returned (.tuple #[v, .int .i64 2]) ∧ w'.ownsRow w.heap.size 40 2 v 0 [] ∧ Below w.heap.size w w' := by
  by_cases h1 : i < 0
  · clear h
    go_enter Try.func34, Try.ntmps34
    go_wp2
    go_ret2
    exact ⟨_, rfl, World.ownsRow_nil _ _ _ _, Below.refl _ _⟩
  · have h2 : (len : Int) ≤ i := by omega
    clear h
    go_enter Try.func34, Try.ntmps34
    go_wp2
    go_ret2
    exact ⟨_, rfl, World.ownsRow_nil _ _ _ _, Below.refl _ _⟩
set_option maxHeartbeats 400000 in
set_option maxRecDepth 100000 in
theorem proofGood_any (len cap m : Nat) (a : Option Addr) (i : Int) (xs : List Value) (h0 : 0 ≤ i) (h1 : i < (len : Int)) (w : World)
    (hp : Calls Try.prog 53 #[.slice a len cap, .int .i64 i] w fun e w' => ∃ v, e = .returned v ∧ w'.ownsRow w.heap.size 40 2 v m xs ∧ Below w.heap.size w w') :
    Calls Try.prog 34 #[.slice a len cap, .int .i64 i] w fun e w' => ∃ v, e = .returned (.tuple #[v, .int .i64 0]) ∧ w'.ownsRow w.heap.size 40 2 v m xs ∧ Below w.heap.size w w' := by
  have HP := Lib.hid hp
  clear hp
  have t0 : ¬ i < 0 := by omega
  have t1 : ¬ (len : Int) ≤ i := by omega
  go_enter Try.func34, Try.ntmps34
  go_wp2_with fail
  refine HP.out.mono ?_
  rintro e w' ⟨v, rfl, hown, hb⟩
  have HO := Lib.hid hown
  clear hown
  go_wp2
  go_ret2
  exact ⟨_, rfl, HO.out, hb⟩
end Go.Proofs.Ytfheflihofafdaa.Tr

/- The reference's Proof and Same, at this translation. -/
namespace Go.Proofs.Ytfheflihofafdaa.Tr
open Go.RowKit
attribute [local go_sem] eq_arr

set_option maxHeartbeats 400000 in
set_option maxRecDepth 100000 in
theorem refProofBad_any (len cap : Nat) (a : Option Addr) (i : Int) (h : i < 0 ∨ (len : Int) ≤ i) (w : World) :
    Calls Try.prog 36 #[.slice a len cap, .int .i64 i] w fun e w' => ∃ v, e = .returned (.tuple #[v, .int .i64 2]) ∧ w'.ownsRow w.heap.size 40 2 v 0 [] ∧ Below w.heap.size w w' := by
  have hm := World.ownsRow_made (base := w.heap.size) (e := 40) (size := 2) w #[] 0 (Nat.le_refl _) (Nat.zero_le _) rfl
  have HM := Lib.hid hm
  clear hm
  by_cases h1 : i < 0
  · clear h
    go_enter Try.func36, Try.ntmps36
    go_wp2
    go_ret2
    exact ⟨_, rfl, HM.out, bla (Below.refl _ _) _⟩
  · have h2 : (len : Int) ≤ i := by omega
    clear h
    go_enter Try.func36, Try.ntmps36
    go_wp2
    go_ret2
    exact ⟨_, rfl, HM.out, bla (Below.refl _ _) _⟩
set_option maxHeartbeats 400000 in
set_option maxRecDepth 100000 in
theorem refProof_one (cap : Nat) (a : Option Addr) (w : World) :
    Calls Try.prog 36 #[.slice a 1 cap, .int .i64 0] w fun e w' => ∃ v, e = .returned (.tuple #[v, .int .i64 0]) ∧ w'.ownsRow w.heap.size 40 2 v 0 [] ∧ Below w.heap.size w w' := by
  have hm := World.ownsRow_made (base := w.heap.size) (e := 40) (size := 2) w #[] 0 (Nat.le_refl _) (Nat.zero_le _) rfl
  have HM := Lib.hid hm
  clear hm
  go_enter Try.func36, Try.ntmps36
  go_wp2
  go_ret2
  exact ⟨_, rfl, HM.out, bla (Below.refl _ _) _⟩

set_option maxHeartbeats 1000000 in
set_option maxRecDepth 100000 in
theorem refProof_less (len k cap b off m : Nat) (i y0 y1 : Int) (xs : List Value) (hk : leftN len = k) (hk1 : k < len) (hl : 2 ≤ len) (hl2 : len ≤ 1099511627776) (hm : m ≤ 1000) (hc1 : len ≤ cap) (hi0 : 0 ≤ i) (hi2 : i < (k : Int)) (w : World)
    (h1 : ∀ W, Below w.heap.size w W → Calls Try.prog 36 #[.slice (some ⟨b, off, none⟩) k cap, .int .i64 i] W fun e w' => ∃ v, e = .returned (.tuple #[v, .int .i64 0]) ∧ w'.ownsRow W.heap.size 40 2 v m xs ∧ Below W.heap.size W w')
    (h2 : ∀ W, Below w.heap.size w W → Calls Try.prog 41 #[.slice (some ⟨b, off + k * 2, none⟩) (len - k) (cap - k)] W fun e w' => e = .returned (.agg #[.int .u64 y0, .int .u64 y1]) ∧ Below W.heap.size W w') :
    Calls Try.prog 36 #[.slice (some ⟨b, off, none⟩) len cap, .int .i64 i] w fun e w' => ∃ v, e = .returned (.tuple #[v, .int .i64 0]) ∧ w'.ownsRow w.heap.size 40 2 v (m + 1) (xs ++ [.int .u64 y0, .int .u64 y1]) ∧ Below w.heap.size w w' := by
  obtain ⟨i0, hi, hz0, hz1, hz2⟩ := info_parts info24
  have H1 := Lib.hid h1
  have H2 := Lib.hid h2
  have HK := Lib.hid hk
  clear h1 h2 hk
  have t0 : ¬ i < 0 := by omega
  have ta : ¬ (len : Int) ≤ i := by omega
  have t1 : ((len : Int) == 1) = false := by simp; omega
  have t2 : (0 : Int) ≤ (k : Int) := by omega
  have t3 : (k : Int) ≤ (len : Int) := by omega
  have t4 : (k : Int) ≤ (cap : Int) := by omega
  have w1 : IntKind.i64.wrap (i - (k : Int)) = i - (k : Int) := by rw [IntKind.wrap_i64]; omega
  have t6 : i < (k : Int) := by omega
  have tk : ¬ cap = k := by omega
  have t5 : (len : Int) ≤ (cap : Int) := by omega
  go_enter Try.func36, Try.ntmps36
  go_wp2_with (go_at_call 54; refine (left_any len hl hl2 _).mono ?_; rintro e w' ⟨rfl, rfl⟩; rw [HK.out])
  refine (H1.out _ (Below.refl _ _)).mono ?_
  rintro e w1 ⟨v, rfl, hown, hb1⟩
  have HO := Lib.hid hown
  clear hown
  go_wp2_with fail
  refine (H2.out _ hb1).mono ?_
  rintro e w2 ⟨rfl, hb2⟩
  have hown1 := own_kept HO.out hb2
  have hh := bl hb1 hb2
  clear HO hb1 hb2
  go_wp2_with (at_builtin; refine wpList_append_lies _ rfl _ _ 35 rfl w.heap.size 40 i0 (.agg #[.int .u64 0, .int .u64 0]) 2 16 Try.underlying35 hi hz0 hz1 hz2 rfl (by decide) _ _ _ rfl (hown1.alloc _) ⟨w2.heap.size, 0, none⟩ 1 1 [.int .u64 y0, .int .u64 y1] rfl rfl ?c1 ?c2 (by decide) ?c3 ?c4 ?c5 _ rfl ?_)
  case c1 => exact World.news_of_block (heap_alloc_new w2 _)
  case c2 => intro u hu; simp at hu; rcases hu with rfl | rfl <;> rfl
  case c3 => unfold maxLen; omega
  case c4 => omega
  case c5 => have := hh.size; simp; omega
  intro g cap' w3 hown3 hgrow hat hlt
  have hh3 := (bla hh (.cells #[.int .u64 y0, .int .u64 y1] 40)).grown hgrow (by have := hh.size; simp; omega) (fun k hk => (hown1.lt k hk).1)
  have H3 := Lib.hid hown3
  clear hown3 hown1 hgrow hat
  go_wp2
  go_ret2
  exact ⟨_, rfl, H3.out, hh3⟩

set_option maxHeartbeats 1000000 in
set_option maxRecDepth 100000 in
theorem refProof_more (len k cap b off m : Nat) (i y0 y1 : Int) (xs : List Value) (hk : leftN len = k) (hk1 : k < len) (hl : 2 ≤ len) (hl2 : len ≤ 1099511627776) (hm : m ≤ 1000) (hc1 : len ≤ cap) (hi2 : (k : Int) ≤ i) (hi3 : i < (len : Int)) (w : World)
    (h1 : ∀ W, Below w.heap.size w W → Calls Try.prog 36 #[.slice (some ⟨b, off + k * 2, none⟩) (len - k) (cap - k), .int .i64 (i - (k : Int))] W fun e w' => ∃ v, e = .returned (.tuple #[v, .int .i64 0]) ∧ w'.ownsRow W.heap.size 40 2 v m xs ∧ Below W.heap.size W w')
    (h2 : ∀ W, Below w.heap.size w W → Calls Try.prog 41 #[.slice (some ⟨b, off, none⟩) k cap] W fun e w' => e = .returned (.agg #[.int .u64 y0, .int .u64 y1]) ∧ Below W.heap.size W w') :
    Calls Try.prog 36 #[.slice (some ⟨b, off, none⟩) len cap, .int .i64 i] w fun e w' => ∃ v, e = .returned (.tuple #[v, .int .i64 0]) ∧ w'.ownsRow w.heap.size 40 2 v (m + 1) (xs ++ [.int .u64 y0, .int .u64 y1]) ∧ Below w.heap.size w w' := by
  obtain ⟨i0, hi, hz0, hz1, hz2⟩ := info_parts info24
  have H1 := Lib.hid h1
  have H2 := Lib.hid h2
  have HK := Lib.hid hk
  clear h1 h2 hk
  have t0 : ¬ i < 0 := by omega
  have ta : ¬ (len : Int) ≤ i := by omega
  have t1 : ((len : Int) == 1) = false := by simp; omega
  have t2 : (0 : Int) ≤ (k : Int) := by omega
  have t3 : (k : Int) ≤ (len : Int) := by omega
  have t4 : (k : Int) ≤ (cap : Int) := by omega
  have w1 : IntKind.i64.wrap (i - (k : Int)) = i - (k : Int) := by rw [IntKind.wrap_i64]; omega
  have t6 : ¬ i < (k : Int) := by omega
  have tk : ¬ cap = k := by omega
  have t5 : (len : Int) ≤ (cap : Int) := by omega
  go_enter Try.func36, Try.ntmps36
  go_wp2_with (go_at_call 54; refine (left_any len hl hl2 _).mono ?_; rintro e w' ⟨rfl, rfl⟩; rw [HK.out])
  refine (H1.out _ (Below.refl _ _)).mono ?_
  rintro e w1 ⟨v, rfl, hown, hb1⟩
  have HO := Lib.hid hown
  clear hown
  go_wp2_with fail
  refine (H2.out _ hb1).mono ?_
  rintro e w2 ⟨rfl, hb2⟩
  have hown1 := own_kept HO.out hb2
  have hh := bl hb1 hb2
  clear HO hb1 hb2
  go_wp2_with (at_builtin; refine wpList_append_lies _ rfl _ _ 35 rfl w.heap.size 40 i0 (.agg #[.int .u64 0, .int .u64 0]) 2 16 Try.underlying35 hi hz0 hz1 hz2 rfl (by decide) _ _ _ rfl (hown1.alloc _) ⟨w2.heap.size, 0, none⟩ 1 1 [.int .u64 y0, .int .u64 y1] rfl rfl ?c1 ?c2 (by decide) ?c3 ?c4 ?c5 _ rfl ?_)
  case c1 => exact World.news_of_block (heap_alloc_new w2 _)
  case c2 => intro u hu; simp at hu; rcases hu with rfl | rfl <;> rfl
  case c3 => unfold maxLen; omega
  case c4 => omega
  case c5 => have := hh.size; simp; omega
  intro g cap' w3 hown3 hgrow hat hlt
  have hh3 := (bla hh (.cells #[.int .u64 y0, .int .u64 y1] 40)).grown hgrow (by have := hh.size; simp; omega) (fun k hk => (hown1.lt k hk).1)
  have H3 := Lib.hid hown3
  clear hown3 hown1 hgrow hat
  go_wp2
  go_ret2
  exact ⟨_, rfl, H3.out, hh3⟩
theorem refProof_any : ∀ (f : Nat) (L : List Dig) (i : Nat) (w : World) (v : Value), L.length < f → f ≤ 1000 → i < L.length → IsDigs w v L →
    Calls Try.prog 36 #[v, .int .i64 i] w fun e w' => ∃ v, e = .returned (.tuple #[v, .int .i64 0]) ∧ w'.ownsRow w.heap.size 40 2 v (proofT f L i).length (digCells (proofT f L i)) ∧ Below w.heap.size w w'
  | 0, _, _, _, _, h, _, _, _ => absurd h (Nat.not_lt_zero _)
  | f + 1, L, i, w, v, hf, hf2, hi, hv => by
    obtain ⟨b, off, cap, rfl, h1, h2, hb, htake, hdrop, hc⟩ := hv.parts (by intro e; rw [e] at hi; exact absurd hi (Nat.not_lt_zero _))
    by_cases h3 : L.length = 1
    · have e : proofT (f + 1) L i = [] := by rw [proofT, if_pos h3]
      obtain rfl : i = 0 := by omega
      rw [e, h3]
      exact refProof_one cap _ w
    · obtain ⟨_, _, _, _, hk, hk2⟩ := leftN_spec L.length (by omega) (by omega)
      have hpos : 1 ≤ leftN L.length := Nat.pow_pos (by decide)
      by_cases hik : i < leftN L.length
      · have e : proofT (f + 1) L i = proofT f (L.take (leftN L.length)) i ++ [rootT (f + 1) (L.drop (leftN L.length))] := by rw [proofT, if_neg h3, if_pos hik]
        rw [e, digCells_snoc, List.length_append, List.length_singleton]
        exact refProof_less L.length _ cap b off _ i _ _ _ rfl hk (by omega) (by omega) (Nat.le_trans (proofT_length f _ _) (by omega)) h1 (by omega) (by omega) w
          (fun W hW => refProof_any f (L.take (leftN L.length)) i W _ (by rw [List.length_take]; omega) (by omega) (by rw [List.length_take]; omega) ((htake _ (by omega)).below hW))
          (fun W hW => refRoot_any (f + 1) (L.drop (leftN L.length)) W _ (by rw [List.length_drop]; omega) (by rw [List.length_drop]; omega) ((hdrop _ (by omega)).below hW))
      · have e : proofT (f + 1) L i = proofT f (L.drop (leftN L.length)) (i - leftN L.length) ++ [rootT (f + 1) (L.take (leftN L.length))] := by rw [proofT, if_neg h3, if_neg hik]
        rw [e, digCells_snoc, List.length_append, List.length_singleton]
        refine refProof_more L.length _ cap b off _ i _ _ _ rfl hk (by omega) (by omega) (Nat.le_trans (proofT_length f _ _) (by omega)) h1 (by omega) (by omega) w
          (fun W hW => ?_)
          (fun W hW => refRoot_any (f + 1) (L.take (leftN L.length)) W _ (by rw [List.length_take]; omega) (by rw [List.length_take]; omega) ((htake _ (by omega)).below hW))
        have := refProof_any f (L.drop (leftN L.length)) (i - leftN L.length) W _ (by rw [List.length_drop]; omega) (by omega) (by rw [List.length_drop]; omega) ((hdrop _ (by omega)).below hW)
        rw [Int.natCast_sub (by omega)] at this
        exact this

theorem digCells_get : ∀ (L : List Dig) (j : Nat) (d : Dig), L[j]? = some d → (digCells L)[j * 2]? = some (.int .u64 d.1) ∧ (digCells L)[j * 2 + 1]? = some (.int .u64 d.2)
  | [], j, d, h => by simp at h
  | x :: L, 0, d, h => by
    simp at h
    subst h
    simp [digCells]
  | x :: L, j + 1, d, h => by
    have := digCells_get L j d (by simpa using h)
    have e : digCells (x :: L) = .int .u64 x.1 :: .int .u64 x.2 :: digCells L := by simp [digCells]
    rw [e, show (j + 1) * 2 = j * 2 + 1 + 1 from by omega]
    exact ⟨by simpa using this.1, by simpa using this.2⟩
theorem own_digs {W : World} {B : Nat} {v : Value} {L : List Dig} (h : W.ownsRow B 40 2 v L.length (digCells L)) : IsDigs W v L := by
  by_cases h0 : L.length = 0
  · obtain rfl : L = [] := List.length_eq_zero_iff.1 h0
    rcases h.2 with ⟨rfl, _⟩ | ⟨g, cap, cur, rfl, _, _, h1, h2, _⟩
    · exact ⟨none, 0, rfl, by simp, Nat.zero_le _, .inl rfl⟩
    · exact ⟨_, cap, rfl, h1, h2, .inl rfl⟩
  · rcases h.2 with ⟨_, h1⟩ | ⟨g, cap, cur, rfl, _, hg, h1, h2, _⟩
    · exact absurd h1 h0
    · have hlt := (h.lt g rfl).2
      refine ⟨_, cap, rfl, h1, h2, .inr ⟨g, 0, rfl, hlt, fun j d hj => ?_⟩⟩
      obtain ⟨c0, c1⟩ := digCells_get L j d hj
      have a0 := h.cells rfl _ _ c0
      have a1 := h.cells rfl _ _ c1
      rw [Nat.zero_add]
      refine ⟨?_, ?_⟩
      · rcases Nat.eq_zero_or_pos j with rfl | hp
        · simpa [Addr.add] using a0
        · have hne : ¬ j * 2 = 0 := by omega
          simpa [Addr.add, hne] using a0
      · simpa [Addr.add] using a1

end Go.Proofs.Ytfheflihofafdaa.Tr
