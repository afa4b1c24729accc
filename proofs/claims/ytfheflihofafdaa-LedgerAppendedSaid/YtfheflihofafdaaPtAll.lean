/- PtMath, PtNames, PtParts, PtBld: texts joined, at this translation. -/
import Derived.Test.YtfheflihofafdaaProg
import Derived.Test.YtfheflihofafdaaCdAll
import Derived.Below
import Derived.LoopTactic
import Derived.Lib.Hide
import Derived.KernelRfl
import Derived.WalkKit
import Derived.IntWalk
import Derived.Laws.Cover1
import Derived.Great.Walk
/- Names, strings one behind another, at this translation. -/
namespace Go.Proofs.Ytfheflihofafdaa.Pt
open Go.RowKit Go.Great

abbrev BA := ByteArray
instance lawfulBA : LawfulBEq ByteArray where
  eq_of_beq {a b} h := (Go.MapKept.bytes_beq a b).1 h
  rfl {a} := (Go.MapKept.bytes_beq a a).2 rfl
theorem toList_inj {x y : BA} (h : x.toList = y.toList) : x = y := by
  rw [ByteArray.toList_eq, ByteArray.toList_eq] at h
  exact ByteArray.ext (Array.toList_inj.1 h)
theorem str_eq (x y : BA) : (x.toList == y.toList) = decide (x = y) := by
  by_cases h : x = y
  · subst h; simp
  · rw [decide_eq_false h]
    exact beq_eq_false_iff_ne.2 fun e => h (toList_inj e)
/-- A byte of a name. -/
def nameByte (c : Nat) : Bool := decide (97 ≤ c ∧ c ≤ 122) || decide (65 ≤ c ∧ c ≤ 90) || decide (48 ≤ c ∧ c ≤ 57) || decide (c = 46) || decide (c = 95) || decide (c = 45)
/-- All bytes from an index on are bytes of names. -/
def charsFrom (s : BA) (j : Nat) : Bool := (s.data.toList.drop j).all fun b => nameByte b.toNat
theorem chars_step (s : BA) (j : Nat) (h : j < s.size) : charsFrom s j = (nameByte (s[j]'h).toNat && charsFrom s (j + 1)) := by
  unfold charsFrom
  have h' : j < s.data.toList.length := by simpa using h
  rw [List.drop_eq_getElem_cons h', List.all_cons]
  rfl
theorem chars_end (s : BA) (j : Nat) (h : s.size ≤ j) : charsFrom s j = true := by
  unfold charsFrom
  rw [List.drop_eq_nil_of_le (by simpa using h)]
  rfl
/-- A string of name bytes of the right length. -/
def isChars (s : BA) : Bool := charsFrom s 0 && decide (1 ≤ s.size) && decide (s.size ≤ 24)
/-- Strings one behind another. -/
def catS : List BA → BA
  | [] => ⟨#[]⟩
  | x :: t => x ++ catS t
theorem app_assoc (x y z : BA) : x ++ y ++ z = x ++ (y ++ z) := ByteArray.append_assoc
theorem app_empty (x : BA) : x ++ ⟨#[]⟩ = x := by apply ByteArray.ext; simp
theorem empty_app (x : BA) : (⟨#[]⟩ : BA) ++ x = x := by apply ByteArray.ext; simp
theorem catS_snoc (L : List BA) (x : BA) : catS (L ++ [x]) = catS L ++ x := by
  induction L with
  | nil => simp [catS, app_empty, empty_app]
  | cons y t ih => simp only [List.cons_append, catS, ih, app_assoc]
theorem catS_le (L : List BA) (m : Nat) (h : ∀ x ∈ L, x.size ≤ m) : (catS L).size ≤ L.length * m := by
  induction L with
  | nil => simp [catS]; rfl
  | cons y t ih =>
    have h1 := h y (by simp)
    have h2 := ih (fun x hx => h x (by simp [hx]))
    rw [catS, ByteArray.size_append, List.length_cons, Nat.add_mul]
    omega
theorem catS_take {α : Type} (f : α → BA) (L : List α) (j : Nat) (h : j < L.length) : catS ((L.take (j + 1)).map f) = catS ((L.take j).map f) ++ f L[j] := by
  rw [List.take_succ_eq_append_getElem h, List.map_append, List.map_singleton, catS_snoc]
theorem catS_take_le {α : Type} (f : α → BA) (L : List α) (m : Nat) (h : ∀ x ∈ L, (f x).size ≤ m) (j : Nat) : (catS ((L.take j).map f)).size ≤ L.length * m := by
  refine Nat.le_trans (catS_le _ m fun x hx => ?_) ?_
  · obtain ⟨y, hy, rfl⟩ := List.mem_map.1 hx
    exact h y (List.mem_of_mem_take hy)
  · rw [List.length_map]
    exact Nat.mul_le_mul_right _ (by rw [List.length_take]; omega)
end Go.Proofs.Ytfheflihofafdaa.Pt

/- names.Chars, at this translation. -/
namespace Go.Proofs.Ytfheflihofafdaa.Pt
open Go.RowKit Go.Great

theorem byte_cases (c : Nat) (h : c < 256) : (0 ≤ c ∧ c ≤ 44) ∨ (45 ≤ c ∧ c ≤ 45) ∨ (46 ≤ c ∧ c ≤ 46) ∨ (47 ≤ c ∧ c ≤ 47) ∨ (48 ≤ c ∧ c ≤ 57) ∨ (58 ≤ c ∧ c ≤ 64) ∨ (65 ≤ c ∧ c ≤ 90) ∨ (91 ≤ c ∧ c ≤ 94) ∨ (95 ≤ c ∧ c ≤ 95) ∨ (96 ≤ c ∧ c ≤ 96) ∨ (97 ≤ c ∧ c ≤ 122) ∨ (123 ≤ c ∧ c ≤ 255) := by omega
set_option maxHeartbeats 2000000 in
set_option maxRecDepth 100000 in
theorem char_any (c : Nat) (hc : c < 256) (w : World) (q : Bool) (hq : nameByte c = q) :
    Calls Try.prog 70 #[.int .u8 c] w fun e w' => e = .returned (.bool q) ∧ w' = w := by
  rcases byte_cases c hc with ⟨h1, h2⟩ | ⟨h1, h2⟩ | ⟨h1, h2⟩ | ⟨h1, h2⟩ | ⟨h1, h2⟩ | ⟨h1, h2⟩ | ⟨h1, h2⟩ | ⟨h1, h2⟩ | ⟨h1, h2⟩ | ⟨h1, h2⟩ | ⟨h1, h2⟩ | ⟨h1, h2⟩
  · obtain rfl : q = false := by rw [← hq]; simp [nameByte]; omega
    clear hq
    have e46 : ((c : Int) == 46) = false := by simp; omega
    have e95 : ((c : Int) == 95) = false := by simp; omega
    have e45 : ((c : Int) == 45) = false := by simp; omega
    go_enter Try.func70, Try.ntmps70
    go_wp2
    go_ret
    exact ⟨rfl, rfl⟩
  · obtain rfl : q = true := by rw [← hq]; simp [nameByte]; omega
    clear hq
    obtain rfl : c = 45 := by omega
    go_enter Try.func70, Try.ntmps70
    go_wp2
    go_ret
    exact ⟨rfl, rfl⟩
  · obtain rfl : q = true := by rw [← hq]; simp [nameByte]; omega
    clear hq
    obtain rfl : c = 46 := by omega
    go_enter Try.func70, Try.ntmps70
    go_wp2
    go_ret
    exact ⟨rfl, rfl⟩
  · obtain rfl : q = false := by rw [← hq]; simp [nameByte]; omega
    clear hq
    obtain rfl : c = 47 := by omega
    go_enter Try.func70, Try.ntmps70
    go_wp2
    go_ret
    exact ⟨rfl, rfl⟩
  · obtain rfl : q = true := by rw [← hq]; simp [nameByte]; omega
    clear hq
    go_enter Try.func70, Try.ntmps70
    go_wp2
    go_ret
    exact ⟨rfl, rfl⟩
  · obtain rfl : q = false := by rw [← hq]; simp [nameByte]; omega
    clear hq
    have e46 : ((c : Int) == 46) = false := by simp; omega
    have e95 : ((c : Int) == 95) = false := by simp; omega
    have e45 : ((c : Int) == 45) = false := by simp; omega
    go_enter Try.func70, Try.ntmps70
    go_wp2
    go_ret
    exact ⟨rfl, rfl⟩
  · obtain rfl : q = true := by rw [← hq]; simp [nameByte]; omega
    clear hq
    go_enter Try.func70, Try.ntmps70
    go_wp2
    go_ret
    exact ⟨rfl, rfl⟩
  · obtain rfl : q = false := by rw [← hq]; simp [nameByte]; omega
    clear hq
    have e46 : ((c : Int) == 46) = false := by simp; omega
    have e95 : ((c : Int) == 95) = false := by simp; omega
    have e45 : ((c : Int) == 45) = false := by simp; omega
    go_enter Try.func70, Try.ntmps70
    go_wp2
    go_ret
    exact ⟨rfl, rfl⟩
  · obtain rfl : q = true := by rw [← hq]; simp [nameByte]; omega
    clear hq
    obtain rfl : c = 95 := by omega
    go_enter Try.func70, Try.ntmps70
    go_wp2
    go_ret
    exact ⟨rfl, rfl⟩
  · obtain rfl : q = false := by rw [← hq]; simp [nameByte]; omega
    clear hq
    obtain rfl : c = 96 := by omega
    go_enter Try.func70, Try.ntmps70
    go_wp2
    go_ret
    exact ⟨rfl, rfl⟩
  · obtain rfl : q = true := by rw [← hq]; simp [nameByte]; omega
    clear hq
    go_enter Try.func70, Try.ntmps70
    go_wp2
    go_ret
    exact ⟨rfl, rfl⟩
  · obtain rfl : q = false := by rw [← hq]; simp [nameByte]; omega
    clear hq
    have e46 : ((c : Int) == 46) = false := by simp; omega
    have e95 : ((c : Int) == 95) = false := by simp; omega
    have e45 : ((c : Int) == 45) = false := by simp; omega
    go_enter Try.func70, Try.ntmps70
    go_wp2
    go_ret
    exact ⟨rfl, rfl⟩
theorem char_idx (s : BA) (j : Nat) (h : j < s.size) (w : World) (q : Bool) (hq : nameByte (s[j]'h).toNat = q) :
    Calls Try.prog 70 #[.int .u8 ((s[j]'h).toNat : Nat)] w fun e w' => e = .returned (.bool q) ∧ w' = w :=
  char_any _ (UInt8.toNat_lt _) w q hq
set_option maxHeartbeats 1000000 in
set_option maxRecDepth 100000 in
theorem chars_any (s : BA) (w : World) (hs : s.size ≤ maxLen) (q : Bool) (hq : isChars s = q) :
    Calls Try.prog 51 #[.string s] w fun e w' => e = .returned (.bool q) ∧ w' = w := by
  unfold maxLen at hs
  go_enter Try.func51, Try.ntmps51
  go_wp2
  go_loopw [6] (fun i wr => wr = w ∧ ∃ k : Nat, k ≤ s.size ∧ i = .int .i64 k ∧ charsFrom s 0 = charsFrom s k) (fun i _ => s.size - (intOf i).toNat)
  case atStart => exact ⟨rfl, 0, Nat.zero_le _, rfl, rfl⟩
  case round =>
    obtain ⟨rfl, k, hk, rfl, he⟩ := hrel
    have HE := Lib.hid he
    clear he
    by_cases hlt : k < s.size
    · have st := Lib.hid (chars_step s k hlt)
      cases hc : nameByte (s[k]'hlt).toNat with
      | false =>
        have HC := Lib.hid hc
        clear hc
        go_wp2_with (go_at_call 70; ((with_reducible refine (char_idx s k hlt _ false HC.out).mono ?_); rintro e w' ⟨rfl, rfl⟩))
        go_ret
        have : q = false := by rw [← hq]; simp [isChars, HE.out, st.out, HC.out]
        subst this
        exact ⟨rfl, rfl⟩
      | true =>
        have HC := Lib.hid hc
        clear hc
        go_wp2_with (go_at_call 70; ((with_reducible refine (char_idx s k hlt _ true HC.out).mono ?_); rintro e w' ⟨rfl, rfl⟩))
        go_roundw
        case rel => exact ⟨trivial, k + 1, hlt, by go_num, by rw [HE.out, st.out, HC.out]; rfl⟩
        case measure => simp [intOf]; omega
    · have ee := Lib.hid (chars_end s k (by omega))
      by_cases h1 : 1 ≤ s.size
      · by_cases h2 : s.size ≤ 24
        · have : q = true := by rw [← hq]; simp [isChars, HE.out, ee.out, h1, h2]
          subst this
          clear hq
          go_wp2
          go_ret
          refine ⟨?_, rfl⟩
          simp
          omega
        · have : q = false := by rw [← hq]; simp [isChars, h2]
          subst this
          clear hq
          go_wp2
          go_ret
          refine ⟨?_, rfl⟩
          simp
          omega
      · have : q = false := by rw [← hq]; simp [isChars, h1]
        subst this
        clear hq
        go_wp2
        go_ret
        exact ⟨rfl, rfl⟩
end Go.Proofs.Ytfheflihofafdaa.Pt

/- parts.Int and parts.Text, and the reference's PutInt, at this translation. -/
namespace Go.Proofs.Ytfheflihofafdaa.Pt
open Go.RowKit Go.Great

/-- A number's bytes, a text's. -/
def numS (n : Nat) : BA := Cd.strN (Cd.enc7 n)
def txtS (s : BA) : BA := Cd.strN (Cd.encT s)
theorem numS_size (n : Nat) : (numS n).size = (Cd.enc7 n).length := Cd.strN_size _
theorem numS_le (n : Nat) (h : n ≤ 1099511627776) : (numS n).size ≤ 6 := by rw [numS_size]; exact (Cd.enc7_len n 6 (by omega)).2 (by omega)
theorem txtS_size (s : BA) : (txtS s).size = (Cd.enc7 s.size).length + s.size := by
  rw [txtS, Cd.strN_size, Cd.encT, List.length_append, Cd.nats_length]
set_option maxHeartbeats 1000000 in
set_option maxRecDepth 100000 in
theorem refPutInt_any (m : Nat) (hm : m ≤ 1099511627776) (w : World) :
    Calls Try.prog 67 #[.int .i64 m] w fun e w' => e = .returned (.tuple #[.string (numS m), .int .i64 0]) ∧ Below w.heap.size w w' := by
  go_enter Try.func67, Try.ntmps67
  go_wp2_with fail
  ((with_reducible refine (Cd.refPut_any m hm _).mono ?_); rintro e w1 ⟨rfl, hb1⟩)
  go_wp2
  go_ret2
  exact ⟨rfl, hb1⟩
theorem pInt_any (m : Nat) (hm : m ≤ 1099511627776) (w : World) :
    Calls Try.prog 77 #[.int .i64 m] w fun e w' => e = .returned (.string (numS m)) ∧ Below w.heap.size w w' := by
  go_enter Try.func77, Try.ntmps77
  go_wp2_with fail
  ((with_reducible refine (Cd.putInt_good m m rfl hm _).mono ?_); rintro e w1 ⟨rfl, hb1⟩)
  go_wp2
  go_ret
  exact ⟨rfl, hb1⟩
theorem pText_any (s : BA) (hs : s.size ≤ 65536) (w : World) :
    Calls Try.prog 78 #[.string s] w fun e w' => e = .returned (.string (txtS s)) ∧ Below w.heap.size w w' := by
  go_enter Try.func78, Try.ntmps78
  go_wp2_with fail
  ((with_reducible refine (Cd.putText_good s hs _).mono ?_); rintro e w1 ⟨rfl, hb1⟩)
  go_wp2
  go_ret
  exact ⟨rfl, hb1⟩
theorem pInt_k (k : Int) (m : Nat) (hk : k = m) (hm : m ≤ 1099511627776) (w : World) :
    Calls Try.prog 77 #[.int .i64 k] w fun e w' => e = .returned (.string (numS m)) ∧ Below w.heap.size w w' := by
  subst hk
  exact pInt_any m hm w
end Go.Proofs.Ytfheflihofafdaa.Pt

/- A strings.Builder that holds a string, at this translation. -/
namespace Go.Proofs.Ytfheflihofafdaa.Pt
open Go.Shelf Go.RowKit

theorem strCells_app (s x : BA) : Lib.strCells (s ++ x) = Lib.strCells s ++ Lib.strCells x := by
  simp [Lib.strCells]
theorem strCells_none : Lib.strCells ⟨#[]⟩ = [] := rfl
/-- Rows of other types than bytes are as they were, all but one. -/
def Kept (b : Nat) (w w' : World) : Prop := ∀ (j : Nat) (cs : Array Value) (T : TypeId), w.heap[j]? = some (.cells cs T (0, 0)) → T ≠ 5 → j ≠ b → w'.heap[j]? = some (.cells cs T (0, 0))
set_option maxHeartbeats 2000000 in
set_option maxRecDepth 100000 in
theorem writeStr_any (B b : Nat) (s x : BA) (w : World) (h : Lib.IsBuilder 80 5 B b (Lib.strCells s) w) (hlen : s.size + x.size ≤ 140737488355328) (hBw : B ≤ w.heap.size) :
    Calls Try.prog 64 #[.pointer (some ⟨b, 0, none⟩), .string x] w fun e w' => e = .returned (.tuple #[.int .i64 x.size, .nilIface]) ∧ (Lib.IsBuilder 80 5 B b (Lib.strCells (s ++ x)) w' ∧ Below B w w' ∧ Kept b w w') := by
  obtain ⟨i0, hi, hz0, hz1, hz2⟩ := info_parts Cd.info5'
  rw [strCells_app]
  go_enter Try.func64, Try.ntmps64
  have cc : Calls Try.prog 79 #[.pointer (some ⟨b, 0, none⟩)] w fun e w' => e = .returned (.tuple #[]) ∧ (Lib.BuilderAt 80 5 B b (.pointer (some ⟨b, 0, none⟩)) (Lib.strCells s) w' ∧ Below B w w' ∧ Kept b w w') := by
    rcases h with h | h
    · refine (Cd.copyCheck_fresh b w h.cell0 h.shape h.frozen0).mono ?_
      rintro e w' ⟨rfl, rfl⟩
      exact ⟨rfl, h.used _, (Below.refl B w).setCell (p := ⟨b, 0, none⟩) h.1 _, fun j cs T hj _ hne => (Below.heap_setCell w ⟨b, 0, none⟩ _ j hne).trans hj⟩
    · refine (Cd.copyCheck_used b w h.cell0).mono ?_
      rintro e w' ⟨rfl, rfl⟩
      exact ⟨rfl, h, Below.refl B _, fun j cs T hj _ _ => hj⟩
  go_wp2_with (go_at_call 79; refine cc.mono ?_)
  rintro e w1 ⟨rfl, h1, hb1, k1⟩
  obtain ⟨hB, v, hbk, hown, hne⟩ := h1
  have c0 : w1.cell? ⟨b, 0, none⟩ = some (.pointer (some ⟨b, 0, none⟩)) := by rw [Lib.cell_of_heap hbk]; rfl
  have c1 : w1.cell? ⟨b, 1, none⟩ = some v := by rw [Lib.cell_of_heap hbk]; rfl
  have hK1 := Lib.hid k1
  clear k1 cc
  go_wp2_with (at_builtin; refine Lib.wpList_append_own_string _ rfl _ _ 78 9 rfl B 5 i0 Try.underlying78 Try.underlying9 hi hz0 hz1 hz2 _ _ _ rfl hown x rfl ?c3 ?c4 ?c5 ?_)
  case c3 => rw [Lib.strCells_length]; unfold maxLen; omega
  case c4 => rw [Lib.strCells_length]; omega
  case c5 => have := hb1.size; omega
  intro v' w2 hown' hgrow _
  have hb2 : w2.heap[b]? = some (.cells #[.pointer (some ⟨b, 0, none⟩), v] 80 (0, 0)) := by
    rw [hgrow.block b (lt_of_block hbk) (fun e => hne e.symm)]
    exact hbk
  have d0 : w2.cell? ⟨b, 0, none⟩ = some (.pointer (some ⟨b, 0, none⟩)) := by rw [Lib.cell_of_heap hb2]; rfl
  have d1 : w2.cell? ⟨b, 1, none⟩ = some v := by rw [Lib.cell_of_heap hb2]; rfl
  have f1 : w2.frozen? ⟨b, 1, none⟩ = false := Lib.frozen_of_heap hb2 1
  have K2 : Hid (∀ u, Kept b w (w2.setCell ⟨b, 1, none⟩ u)) := Lib.hid fun u j cs T hj hT hjb => by
    have h1 := hK1.out j cs T hj hT hjb
    refine (Below.heap_setCell w2 ⟨b, 1, none⟩ u j hjb).trans ?_
    rw [hgrow.block j (lt_of_block h1) (fun e => Lib.ownBlock_ne hown h1 hT e.symm)]
    exact h1
  obtain ⟨ao, n', cap, rfl⟩ : ∃ ao n' cap, v' = .slice ao n' cap := by
    rcases hown'.2 with ⟨hv, _⟩ | ⟨g, cap, cur, hv, _⟩
    · exact ⟨_, _, _, hv⟩
    · exact ⟨_, _, _, hv⟩
  go_wp2
  go_ret2
  refine ⟨rfl, .inr ?_, ?_, K2.out _⟩
  · exact Lib.BuilderAt.put (T := 80) (e := 5) hB hb2 (bs' := Lib.strCells s ++ Lib.strCells x) (by simpa [Lib.strCells_length] using hown') (by decide)
  · exact (hb1.grown hgrow (by have := hb1.size; omega) (fun k hk => (hown.lt k hk).1)).setCell (p := ⟨b, 1, none⟩) hB _
theorem bldStr_any (B b : Nat) (s : BA) (w : World) (h : Lib.IsBuilder 80 5 B b (Lib.strCells s) w) (hBw : B ≤ w.heap.size) :
    Calls Try.prog 65 #[.pointer (some ⟨b, 0, none⟩)] w fun e w' => e = .returned (.string s) ∧ Below B w w' := by
  refine (Try.Builder_String_any B b s.data.toList w h hBw).mono ?_
  rintro e w' ⟨rfl, hb⟩
  exact ⟨rfl, hb⟩
end Go.Proofs.Ytfheflihofafdaa.Pt
