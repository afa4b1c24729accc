/- chunk.ends and its iterator, at this translation. -/
import Derived.Test.YtcdnhnbigincpaaRange
import Derived.Test.YtcdnhnbigincpaaMath
import Derived.Test.YtcdnhnbigincpaaProg
import Derived.Lib.Hide
import Derived.KernelRfl
import Derived.Maps.AppendAt
import Derived.OneCell
import Derived.Laws.IdiomStrings
namespace Go.Proofs.Ytcdnhnbigincpaa
open Go.RowKit Go.Shelf
attribute [local go_sem] Oper.semAt_some

/-- A string's bytes. -/
def nats (s : ByteArray) : List Nat := s.data.toList.map UInt8.toNat
theorem nats_length (s : ByteArray) : (nats s).length = s.size := by simp only [nats, List.length_map, Array.length_toList]; rfl
theorem nats_lt (s : ByteArray) : ∀ d ∈ nats s, d < 256 := by
  intro d hd
  obtain ⟨b, _, rfl⟩ := List.mem_map.1 hd
  exact b.toNat_lt

abbrev pv (a b c d : Int) : Value := .agg #[.int .i64 a, .int .i64 b, .int .i64 c, .int .i64 d]
/-- Block B holds the parameters. -/
def PBox (W : World) (B : Nat) (a b c d : Int) : Prop := W.heap[B]? = some (.cells #[.int .i64 a, .int .i64 b, .int .i64 c, .int .i64 d] 23 (0, 0))
theorem PBox.lt {W : World} {B : Nat} {a b c d : Int} (h : PBox W B a b c d) : B < W.heap.size := (Array.getElem?_eq_some_iff.1 h).1
theorem PBox.c0 {W : World} {B : Nat} {a b c d : Int} (h : PBox W B a b c d) : W.cell? ⟨B, 0, none⟩ = some (.int .i64 a) := by simp [World.cell?, show W.heap[B]? = _ from h]
theorem PBox.c1 {W : World} {B : Nat} {a b c d : Int} (h : PBox W B a b c d) : W.cell? ⟨B, 1, none⟩ = some (.int .i64 b) := by simp [World.cell?, show W.heap[B]? = _ from h]
theorem PBox.c2 {W : World} {B : Nat} {a b c d : Int} (h : PBox W B a b c d) : W.cell? ⟨B, 2, none⟩ = some (.int .i64 c) := by simp [World.cell?, show W.heap[B]? = _ from h]
theorem PBox.c3 {W : World} {B : Nat} {a b c d : Int} (h : PBox W B a b c d) : W.cell? ⟨B, 3, none⟩ = some (.int .i64 d) := by simp [World.cell?, show W.heap[B]? = _ from h]
theorem PBox.new (W : World) (a b c d : Int) : PBox (W.alloc (.cells #[.int .i64 a, .int .i64 b, .int .i64 c, .int .i64 d] 23)) W.heap.size a b c d := World.alloc_heap_new W _

/-- What a round is handed: an end. -/
abbrev encE : Nat → Array Value := fun e => #[Value.int .i64 (e : Int)]

/-- Does a hash end a chunk? -/
def tst (b : Nat) (h : Int) : Bool := decide ((bits BinOp.xor IntKind.u32 h (h / 32768)).tmod (2 ^ b % 4294967296) = 0)

set_option maxRecDepth 100000 in
set_option maxHeartbeats 4000000 in
theorem ends1_in (n : Nat) (hn : 1 ≤ n) (bs bp bl : Nat) (s : ByteArray) (p : Pm) (hp : p.Ok) (hs : s.size ≤ 100000) (lv : Int) (hlv : lv = Fc ^ p.window % Md) (w : World)
    (h1 : Boxed w bs 9 (.string s)) (h2 : PBox w bp p.least p.most p.window p.bits) (h3 : Boxed w bl 63 (.int .u32 lv)) :
    SeqX Fence.wide n Try.prog 34 #[.pointer (some ⟨bs, 0, none⟩), .pointer (some ⟨bp, 0, none⟩), .pointer (some ⟨bl, 0, none⟩)] encE (fun k => k = bs ∨ k = bp ∨ k = bl) 0 (ends tst p (nats s)) w := by
  intro l J Jx W hW hJ hJx hY h0
  have k1 : Boxed W bs 9 (.string s) := (hW.block bs h1.lt).trans h1
  have k2 : PBox W bp p.least p.most p.window p.bits := (hW.block bp h2.lt).trans h2
  have k3 : Boxed W bl 63 (.int .u32 lv) := (hW.block bl h3.lt).trans h3
  have HLV := Lib.hid hlv
  have HY := Lib.hid hY
  have HJ := Lib.hid hJ
  clear h1 h2 h3 hW hlv hY hJ hJx
  have hnl := nats_length s
  have HP := Lib.hid hp
  have pw := hp.w1
  have pl := hp.lw
  have pm := hp.ml
  have pM := hp.m
  have pb := hp.b
  clear hp
  refine callsIn_of_wp Try.func34 rfl trivial ?_ rfl
  simp only [Try.ntmps34, List.size_toArray, List.length_cons, List.length_nil, Nat.reduceAdd, Nat.reduceSub, Array.replicate_succ, Array.replicate_zero, List.push_toArray, List.append_toArray, List.nil_append, List.cons_append]
  have c1 := k1.cell
  gi_wp2
  clear c1
  gi_loopw [5, 6, 12] (fun s5 s6 s12 wr => ∃ (i b : Nat) (pre : List Nat) (h : Int), i ≤ s.size ∧ b ≤ i ∧ s12 = .int .i64 i ∧ s5 = .int .i64 b ∧ s6 = .int .u32 h ∧ Hid (h = hw p.window (nats s) i) ∧ Hid (pre ++ go tst p (nats s) (s.size - i) i b = ends tst p (nats s)) ∧
      Boxed wr bs 9 (.string s) ∧ PBox wr bp p.least p.most p.window p.bits ∧ Boxed wr bl 63 (.int .u32 lv) ∧ W.heap.size ≤ wr.heap.size ∧ J pre wr)
    (fun _ _ i _ => s.size - (intOf i).toNat)
  case atStart => exact ⟨0, 0, [], 0, Nat.zero_le _, Nat.le_refl _, rfl, rfl, rfl, (hw_zero _ _).symm, by rw [List.nil_append, Nat.sub_zero, ends, hnl]; rfl, k1, k2, k3, Nat.le_refl _, h0⟩
  case round =>
    obtain ⟨i, b, pre, h, hi, hb, rfl, rfl, rfl, hh, hE, q1, q2, q3, hz, hJs⟩ := hrel
    have c1 := q1.cell
    have p0 := q2.c0
    have p1 := q2.c1
    have p2 := q2.c2
    have p3 := q2.c3
    have c3 := q3.cell
    have hne : ¬ ((2 : Int) ^ p.bits % 4294967296 = 0) := by
      have e : (2 : Int) ^ p.bits = ((2 ^ p.bits : Nat) : Int) := by simp
      have e1 : 1 ≤ 2 ^ p.bits := Nat.one_le_two_pow
      have e2 : 2 ^ p.bits ≤ 2 ^ 16 := Nat.pow_le_pow_right (by omega) pb
      rw [e]
      generalize 2 ^ p.bits = q at e1 e2
      omega
    have hne : ¬ ((2 : Int) ^ p.bits % 4294967296 = 0) := by
      have e : (2 : Int) ^ p.bits = ((2 ^ p.bits : Nat) : Int) := by simp
      have e1 : 1 ≤ 2 ^ p.bits := Nat.one_le_two_pow
      have e2 : 2 ^ p.bits ≤ 2 ^ 16 := Nat.pow_le_pow_right (by omega) pb
      rw [e]
      generalize 2 ^ p.bits = q at e1 e2
      omega
    have hne : ¬ ((2 : Int) ^ p.bits % 4294967296 = 0) := by
      have e : (2 : Int) ^ p.bits = ((2 ^ p.bits : Nat) : Int) := by simp
      have e1 : 1 ≤ 2 ^ p.bits := Nat.one_le_two_pow
      have e2 : 2 ^ p.bits ≤ 2 ^ 16 := Nat.pow_le_pow_right (by omega) pb
      rw [e]
      generalize 2 ^ p.bits = q at e1 e2
      omega
    have hne : ¬ ((2 : Int) ^ p.bits % 4294967296 = 0) := by
      have e : (2 : Int) ^ p.bits = ((2 ^ p.bits : Nat) : Int) := by simp
      have e1 : 1 ≤ 2 ^ p.bits := Nat.one_le_two_pow
      have e2 : 2 ^ p.bits ≤ 2 ^ 16 := Nat.pow_le_pow_right (by omega) pb
      rw [e]
      generalize 2 ^ p.bits = q at e1 e2
      omega
    have hne : ¬ ((2 : Int) ^ p.bits % 4294967296 = 0) := by
      have e : (2 : Int) ^ p.bits = ((2 ^ p.bits : Nat) : Int) := by simp
      have e1 : 1 ≤ 2 ^ p.bits := Nat.one_le_two_pow
      have e2 : 2 ^ p.bits ≤ 2 ^ 16 := Nat.pow_le_pow_right (by omega) pb
      rw [e]
      generalize 2 ^ p.bits = q at e1 e2
      omega
    have hne : ¬ ((2 : Int) ^ p.bits % 4294967296 = 0) := by
      have e : (2 : Int) ^ p.bits = ((2 ^ p.bits : Nat) : Int) := by simp
      have e1 : 1 ≤ 2 ^ p.bits := Nat.one_le_two_pow
      have e2 : 2 ^ p.bits ≤ 2 ^ 16 := Nat.pow_le_pow_right (by omega) pb
      rw [e]
      generalize 2 ^ p.bits = q at e1 e2
      omega
    have hne : ¬ ((2 : Int) ^ p.bits % 4294967296 = 0) := by
      have e : (2 : Int) ^ p.bits = ((2 ^ p.bits : Nat) : Int) := by simp
      have e1 : 1 ≤ 2 ^ p.bits := Nat.one_le_two_pow
      have e2 : 2 ^ p.bits ≤ 2 ^ 16 := Nat.pow_le_pow_right (by omega) pb
      rw [e]
      generalize 2 ^ p.bits = q at e1 e2
      omega
    by_cases hlt : i < s.size
    · have ei : ((i + 1 : Nat) : Int) = (i : Int) + 1 := by omega
      have hn1 : s.size - i = (s.size - (i + 1)) + 1 := by omega
      have eb : ((nats s)[i]'(by omega) : Int) = (s[i].toNat : Int) := by simp [nats]; rfl
      by_cases hw0 : i < p.window
      · obtain ⟨h2, hh2⟩ : ∃ h2, hw p.window (nats s) (i + 1) = h2 := ⟨_, rfl⟩
        have e2 := hw_grow p.window (nats s) i (by omega) hw0
        rw [eb, ← hh.out, hh2] at e2
        have HH2 : Hid (h2 = hw p.window (nats s) (i + 1)) := Lib.hid hh2.symm
        clear hh2 eb hh

        by_cases T : (bits BinOp.xor IntKind.u32 h2 (h2 / 32768)).tmod (2 ^ p.bits % 4294967296) = 0
        all_goals
          by_cases hst : stops tst p (nats s) b (i + 1)
        · have T' : ((bits BinOp.xor IntKind.u32 h2 (h2 / 32768)).tmod (2 ^ p.bits % 4294967296) == 0) = true := by simpa using T
          have hE2 := hE.out
          rw [hn1, go_stop _ _ hst] at hE2
          have HE2 := Lib.hid hE2
          have lin : p.least ≤ i + 1 - b ∨ p.most ≤ i + 1 - b ∨ s.size ≤ i + 1 := by
            rcases hst with ⟨h, _⟩ | h | h
            · exact .inl h
            · exact .inr (.inl h)
            · exact .inr (.inr (by omega))
          clear hE hE2 hst
          obtain ⟨fn, tmps, assign, body, hy, hR⟩ := HY.out pre (i + 1) _ wr HE2.out.symm hJs (by simp; omega)
          simp only [encE, ei] at hy
          gi_wp2
          all_goals first
            | (with_reducible refine hR.mono ?_
               rintro e W3 (⟨rfl, hJ3, hk3⟩ | ⟨rfl, hJx3, _⟩)
               · gi_wp2
                 go_roundw
                 case rel => exact ⟨i + 1, i + 1, pre ++ [i + 1], h2, by omega, Nat.le_refl _, by rw [ei], by rw [ei], rfl, HH2, by rw [List.append_assoc]; exact HE2, (hk3.2 bs (.inl (.inl rfl))).trans q1, (hk3.2 bp (.inl (.inr (.inl rfl)))).trans q2, (hk3.2 bl (.inl (.inr (.inr rfl)))).trans q3, Nat.le_trans hz hk3.1, hJ3⟩
                 case measure => simp [intOf]; omega
               · gi_wp2
                 refine bodyPost_ret (results_none rfl _ _ _) rfl ?_
                 exact ⟨⟨_, rfl⟩, .inr ⟨_, hJx3⟩⟩)
            | (exfalso; first | omega | contradiction | (revert T; simp; assumption) | (exact absurd (by assumption) T))
        · have T' : ((bits BinOp.xor IntKind.u32 h2 (h2 / 32768)).tmod (2 ^ p.bits % 4294967296) == 0) = true := by simpa using T
          have hE2 := hE.out
          rw [hn1, go_on _ _ hst] at hE2
          have HE2 := Lib.hid hE2
          have lin : ¬ (p.least ≤ i + 1 - b) ∧ ¬ (p.most ≤ i + 1 - b) ∧ ¬ (s.size ≤ i + 1) := by
            refine ⟨fun h => hst (.inl ⟨h, ?_⟩), fun h => hst (.inr (.inl h)), fun h => hst (.inr (.inr (by omega)))⟩
            rw [← HH2.out]; exact decide_eq_true T
          clear hE hE2 hst
          gi_wp2
          all_goals first
            | (exfalso; first | omega | contradiction | (revert T; simp; assumption) | (exact absurd (by assumption) T))
            | (go_roundw
               case rel => exact ⟨i + 1, b, pre, h2, by omega, by omega, by rw [ei], rfl, rfl, HH2, HE2, q1, q2, q3, hz, hJs⟩
               case measure => simp [intOf]; omega)
        · have T' : ((bits BinOp.xor IntKind.u32 h2 (h2 / 32768)).tmod (2 ^ p.bits % 4294967296) == 0) = false := by simpa using T
          have hE2 := hE.out
          rw [hn1, go_stop _ _ hst] at hE2
          have HE2 := Lib.hid hE2
          have lin : p.most ≤ i + 1 - b ∨ s.size ≤ i + 1 := by
            rcases hst with ⟨_, h⟩ | h | h
            · rw [← HH2.out] at h; exact absurd (of_decide_eq_true h) T
            · exact .inl h
            · exact .inr (by omega)
          clear hE hE2 hst
          obtain ⟨fn, tmps, assign, body, hy, hR⟩ := HY.out pre (i + 1) _ wr HE2.out.symm hJs (by simp; omega)
          simp only [encE, ei] at hy
          gi_wp2
          all_goals first
            | (with_reducible refine hR.mono ?_
               rintro e W3 (⟨rfl, hJ3, hk3⟩ | ⟨rfl, hJx3, _⟩)
               · gi_wp2
                 go_roundw
                 case rel => exact ⟨i + 1, i + 1, pre ++ [i + 1], h2, by omega, Nat.le_refl _, by rw [ei], by rw [ei], rfl, HH2, by rw [List.append_assoc]; exact HE2, (hk3.2 bs (.inl (.inl rfl))).trans q1, (hk3.2 bp (.inl (.inr (.inl rfl)))).trans q2, (hk3.2 bl (.inl (.inr (.inr rfl)))).trans q3, Nat.le_trans hz hk3.1, hJ3⟩
                 case measure => simp [intOf]; omega
               · gi_wp2
                 refine bodyPost_ret (results_none rfl _ _ _) rfl ?_
                 exact ⟨⟨_, rfl⟩, .inr ⟨_, hJx3⟩⟩)
            | (exfalso; first | omega | contradiction | (revert T; simp; assumption) | (exact absurd (by assumption) T))
        · have T' : ((bits BinOp.xor IntKind.u32 h2 (h2 / 32768)).tmod (2 ^ p.bits % 4294967296) == 0) = false := by simpa using T
          have hE2 := hE.out
          rw [hn1, go_on _ _ hst] at hE2
          have HE2 := Lib.hid hE2
          have lin : ¬ (p.most ≤ i + 1 - b) ∧ ¬ (s.size ≤ i + 1) :=
            ⟨fun h => hst (.inr (.inl h)), fun h => hst (.inr (.inr (by omega)))⟩
          clear hE hE2 hst
          gi_wp2
          all_goals first
            | (exfalso; first | omega | contradiction | (revert T; simp; assumption) | (exact absurd (by assumption) T))
            | (go_roundw
               case rel => exact ⟨i + 1, b, pre, h2, by omega, by omega, by rw [ei], rfl, rfl, HH2, HE2, q1, q2, q3, hz, hJs⟩
               case measure => simp [intOf]; omega)
      · obtain ⟨h2, hh2⟩ : ∃ h2, hw p.window (nats s) (i + 1) = h2 := ⟨_, rfl⟩
        obtain ⟨h1, hh1⟩ : ∃ h1, (h * 16777619 + (s[i].toNat : Int) + 1) % 4294967296 = h1 := ⟨_, rfl⟩
        obtain ⟨j, hj0⟩ : ∃ j, i - p.window = j := ⟨_, rfl⟩
        have hjl : j < s.size := by omega
        have hj : (i : Int) - (p.window : Int) = j := by omega
        have eb2 : ((nats s)[i - p.window]'(by omega) : Int) = (s[j].toNat : Int) := by subst hj0; simp [nats]; rfl
        have e2 := hw_slide p.window (nats s) i (by omega) (by omega) pw lv HLV.out
        rw [eb, ← hh.out, hh2, hh1, eb2] at e2
        have HH2 : Hid (h2 = hw p.window (nats s) (i + 1)) := Lib.hid hh2.symm
        have e3 : ((s[j].toNat : Int) + 1) % 4294967296 * lv % 4294967296 = (((s[j].toNat : Int) + 1) * lv) % 4294967296 := by
          rw [Int.mul_emod, Int.emod_emod, ← Int.mul_emod]
        have e4 : ((h * 16777619 + (s[i].toNat : Int) + 1) % 4294967296 - ((s[j].toNat : Int) + 1) % 4294967296 * lv % 4294967296) % 4294967296 = h2 := by
          rw [e3, hh1, ← e2]
          generalize ((s[j].toNat : Int) + 1) * lv = y
          omega
        have E4 := Lib.hid e4
        clear hh2 eb eb2 hh hj0 hh1 e2 e3 e4
        gi_wp2
        gi_region
        have e4 := E4.out
        simp only [e4]
        clear e4 E4
        have hJ2 := HJ.out _ _ _ hJs (RelK.drew _ _ wr)
        have q1 : Boxed wr.drew bs 9 (.string s) := q1
        have q2 : PBox wr.drew bp p.least p.most p.window p.bits := q2
        have q3 : Boxed wr.drew bl 63 (.int .u32 lv) := q3
        have hz : W.heap.size ≤ wr.drew.heap.size := hz

        by_cases T : (bits BinOp.xor IntKind.u32 h2 (h2 / 32768)).tmod (2 ^ p.bits % 4294967296) = 0
        all_goals
          by_cases hst : stops tst p (nats s) b (i + 1)
        · have T' : ((bits BinOp.xor IntKind.u32 h2 (h2 / 32768)).tmod (2 ^ p.bits % 4294967296) == 0) = true := by simpa using T
          have hE2 := hE.out
          rw [hn1, go_stop _ _ hst] at hE2
          have HE2 := Lib.hid hE2
          have lin : p.least ≤ i + 1 - b ∨ p.most ≤ i + 1 - b ∨ s.size ≤ i + 1 := by
            rcases hst with ⟨h, _⟩ | h | h
            · exact .inl h
            · exact .inr (.inl h)
            · exact .inr (.inr (by omega))
          clear hE hE2 hst
          obtain ⟨fn, tmps, assign, body, hy, hR⟩ := HY.out pre (i + 1) _ wr.drew HE2.out.symm hJ2 (by simp; omega)
          simp only [encE, ei] at hy
          gi_wp2
          all_goals first
            | (with_reducible refine hR.mono ?_
               rintro e W3 (⟨rfl, hJ3, hk3⟩ | ⟨rfl, hJx3, _⟩)
               · gi_wp2
                 go_roundw
                 case rel => exact ⟨i + 1, i + 1, pre ++ [i + 1], h2, by omega, Nat.le_refl _, by rw [ei], by rw [ei], rfl, HH2, by rw [List.append_assoc]; exact HE2, (hk3.2 bs (.inl (.inl rfl))).trans q1, (hk3.2 bp (.inl (.inr (.inl rfl)))).trans q2, (hk3.2 bl (.inl (.inr (.inr rfl)))).trans q3, Nat.le_trans hz hk3.1, hJ3⟩
                 case measure => simp [intOf]; omega
               · gi_wp2
                 refine bodyPost_ret (results_none rfl _ _ _) rfl ?_
                 exact ⟨⟨_, rfl⟩, .inr ⟨_, hJx3⟩⟩)
            | (exfalso; first | omega | contradiction | (revert T; simp; assumption) | (exact absurd (by assumption) T))
        · have T' : ((bits BinOp.xor IntKind.u32 h2 (h2 / 32768)).tmod (2 ^ p.bits % 4294967296) == 0) = true := by simpa using T
          have hE2 := hE.out
          rw [hn1, go_on _ _ hst] at hE2
          have HE2 := Lib.hid hE2
          have lin : ¬ (p.least ≤ i + 1 - b) ∧ ¬ (p.most ≤ i + 1 - b) ∧ ¬ (s.size ≤ i + 1) := by
            refine ⟨fun h => hst (.inl ⟨h, ?_⟩), fun h => hst (.inr (.inl h)), fun h => hst (.inr (.inr (by omega)))⟩
            rw [← HH2.out]; exact decide_eq_true T
          clear hE hE2 hst
          gi_wp2
          all_goals first
            | (exfalso; first | omega | contradiction | (revert T; simp; assumption) | (exact absurd (by assumption) T))
            | (go_roundw
               case rel => exact ⟨i + 1, b, pre, h2, by omega, by omega, by rw [ei], rfl, rfl, HH2, HE2, q1, q2, q3, hz, hJ2⟩
               case measure => simp [intOf]; omega)
        · have T' : ((bits BinOp.xor IntKind.u32 h2 (h2 / 32768)).tmod (2 ^ p.bits % 4294967296) == 0) = false := by simpa using T
          have hE2 := hE.out
          rw [hn1, go_stop _ _ hst] at hE2
          have HE2 := Lib.hid hE2
          have lin : p.most ≤ i + 1 - b ∨ s.size ≤ i + 1 := by
            rcases hst with ⟨_, h⟩ | h | h
            · rw [← HH2.out] at h; exact absurd (of_decide_eq_true h) T
            · exact .inl h
            · exact .inr (by omega)
          clear hE hE2 hst
          obtain ⟨fn, tmps, assign, body, hy, hR⟩ := HY.out pre (i + 1) _ wr.drew HE2.out.symm hJ2 (by simp; omega)
          simp only [encE, ei] at hy
          gi_wp2
          all_goals first
            | (with_reducible refine hR.mono ?_
               rintro e W3 (⟨rfl, hJ3, hk3⟩ | ⟨rfl, hJx3, _⟩)
               · gi_wp2
                 go_roundw
                 case rel => exact ⟨i + 1, i + 1, pre ++ [i + 1], h2, by omega, Nat.le_refl _, by rw [ei], by rw [ei], rfl, HH2, by rw [List.append_assoc]; exact HE2, (hk3.2 bs (.inl (.inl rfl))).trans q1, (hk3.2 bp (.inl (.inr (.inl rfl)))).trans q2, (hk3.2 bl (.inl (.inr (.inr rfl)))).trans q3, Nat.le_trans hz hk3.1, hJ3⟩
                 case measure => simp [intOf]; omega
               · gi_wp2
                 refine bodyPost_ret (results_none rfl _ _ _) rfl ?_
                 exact ⟨⟨_, rfl⟩, .inr ⟨_, hJx3⟩⟩)
            | (exfalso; first | omega | contradiction | (revert T; simp; assumption) | (exact absurd (by assumption) T))
        · have T' : ((bits BinOp.xor IntKind.u32 h2 (h2 / 32768)).tmod (2 ^ p.bits % 4294967296) == 0) = false := by simpa using T
          have hE2 := hE.out
          rw [hn1, go_on _ _ hst] at hE2
          have HE2 := Lib.hid hE2
          have lin : ¬ (p.most ≤ i + 1 - b) ∧ ¬ (s.size ≤ i + 1) :=
            ⟨fun h => hst (.inr (.inl h)), fun h => hst (.inr (.inr (by omega)))⟩
          clear hE hE2 hst
          gi_wp2
          all_goals first
            | (exfalso; first | omega | contradiction | (revert T; simp; assumption) | (exact absurd (by assumption) T))
            | (go_roundw
               case rel => exact ⟨i + 1, b, pre, h2, by omega, by omega, by rw [ei], rfl, rfl, HH2, HE2, q1, q2, q3, hz, hJ2⟩
               case measure => simp [intOf]; omega)
    · have hE2 := hE.out
      rw [show s.size - i = 0 by omega] at hE2
      have HE2 : Hid (pre = ends tst p (nats s)) := Lib.hid (by rw [← hE2, go, List.append_nil])
      clear hE hE2
      gi_wp2
      go_end0
      exact ⟨⟨_, rfl⟩, .inl (by rw [← HE2.out]; exact hJs)⟩
end Go.Proofs.Ytcdnhnbigincpaa
