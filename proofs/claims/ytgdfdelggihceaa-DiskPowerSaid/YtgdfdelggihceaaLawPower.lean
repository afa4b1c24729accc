/- For every size, list of acts and number DiskPower returns true and leaves its arguments as they were: the operations are counted down, and when none is left nothing is taken any more. No condition. -/
import Derived.Test.YtgdfdelggihceaaDo
namespace Go.Proofs.Ytgdfdelggihceaa
open Go.ChangeShapes Go.WideShapes Go.ChangeAt Go.RowKit

theorem act_cells {H : Type} {enc : TypeId × Value → H} {W : World} {b0 : Nat} {spare : Nat → Bool} {held : Bool} {fuel : Nat} {cs : List Value} {x : DataW H × List MemPlace}
    (hf : DataW.trod enc Try.prog W b0 spare held fuel 49 cs = some x) : ∃ p : Bool × Int × ByteArray, cs = [.bool p.1, .int .i64 p.2.1, .string p.2.2] ∧ p.2.2.size ≤ maxLen := by
  cases fuel with
  | zero => simp [DataW.trod] at hf
  | succ m =>
    unfold DataW.trod at hf
    rw [Try.underlying49] at hf
    simp only [cells49] at hf
    split at hf
    · rename_i hl
      obtain ⟨c0, c1, c2, rfl⟩ : ∃ c0 c1 c2, cs = [c0, c1, c2] := by
        match cs, hl with
        | [a, b, c], _ => exact ⟨a, b, c, rfl⟩
      simp [cells9, cells3, cells4, Option.bind_eq_some_iff] at hf
      obtain ⟨_, _, h0, _, ⟨_, _, h1, _, ⟨_, _, h2, _⟩, _⟩, _⟩ := hf
      obtain ⟨b, e0, _⟩ := DataW.trod_bool Try.underlying4 h0
      obtain ⟨n, e1, _, _⟩ := DataW.trod_int Try.underlying3 h1
      obtain ⟨s, e2, _, hs⟩ := DataW.trod_string Try.underlying9 h2
      simp only [List.cons.injEq, and_true] at e0 e1 e2
      subst e0 e1 e2
      exact ⟨(b, n, s), rfl, hs⟩
    · cases hf
/-- Acts that came in. -/
theorem open_acts {H : Type} {enc : TypeId × Value → H} {W : World} {b0 : Nat} {held : Bool} {v : Value} {d : DataW H} {p : List MemPlace} {r : Reach} {base : Nat} (hv : Value.okWide Try.prog W r base 46 v)
    (h : DataW.Trod enc Try.prog W b0 (fun _ => true) held 46 v d p) : ∃ L, IsActs W v L ∧ ∀ p ∈ L, p.2.2.size ≤ maxLen := by
  obtain ⟨a0, len0, cap0, rfl⟩ := okWide_slice Try.underlying46 hv
  obtain ⟨fuel, hf⟩ := h
  rcases DataW.trod_slice Try.underlying46 hf with ⟨e, _⟩ | ⟨a, len, cap, elems, rest, m, _, e, _, hb0, hl, hm, hlen, hel, _, _⟩
  · simp [Value.cells] at e
    obtain ⟨rfl, rfl, rfl⟩ := e
    exact ⟨[], isActs_nil W, by simp⟩
  · simp [Value.cells] at e
    obtain ⟨rfl, rfl, rfl⟩ := e
    have each : ∀ i, i < len0 → ∃ p : Bool × Int × ByteArray, W.cells? b0 (a.add (i * 3)) 3 = some [.bool p.1, .int .i64 p.2.1, .string p.2.2] ∧ p.2.2.size ≤ maxLen := by
      intro i hi
      have h := hel i hi
      rw [cells49, List.getElem?_eq_getElem (by omega)] at h
      obtain ⟨cs2, h1, h2⟩ := Option.bind_eq_some_iff.1 h
      obtain ⟨p, rfl, hp⟩ := act_cells h2
      exact ⟨p, h1, hp⟩
    obtain ⟨f, hfn⟩ := Go.Deep.choose_lt each
    refine ⟨(List.range len0).map f, ⟨some a, cap0, by simp, by simp; omega, by simpa using hl, ?_⟩, fun p hp => by
      obtain ⟨i, hi, rfl⟩ := List.mem_map.1 hp
      exact (hfn i (by simpa using hi)).2⟩
    by_cases h0 : len0 = 0
    · left; simp [h0]
    · right
      have hat : ∀ i, i < len0 → W.cell? (a.add (i * 3)) = some (.bool (f i).1) ∧ W.cell? (a.add (i * 3 + 1)) = some (.int .i64 (f i).2.1) ∧ W.cell? (a.add (i * 3 + 2)) = some (.string (f i).2.2) := by
        intro i hi
        have h1 := (World.cells?_some (hfn i hi).1).2.2
        have c0 := h1 0 (by omega)
        have c1 := h1 1 (by omega)
        have c2 := h1 2 (by omega)
        rw [Go.Deep.add_add] at c0 c1 c2
        exact ⟨by simpa using c0, by simpa using c1, by simpa using c2⟩
      have hblk := World.cells?_block (hfn 0 (by omega)).1 (by omega)
      obtain ⟨b, off, spot⟩ := a
      have hs := World.cell?_spot (hat 0 (by omega)).1
      simp [Addr.add] at hs
      subst hs
      refine ⟨b, off, rfl, by simpa [Addr.add] using hblk, fun j hj => ?_⟩
      have hj2 : j < len0 := by simpa using hj
      obtain ⟨c0, c1, c2⟩ := hat j hj2
      rw [Addr.add_lit] at c0 c1 c2
      simp only [List.getElem_map, List.getElem_range]
      exact ⟨c0, c1, c2⟩
theorem FreeD.left {lo hi : Nat} {w : World} {vs vp : Value} {D : Dk} (h : FreeD lo hi w (dv D.size vs vp D.left) D) (l : Int) : FreeD lo hi w (dv D.size vs vp l) ⟨D.size, D.secs, D.pend, l⟩ := fun W' s1 s2 => by
  obtain ⟨vs', vp', e, i1, i2⟩ := h W' s1 s2
  cases e
  exact ⟨_, _, rfl, i1, i2⟩
theorem cur_size (z i : Int) (l : List (Int × ByteArray)) : ∀ x : ByteArray, (x.size : Int) = z → (∀ p ∈ l, (p.2.size : Int) = z) → ((curAt i x l).size : Int) = z := by
  induction l with
  | nil => intro x hx _; exact hx
  | cons p l ih =>
    intro x hx hp
    show ((curAt i (if p.1 = i then p.2 else x) l).size : Int) = z
    refine ih _ ?_ fun q hq => hp q (List.mem_cons_of_mem _ hq)
    split
    · exact hp p List.mem_cons_self
    · exact hx
def D3 (Z : Nat) (n : Int) : Dk := ⟨Z, List.replicate 3 (zeros Z), [], n⟩
theorem D3_ok (Z : Nat) (n : Int) (h1 : 1 ≤ Z) (h2 : Z ≤ 512) (hn : -1 ≤ n) : (D3 Z n).Ok :=
  ⟨by show (1 : Int) ≤ (Z : Int); omega, by show (Z : Int) ≤ 512; omega, by show 1 ≤ 3; omega, by show 3 ≤ 1000; omega,
    fun x hx => by
      have : x = zeros Z := List.eq_of_mem_replicate (show x ∈ List.replicate 3 (zeros Z) from hx)
      rw [this, zeros_size]; rfl,
    (fun p hp => by cases hp), hn⟩

set_option maxRecDepth 100000 in
set_option maxHeartbeats 8000000 in
theorem power_any (a : Nat) (ha : a < 256) (c : Nat) (hc : c < 256) (vL : Value) (L : List (Bool × Int × ByteArray)) (w : World) (hL : IsActs w vL L) (hs : ∀ p ∈ L, p.2.2.size ≤ maxLen) :
    Calls Try.prog 9 #[.int .u8 a, vL, .int .u8 c] w fun e w' => e = .returned (.bool true) ∧ Below w.heap.size w w' := by
  have HL0 := Lib.hid hL
  have HSZ := Lib.hid hs
  obtain ⟨aL, capL, rfl, _, _, hcL⟩ := hL
  have HL := Lib.hid hcL
  clear hcL hs
  have hm := Nat.mod_lt a (show 0 < 40 by omega)
  obtain ⟨r, hr⟩ : ∃ r, a % 40 = r := ⟨_, rfl⟩
  rw [hr] at hm
  have t1 : (a : Int).tmod 40 = (r : Int) := by rw [← hr]; exact (Int.ofNat_tmod a 40).symm
  have hm2 := Nat.mod_lt c (show 0 < 13 by omega)
  obtain ⟨n, hn⟩ : ∃ n, c % 13 = n := ⟨_, rfl⟩
  rw [hn] at hm2
  have t2 : (c : Int).tmod 13 = (n : Int) := by rw [← hn]; exact (Int.ofNat_tmod c 13).symm
  obtain ⟨Z, hZ⟩ : ∃ Z : Nat, 1 + r = Z := ⟨_, rfl⟩
  have eZ : (1 : Int) + (r : Int) = (Z : Int) := by omega
  have z1 : 1 ≤ Z := by omega
  have z2 : Z ≤ 40 := by omega
  clear hr hn hZ
  have T2 := Lib.hid t2
  clear t2
  go_enter Try.func9, Try.ntmps9
  go_wp2_with fail
  ((with_reducible refine (short_any _ L _ HL0.out HSZ.out).mono ?_); rintro e w1 ⟨b, rfl, hb12, hb1⟩)
  cases b with
  | false =>
    go_wp2_with fail
    ((with_reducible refine (awake_any _).mono ?_); rintro e w2 ⟨rfl, hb2⟩)
    go_wp2
    go_ret
    exact ⟨rfl, hb1.trans (hb2.mono hb1.size)⟩
  | true =>
    have l12 := hb12 rfl
    clear hb12
    go_wp2_with fail
    refine (new_ok 3 Z (by omega) (by omega) z1 (by omega) _).mono ?_
    rintro e w2 ⟨v2, rfl, f2, hb2⟩
    have d2 : IsDisk w2 v2 (D3 Z (-1)) := f2.disk
    have F2 := free_old d2 (w2.heap.size + 1)
    obtain ⟨_, _, rfl, ⟨a2, cap2, rfl, _, _, _⟩, ⟨b2, cap2', rfl, _, _, _⟩⟩ := d2
    have B2 := hb1.trans (hb2.mono hb1.size)
    have al := (Below.refl w2.heap.size w2).alloc (Nat.le_refl _) (.cells #[.int .i64 (D3 Z (-1)).size, .slice a2 (D3 Z (-1)).secs.length cap2, .slice b2 (D3 Z (-1)).pend.length cap2', .int .i64 (D3 Z (-1)).left] 26)
    have B3 := B2.alloc B2.size (.cells #[.int .i64 (D3 Z (-1)).size, .slice a2 (D3 Z (-1)).secs.length cap2, .slice b2 (D3 Z (-1)).pend.length cap2', .int .i64 (D3 Z (-1)).left] 26)
    have K3 := Lib.hid (Bx.fresh (D3 Z (-1)).size (.slice a2 (D3 Z (-1)).secs.length cap2) (.slice b2 (D3 Z (-1)).pend.length cap2') (D3 Z (-1)).left w2)
    have F3 := Lib.hid (F2.below al (Nat.le_refl _))
    have lt2 := B2.size
    clear f2 hb1 hb2 F2 al t1 eZ B2
    go_upto_region 6 with fail
    generalize w2.alloc (.cells #[.int .i64 (D3 Z (-1)).size, .slice a2 (D3 Z (-1)).secs.length cap2, .slice b2 (D3 Z (-1)).pend.length cap2', .int .i64 (D3 Z (-1)).left] 26) = w3 at B3 K3 F3 ⊢
    have t2 := T2.out
    obtain ⟨q0, q1, q2, q3, f0, f1, f2, f3, qlt⟩ := K3.out
    go_upto_region 8 with fail
    have K4 := Lib.hid (K3.out.setL n)
    have B4 := B3.setCell (p := ⟨w2.heap.size, 3, none⟩) lt2 (.int .i64 n)
    have F4 : Hid (FreeD w2.heap.size (w2.heap.size + 1) (w3.setCell ⟨w2.heap.size, 3, none⟩ (.int .i64 n)) (dv (D3 Z n).size (.slice a2 (D3 Z n).secs.length cap2) (.slice b2 (D3 Z n).pend.length cap2') (D3 Z n).left) (D3 Z n)) := Lib.hid ((F3.out.set (N := w2.heap.size) (Nat.le_refl _) (Nat.lt_succ_self _) 3 (.int .i64 n)).left n)
    clear q0 q1 q2 q3 f0 f1 f2 f3 qlt t2 K3 B3 F3
    generalize w3.setCell ⟨w2.heap.size, 3, none⟩ (.int .i64 n) = w4 at B4 K4 F4 ⊢
    go_wp2
    go_loopw [10, 12, 13, 14, 40] (fun s10 _ _ _ s40 wr => ∃ (j u : Nat) (D : Dk) (aS : Option Addr) (cS : Nat) (aW : Option Addr) (cW : Nat), j ≤ L.length ∧ s40 = .int .i64 j ∧ s10 = .int .i64 u ∧ u ≤ n ∧ Hid (D.Ok ∧ D.size = Z ∧ D.secs.length = 3 ∧ D.left = (n : Int) - u ∧ D.pend.length ≤ j) ∧
      Hid (Bx w2.heap.size D.size (.slice aS D.secs.length cS) (.slice aW D.pend.length cW) D.left wr) ∧ Hid (FreeD w2.heap.size (w2.heap.size + 1) wr (dv D.size (.slice aS D.secs.length cS) (.slice aW D.pend.length cW) D.left) D) ∧ Below w.heap.size w wr) (fun _ _ _ _ i _ => L.length - (intOf i).toNat)
    case atStart => exact ⟨0, 0, D3 Z n, a2, cap2, b2, cap2', Nat.zero_le _, rfl, rfl, Nat.zero_le _, Lib.hid ⟨D3_ok Z n z1 (by omega) (by omega), rfl, rfl, by show (n : Int) = (n : Int) - ((0 : Nat) : Int); omega, Nat.le_refl _⟩, K4, F4, B4⟩
    case round =>
      obtain ⟨j, u, D, aS, cS, aW, cW, hj, rfl, rfl, hu, hD, hK, hF, hBr⟩ := hrel
      have ltN := hK.out.lt
      by_cases hlt : j < L.length
      · obtain ⟨b1, o1, rfl, hb1, hcell⟩ := HL.out.resolve_left (by intro e; rw [e] at hlt; simp at hlt)
        obtain ⟨e0, e1, e2⟩ := hcell j hlt
        have p0 := (hBr.cell (p := ⟨b1, o1 + j * 3, none⟩) hb1).trans e0
        have p1 := (hBr.cell (p := ⟨b1, o1 + j * 3 + 1, none⟩) hb1).trans e1
        have p2 := (hBr.cell (p := ⟨b1, o1 + j * 3 + 2, none⟩) hb1).trans e2
        have xm := HSZ.out _ (List.getElem_mem hlt)
        generalize L[j] = q at p0 p1 p2 xm
        obtain ⟨sy, sx, x⟩ := q
        simp only at p0 p1 p2 xm
        have HX := Lib.hid xm
        clear hcell e0 e1 e2 xm
        have okD := hD.out.1
        have hhi : D.left ≤ 9223372036854775807 := by rw [hD.out.2.2.2.1]; omega
        have hp5 : D.pend.length ≤ 100000 := by have := hD.out.2.2.2.2; omega
        have alx := (Below.refl wr.heap.size wr).alloc (Nat.le_refl _) (.cells #[.bool sy, .int .i64 sx, .string x] 49)
        have Bx5 := hBr.alloc hBr.size (.cells #[.bool sy, .int .i64 sx, .string x] 49)
        have K5 := Lib.hid (hK.out.alloc (.cells #[.bool sy, .int .i64 sx, .string x] 49))
        have F5 := Lib.hid (hF.out.below alx (Nat.le_refl _))
        have n0 : (wr.alloc (.cells #[.bool sy, .int .i64 sx, .string x] 49)).cell? ⟨wr.heap.size, 0, none⟩ = some (.bool sy) := by simp [World.cell?_alloc_new]
        have n1 : (wr.alloc (.cells #[.bool sy, .int .i64 sx, .string x] 49)).cell? ⟨wr.heap.size, 1, none⟩ = some (.int .i64 sx) := by simp [World.cell?_alloc_new]
        have n2 : (wr.alloc (.cells #[.bool sy, .int .i64 sx, .string x] 49)).cell? ⟨wr.heap.size, 2, none⟩ = some (.string x) := by simp [World.cell?_alloc_new]
        have N0 := Lib.hid n0
        have N1 := Lib.hid n1
        have N2 := Lib.hid n2
        clear n0 n1 n2
        go_upto_region 11 with fail
        generalize wr.alloc (.cells #[.bool sy, .int .i64 sx, .string x] 49) = w5 at alx Bx5 K5 F5 N0 N1 N2 ⊢
        have n0 := N0.out
        have n1 := N1.out
        have n2 := N2.out
        have szr := alx.size
        obtain ⟨q0, q1, q2, q3, f0, f1, f2, f3, qlt⟩ := K5.out
        clear p0 p1 p2 alx hhi
        go_wp2_with fail
        ((with_reducible refine (do_any D okD (by rw [hD.out.2.2.2.1]; omega) hp5 _ _ F5.out.disk sy sx x HX.out).mono ?_); rintro e w6 ⟨v6, D', cc, rfl, kp, d6, hb6, hcs⟩)
        have F6 := kp _ _ K5.out.lt F5.out
        obtain ⟨_, _, rfl, ⟨a6, cap6, rfl, _, _, _⟩, ⟨b6, cap6', rfl, _, _, _⟩⟩ := F6.disk
        have al6 := (Below.refl w6.heap.size w6).alloc (Nat.le_refl _) (.cells #[.int .i64 D'.size, .slice a6 D'.secs.length cap6, .slice b6 D'.pend.length cap6', .int .i64 D'.left] 26)
        have B6 := Bx5.trans (hb6.mono Bx5.size)
        have B7 := B6.alloc B6.size (.cells #[.int .i64 D'.size, .slice a6 D'.secs.length cap6, .slice b6 D'.pend.length cap6', .int .i64 D'.left] 26)
        have K7 := Lib.hid ((K5.out.below hb6 K5.out.lt).alloc (.cells #[.int .i64 D'.size, .slice a6 D'.secs.length cap6, .slice b6 D'.pend.length cap6', .int .i64 D'.left] 26))
        have X7 := Lib.hid (Bx.fresh D'.size (.slice a6 D'.secs.length cap6) (.slice b6 D'.pend.length cap6') D'.left w6)
        have F7 := Lib.hid (F6.below al6 (Nat.le_refl _))
        have D7 := Lib.hid ((F5.out.below hb6 (Nat.le_refl _)).below al6 (Nat.le_refl _))
        have HCS := Lib.hid hcs
        clear q0 q1 q2 q3 f0 f1 f2 f3 qlt n0 n1 n2 N0 N1 N2 kp d6 hb6 hcs F6 al6 B6 K5 F5 Bx5 szr hK hF hBr
        go_upto_region 12 with fail
        generalize w6.alloc (.cells #[.int .i64 D'.size, .slice a6 D'.secs.length cap6, .slice b6 D'.pend.length cap6', .int .i64 D'.left] 26) = w7 at B7 K7 X7 F7 D7 ⊢
        rcases HCS.out with ⟨rfl, h0, ok', e1, e2, e3, e4⟩ | ⟨rfl, h0, eD⟩ | rfl | rfl
        · have hun : u < n := by rw [hD.out.2.2.2.1] at h0; omega
          have gl : D'.left = (n : Int) - (u + 1 : Nat) := by rw [e3, hD.out.2.2.2.1]; unfold lessI; rw [if_pos (by omega)]; omega
          have hN : Hid (D'.Ok ∧ D'.size = Z ∧ D'.secs.length = 3 ∧ D'.left = (n : Int) - (u + 1 : Nat) ∧ D'.pend.length ≤ j + 1) := Lib.hid ⟨ok', by rw [e1, hD.out.2.1], by rw [e2, hD.out.2.2.1], gl, by have := hD.out.2.2.2.2; omega⟩
          have gneq : (D'.left != (n : Int) - ((u : Int) + 1)) = false := by rw [gl]; simp
          clear e1 e2 e3 e4 gl h0
          obtain ⟨q0, q1, q2, q3, f0, f1, f2, f3, qlt⟩ := K7.out
          obtain ⟨r0, r1, r2, r3, j0, j1, j2, j3, rlt⟩ := X7.out
          have K8 := Lib.hid (K7.out.set4 D'.size (.slice a6 D'.secs.length cap6) (.slice b6 D'.pend.length cap6') D'.left)
          have F8 := Lib.hid (F7.out.set4 (N := w2.heap.size) (Nat.le_refl _) (Nat.lt_succ_self _) (.int .i64 D'.size) (.slice a6 D'.secs.length cap6) (.slice b6 D'.pend.length cap6') (.int .i64 D'.left))
          have B8 := below_set4 B7 (g := w2.heap.size) lt2 (.int .i64 D'.size) (.slice a6 D'.secs.length cap6) (.slice b6 D'.pend.length cap6') (.int .i64 D'.left)
          go_wp2
          go_roundw
          case rel => exact ⟨j + 1, u + 1, D', a6, cap6, b6, cap6', by omega, by go_num, by go_num, hun, hN, K8, F8, B8⟩
          case measure => simp [intOf]; omega
        · obtain rfl : D = D' := eD.symm
          have gun : ((u : Int) != (n : Int)) = false := by have := hD.out.2.2.2.1; simp; omega
          have hN : Hid (D.Ok ∧ D.size = Z ∧ D.secs.length = 3 ∧ D.left = (n : Int) - u ∧ D.pend.length ≤ j + 1) := Lib.hid ⟨hD.out.1, hD.out.2.1, hD.out.2.2.1, hD.out.2.2.2.1, by have := hD.out.2.2.2.2; omega⟩
          clear h0 eD
          obtain ⟨q0, q1, q2, q3, f0, f1, f2, f3, qlt⟩ := K7.out
          obtain ⟨r0, r1, r2, r3, j0, j1, j2, j3, rlt⟩ := X7.out
          go_wp2_with fail
          ((with_reducible refine (same_any D _ _ _ F7.out.disk D7.out.disk).mono ?_); rintro e w8 ⟨rfl, hb8⟩)
          have B8 := B7.trans (hb8.mono B7.size)
          have K8 := Lib.hid (K7.out.below hb8 K7.out.lt)
          have D8 := Lib.hid (D7.out.below hb8 (Nat.le_refl _))
          clear q0 q1 q2 q3 f0 f1 f2 f3 qlt r0 r1 r2 r3 j0 j1 j2 j3 rlt gun hb8
          go_wp2
          go_roundw
          case rel => exact ⟨j + 1, u, D, aS, cS, aW, cW, by omega, by go_num, rfl, hu, hN, K8, D8, B8⟩
          case measure => simp [intOf]; omega
        all_goals
          have hN : Hid (D.Ok ∧ D.size = Z ∧ D.secs.length = 3 ∧ D.left = (n : Int) - u ∧ D.pend.length ≤ j + 1) := Lib.hid ⟨hD.out.1, hD.out.2.1, hD.out.2.2.1, hD.out.2.2.2.1, by have := hD.out.2.2.2.2; omega⟩
          go_wp2
          go_roundw
          case rel => exact ⟨j + 1, u, D, aS, cS, aW, cW, by omega, by go_num, rfl, hu, hN, K7, D7, B7⟩
          case measure => simp [intOf]; omega
      · by_cases hun : u < n
        · go_wp2_with fail
          ((with_reducible refine (awake_any _).mono ?_); rintro e wz ⟨rfl, hbz⟩)
          go_wp2
          go_ret
          exact ⟨rfl, hBr.trans (hbz.mono hBr.size)⟩
        · have okD := hD.out.1
          have h0 : D.left = 0 := by have := hD.out.2.2.2.1; omega
          have H0 := Lib.hid h0
          have hp5 : D.pend.length ≤ 100000 := by have := hD.out.2.2.2.2; omega
          have k1 : 1 < D.secs.length := by have := hD.out.2.2.1; omega
          obtain ⟨s, hs⟩ : ∃ s, curAt (1 : Nat) D.secs[1] D.pend = s := ⟨_, rfl⟩
          have ss : (s.size : Int) = D.size := by
            rw [← hs]; exact cur_size _ _ _ _ (okD.secs _ (List.getElem_mem k1)) (fun q hq => (okD.pend q hq).2.2)
          have gs : (((s.size : Nat) : Int) == D.size) = true := by rw [ss]; simp
          have HS := Lib.hid hs
          have GS := Lib.hid gs
          have sm : s.size ≤ 512 := by have := okD.s2; omega
          clear hs ss gs h0
          obtain ⟨q0, q1, q2, q3, f0, f1, f2, f3, qlt⟩ := hK.out
          go_wp2_with fail
          ((with_reducible refine (read_good D okD.fit okD _ _ hF.out.disk 1 1 rfl k1 s HS.out).mono ?_); rintro e w5 ⟨rfl, hb5⟩)
          have B5 := hBr.trans (hb5.mono hBr.size)
          have K5 := Lib.hid (hK.out.below hb5 hK.out.lt)
          have F5 := Lib.hid (hF.out.below hb5 (Nat.le_refl _))
          clear q0 q1 q2 q3 f0 f1 f2 f3 qlt hb5 hK hF hBr
          obtain ⟨q0, q1, q2, q3, f0, f1, f2, f3, qlt⟩ := K5.out
          go_wp2_with fail
          ((with_reducible refine (sync_lost D okD.fit okD _ _ F5.out.disk H0.out).mono ?_); rintro e w6 ⟨v6, rfl, d6, _, hb6⟩)
          have d6' := Lib.hid d6
          obtain ⟨_, _, rfl, ⟨a6, cap6, rfl, _, _, _⟩, ⟨b6, cap6', rfl, _, _, _⟩⟩ := d6
          have al6 := (Below.refl w6.heap.size w6).alloc (Nat.le_refl _) (.cells #[.int .i64 D.size, .slice a6 D.secs.length cap6, .slice b6 D.pend.length cap6', .int .i64 D.left] 26)
          have B6 := B5.trans (hb6.mono B5.size)
          have B7 := B6.alloc B6.size (.cells #[.int .i64 D.size, .slice a6 D.secs.length cap6, .slice b6 D.pend.length cap6', .int .i64 D.left] 26)
          have K7 := Lib.hid ((K5.out.below hb6 K5.out.lt).alloc (.cells #[.int .i64 D.size, .slice a6 D.secs.length cap6, .slice b6 D.pend.length cap6', .int .i64 D.left] 26))
          have X7 := Lib.hid (Bx.fresh D.size (.slice a6 D.secs.length cap6) (.slice b6 D.pend.length cap6') D.left w6)
          have F7 := Lib.hid (d6'.out.below al6 (Nat.le_refl _))
          have D7 := Lib.hid ((F5.out.below hb6 (Nat.le_refl _)).below al6 (Nat.le_refl _))
          clear q0 q1 q2 q3 f0 f1 f2 f3 qlt d6' hb6 al6 B6 K5 F5 B5
          go_upto_region 26 with fail
          generalize w6.alloc (.cells #[.int .i64 D.size, .slice a6 D.secs.length cap6, .slice b6 D.pend.length cap6', .int .i64 D.left] 26) = w7 at B7 K7 X7 F7 D7 ⊢
          obtain ⟨q0, q1, q2, q3, f0, f1, f2, f3, qlt⟩ := K7.out
          obtain ⟨r0, r1, r2, r3, j0, j1, j2, j3, rlt⟩ := X7.out
          have gs := GS.out
          go_wp2_with fail
          ((with_reducible refine (same_any D _ _ _ F7.out D7.out.disk).mono ?_); rintro e w8 ⟨rfl, hb8⟩)
          have B8 := B7.trans (hb8.mono B7.size)
          have K8 := Lib.hid (K7.out.below hb8 K7.out.lt)
          have D8 := Lib.hid (D7.out.below hb8 (Nat.le_refl _))
          clear q0 q1 q2 q3 f0 f1 f2 f3 qlt r0 r1 r2 r3 j0 j1 j2 j3 rlt hb8 K7 X7 F7 D7 B7 gs
          obtain ⟨q0, q1, q2, q3, f0, f1, f2, f3, qlt⟩ := K8.out
          go_wp2_with fail
          ((with_reducible refine (cut_ok D okD.fit okD hp5 _ _ [] _ D8.out.disk (isInts_nil _)).mono ?_); rintro e w9 ⟨v9, rfl, d9, hb9⟩)
          obtain ⟨_, _, rfl, ⟨a9, cap9, rfl, _, _, _⟩, ⟨b9, cap9', rfl, _, _, _⟩⟩ := d9.disk
          simp only [List.length_nil, settleL_length] at d9 ⊢
          have xf : ∀ w, (Instr.field 26 (dv D.size (.slice a9 D.secs.length cap9) (.slice b9 0 cap9') (-1)) 3).run Try.prog w = .ok (.int .i64 (-1)) w := fun _ => by kernel_rfl
          have B9 := B8.trans (hb9.mono B8.size)
          clear q0 q1 q2 q3 f0 f1 f2 f3 qlt hb9 d9
          go_wp2_with fail
          ((with_reducible refine (awake_any _).mono ?_); rintro e wz ⟨rfl, hbz⟩)
          go_wp2
          go_ret
          exact ⟨rfl, B9.trans (hbz.mono B9.size)⟩

set_option maxRecDepth 100000 in
theorem power_lifted (os : Os) (started : os.Started) (H : Type) (enc : TypeId × Value → H) :
    ReturnsInHanded {} Try.checked os 9 .any (Rows.diskPowerSpec.pre6 enc Try.prog Try.f9 Rows.diskPowerRow.domain false) (Rows.diskPowerSpec.post enc Try.prog Try.f9 false true false false) := by
  refine returnsInHanded_of_change (C := Try.checked) ownK started (by kernel_rfl) Try.func9
    (ChangeSpec.witness6 (enc := enc) (C := Try.checked) false ⟨#[], #[.int .u8 0, .slice none 0 0, .int .u8 0], []⟩ 8 (by kernel_rfl) (by kernel_rfl) (by kernel_rfl) (by kernel_rfl)) ?_
  intro W base args ds gs before hval0 hW hcnd _
  have hval : ∀ (j : Nat) t v, Try.f9.params[j]? = some t → args[j]? = some v → Value.okWide Try.prog W .any base t v := hval0
  have hW' := hW
  obtain ⟨p, q, hA0, hV, rfl, hfz, hnd⟩ := hW
  have hA : DataW.TrodAll enc Try.prog W 0 (fun _ => true) true Try.f9.params.toList args.toList ds p := hA0
  rw [Try.params9] at hA hval
  obtain ⟨v0, v1, v2, d0, d1, d2, p0, p1, p2, rfl, rfl, rfl, h0, h1, h2⟩ := trodAll_three hA
  obtain ⟨rfl, rfl⟩ := trodVars_none hV
  have k1 := h1
  have lt1 : ∀ x ∈ p1, x.block < W.heap.size := by obtain ⟨m, hm⟩ := k1; exact DataW.trod_lt m _ _ _ hm
  obtain ⟨z0, rfl, rfl, rfl, w0⟩ := open_int Try.underlying5 (hval 0 5 v0 rfl rfl) h0
  obtain ⟨L, hL, hs⟩ := open_acts (hval 1 46 v1 rfl rfl) h1
  obtain ⟨z2, rfl, rfl, rfl, w2⟩ := open_int Try.underlying5 (hval 2 5 v2 rfl rfl) h2
  have b1 := u8_in w0
  have b2 := u8_in w2
  obtain ⟨a, rfl⟩ := Int.eq_ofNat_of_zero_le b1.1
  obtain ⟨c, rfl⟩ := Int.eq_ofNat_of_zero_le b2.1
  clear hA0 hval0
  refine (power_any a (by omega) c (by omega) v1 L W hL hs).mono fun e W' ⟨he, bel⟩ => ?_
  subst he
  exact ⟨_, rfl, _, _, _, [], _, [], hW', trodAll_mk1 (shut_bool Try.underlying4 _), (trodAll_cons_mk (shut_int Try.underlying5 w0) (trodAll_cons_mk (Below.trod laidOut (by kernel_rfl) (of_decide_eq_true (by kernel_rfl)) k1 bel lt1) (trodAll_cons_mk (shut_int Try.underlying5 w2) trodAll_mk0))), rfl, bel.frame _, fun h => by cases h⟩

theorem power_holds : Rows.DiskPowerSaid :=
  OpenClaim.holds_of_wide 9 Try.f9 rfl rfl rfl rfl rfl rfl rfl ⟨rfl, rfl, rfl, rfl, rfl⟩ rfl rfl rfl rfl rfl (by kernel_rfl) Try.func9 (by kernel_rfl)
    (of_decide_eq_true (by kernel_rfl)) (by unfold Func.isWrapper; rw [if_neg (of_decide_eq_false (by kernel_rfl))]; exact ⟨rfl, rfl⟩)
    (fun os started H enc _ => power_lifted os started H enc)
#print axioms power_holds
end Go.Proofs.Ytgdfdelggihceaa
