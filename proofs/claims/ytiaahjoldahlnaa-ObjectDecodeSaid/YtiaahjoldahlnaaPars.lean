/- object.reader's parents, at this translation. -/
import Derived.Test.YtiaahjoldahlnaaORead
import Derived.Test.YtiaahjoldahlnaaLinks
import Derived.Deep.RegionLaw
import Derived.Deep.AppendLies
import Derived.Deep.Cut
namespace Go.Proofs.Ytiaahjoldahlnaa
open Go.RowKit Go.Great
attribute [local go_sem] eq_arr

theorem own_mv {w w' : World} {B m s : Nat} {e : TypeId} {v : Value} {xs : List Value} (h : w.ownsRow B e s v m xs) (hk : ∀ k, B ≤ k → k < w.heap.size → w'.heap[k]? = w.heap[k]?) : w'.ownsRow B e s v m xs := by
  refine ⟨h.1, h.2.imp id ?_⟩
  rintro ⟨g, cap, cur, e, hg, hh, h3⟩
  exact ⟨g, cap, cur, e, hg, (hk g hg (Array.getElem?_eq_some_iff.1 hh).1).trans hh, h3⟩
theorem Ro.drew {N : Nat} {r : Rd} {k : Int} {d : BA} {ve : Value} {t1 t2 : Nat} {vp : Value} {au : BA} {ti : Int} {ms : BA} {W : World} (h : Ro N r k d ve t1 t2 vp au ti ms W) : Ro N r k d ve t1 t2 vp au ti ms W.drew := ⟨h.rd, h.ro⟩
theorem Only2.drew {N : Nat} {w W : World} (h : Only2 N w W) : Only2 N w W.drew := ⟨h.b.drew, h.k⟩
theorem rdDs_step (n : Nat) (L : List Dig) (r : Rd) : rdDs (n + 1) L r = rdDs n (L ++ [(rdD r).1]) (rdD r).2 := rfl
theorem rowD_snoc (L : List Dig) (d : Dig) : rowD (L ++ [d]) = rowD L ++ [.int .u64 d.1, .int .u64 d.2] := by rw [rowD_append]; rfl
/-- Behind an append to a slice of the reader's own: what was there. -/
theorem Ro.grown {N : Nat} {r : Rd} {k : Int} {d : BA} {ve : Value} {t1 t2 : Nat} {vp : Value} {au : BA} {ti : Int} {ms : BA} {W W' : World} {v : Value} (h : Ro N r k d ve t1 t2 vp au ti ms W) (hg : W.grownBy W' v.ownBlock) (hv : ∀ k, v.ownBlock = some k → N + 2 ≤ k) : Ro N r k d ve t1 t2 vp au ti ms W' :=
  have b := (Below.refl (N + 2) W).grown hg h.lt hv
  ⟨(b.block N (by omega)).trans h.rd, (b.block (N + 1) (by omega)).trans h.ro⟩

theorem Only2.alloc {N : Nat} {w W : World} (h : Only2 N w W) (hN : N + 1 < w.heap.size) (o : Obj) : Only2 N w (W.alloc o) :=
  ⟨h.b.alloc (by have := h.b.size; omega) o, fun j h1 h2 => (Below.heap_alloc W o j (Nat.lt_of_lt_of_le h2 h.b.size)).trans (h.k j h1 h2)⟩
theorem Only2.grown {N : Nat} {w W W' : World} {v : Value} (h : Only2 N w W) (hg : W.grownBy W' v.ownBlock) (hN : N + 1 < w.heap.size) (hv : ∀ k, v.ownBlock = some k → w.heap.size ≤ k) : Only2 N w W' :=
  have b := (Below.refl w.heap.size W).grown hg h.b.size hv
  ⟨h.b.trans (b.mono (by omega)), fun j h1 h2 => (b.block j h2).trans (h.k j h1 h2)⟩

set_option maxRecDepth 100000 in
set_option maxHeartbeats 8000000 in
theorem parentsM_any (N : Nat) (r : Rd) (k : Int) (d : BA) (ve : Value) (t1 t2 : Nat) (au : BA) (ti : Int) (ms : BA) (w : World) (h : Ro N r k d ve t1 t2 (.slice none 0 0) au ti ms w) (hm : r.1.size ≤ 65536) (n : Nat) (r1 : Rd) (hc : rdC r = (n, r1)) (hn : n ≤ 65536) (h1 : r1.1.size ≤ 65536) (L : List Dig) (r' : Rd) (hv : rdDs n [] r1 = (L, r')) :
    Calls Try.prog 63 #[.pointer (some ⟨N + 1, 0, none⟩)] w fun e w' => e = .returned (.tuple #[]) ∧ ∃ vp, Ro N r' k d ve t1 t2 vp au ti ms w' ∧ w'.ownsRow w.heap.size 25 2 vp n (rowD L) ∧ L.length = n ∧ Only2 N w w' := by
  obtain ⟨i0, hi, hz0, hz1, hz2⟩ := info_parts info25
  have C := Lib.hid (fun W (hW : RdAt W N r) => countR_any N r W hW (Nat.le_trans hm (by decide)) n r1 hc)
  have D := Lib.hid (fun (q : Rd) (hq : q.1.size ≤ 65536) W (hW : RdAt W N q) x y q' (hx : rdD q = ((x, y), q')) => digR_any N q W hW (Nat.le_trans hq (by decide)) x y q' hx)
  unfold Reads at C D
  have HV := Lib.hid hv
  obtain ⟨q0, -, -, -, -, -, -, -, -, -⟩ := h.at
  clear hv hm hc
  go_enter Try.func63, Try.ntmps63
  go_wp2_with fail
  ((with_reducible refine (C.out _ h.rd).mono ?_); rintro e w1 ⟨rfl, hr1, ho1⟩)
  have s1 := Lib.hid (h.read hr1 ho1)
  have o1 := Only2.one ho1
  have lw := h.lt
  clear h hr1 ho1 q0 C
  go_wp2
  go_loopw [7] (fun s7 wr => ∃ (j : Nat) (A : List Dig) (q : Rd) (vp : Value), j ≤ n ∧ s7 = .int .i64 j ∧ Hid (rdDs (n - j) A q = (L, r')) ∧ Hid (A.length = j) ∧ q.1.size ≤ 65536 ∧ Hid (Ro N q k d ve t1 t2 vp au ti ms wr) ∧ Hid (wr.ownsRow w.heap.size 25 2 vp j (rowD A)) ∧ Only2 N w wr) (fun i _ => n - (intOf i).toNat)
  case atStart => exact ⟨0, [], r1, _, Nat.zero_le _, rfl, HV, Lib.hid rfl, h1, s1, Lib.hid (World.ownsRow_nil _ _ _ _), o1⟩
  case round =>
    obtain ⟨j, A, q, vp, hj, rfl, HJ, HA, hq, HR, HO, hb⟩ := hrel
    clear s1 o1 h1 HV
    by_cases hlt : j < n
    · obtain ⟨m, hm⟩ : ∃ m, n - j = m + 1 := ⟨n - j - 1, by omega⟩
      rw [hm] at HJ
      have hq2 := rdD_le q 65536 hq
      obtain ⟨x, y, q', hx⟩ : ∃ x y q', rdD q = ((x, y), q') := ⟨_, _, _, rfl⟩
      have HJ2 : Hid (rdDs m (A ++ [(x, y)]) q' = (L, r')) := Lib.hid (by
        have := HJ.out
        rw [rdDs_step, hx] at this
        exact this)
      rw [hx] at hq2
      simp only at hq2
      have D2 := Lib.hid (fun W (hW : RdAt W N q) => D.out q hq W hW x y q' hx)
      have EN : Hid (n - (j + 1) = m) := Lib.hid (by omega)
      have start := Lib.hid HR.out.drew
      obtain ⟨c0, -, -, -, -, -, c6, -, -, -⟩ := start.out.at
      clear HJ hx hm
      go_upto_region 2 with fail
      go_region_law (first | (go_simp; go_at_call 83; (with_reducible refine (D2.out _ start.out.rd).mono ?_); rintro e w5 ⟨rfl, hr5, ho5⟩; have h5 := Lib.hid (start.out.read hr5 ho5); have own5 := Lib.hid (own_mv (w' := w5) (show wr.drew.ownsRow w.heap.size 25 2 vp j (rowD A) from HO.out) (fun k hk hk2 => ho5.k k (by omega) hk2)); have b5 := hb.drew.trans (Only2.one ho5); have l5 := h5.out.lt; have z5 := b5.b.size; obtain ⟨-, -, -, -, -, -, e6, -, -, -⟩ := h5.out.at; clear hr5 ho5) | (refine step_append_lies _ (by rfl) (.tmp 14) (.tmp 20) 26 (by rfl) w.heap.size 25 i0 (.agg #[.int .u64 0, .int .u64 0]) 2 16 Try.underlying26 hi hz0 hz1 hz2 (by rfl) (by decide) vp j (rowD A) (by simp [Act.eval]) (own5.out.alloc _) ⟨w5.heap.size, 0, none⟩ 1 1 [.int .u64 x, .int .u64 y] (by simp [Act.eval]) rfl (two_dig' w5 _ rfl (x, y) _) (dig_one (x, y)) Nat.zero_lt_one (by unfold maxLen; omega) (by omega) (by simp; omega) _ rfl ?_; intro g' cap' w6 hown hgrow _ _; have h6 := Lib.hid (Ro.grown (h5.out.on ((Below.refl _ _).alloc (Nat.le_refl _) (.cells #[.int .u64 x, .int .u64 y] 25))) hgrow (fun k e => by have := (own5.out.lt k e).1; omega)); obtain ⟨-, -, -, -, -, -, e6, -, -, -⟩ := h6.out.at; have f6 := h6.out.f 6; have b6 := (b5.alloc lw (.cells #[.int .u64 x, .int .u64 y] 25)).grown hgrow lw (fun k e => (own5.out.lt k e).1); have S6 := Lib.hid (h6.out.setP (.slice (some ⟨g', 0, none⟩) (j + 1) cap')); have O6 := Lib.hid (own_mv (w' := w6.setCell ⟨N + 1, 6, none⟩ (.slice (some ⟨g', 0, none⟩) (j + 1) cap')) hown (fun k hk _ => Below.heap_setCell w6 ⟨N + 1, 6, none⟩ _ k (show k ≠ N + 1 by omega))); have B6 := b6.trans (Only2.two (Only1.set (N := N + 1) w6 6 (.slice (some ⟨g', 0, none⟩) (j + 1) cap'))); clear hown hgrow b6))
      all_goals (
        go_wp2
        go_roundw
        case rel => exact ⟨j + 1, A ++ [(x, y)], q', _, by omega, by go_num, Lib.hid (by rw [EN.out]; exact HJ2.out), Lib.hid (by rw [List.length_append, HA.out]; rfl), hq2, S6, Lib.hid (by rw [rowD_snoc]; exact O6.out), B6⟩
        case measure => simp [intOf]; omega)
    · obtain rfl : j = n := by omega
      have HJ2 := HJ.out
      rw [Nat.sub_self, rdDs] at HJ2
      obtain ⟨rfl, rfl⟩ := Prod.mk.inj HJ2
      clear HJ HJ2
      go_wp2
      go_end0
      exact ⟨rfl, vp, HR.out, HO.out, HA.out, hb⟩
end Go.Proofs.Ytiaahjoldahlnaa
