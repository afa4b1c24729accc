/- object.reader's entries, at this translation. -/
import Derived.Test.YtiaahjoldahlnaaPars
import Derived.Test.YtiaahjoldahlnaaLast
namespace Go.Proofs.Ytiaahjoldahlnaa
open Go.RowKit Go.Great
attribute [local go_sem] eq_arr

/-- What the reading of an entry leaves. -/
def SE (N : Nat) (ve : Value) (V : World) : Prop := V.cell? ⟨N + 1, 0, none⟩ = some (.pointer (some ⟨N, 0, none⟩)) ∧ V.cell? ⟨N + 1, 3, none⟩ = some ve
/-- Entries as a row of cells. -/
def rowX (L : List Ent) : List Value := L.flatMap fun x => [.string x.name, .bool x.dir, .int .u64 x.dig.1, .int .u64 x.dig.2]
theorem rowX_append (L R : List Ent) : rowX (L ++ R) = rowX L ++ rowX R := by simp [rowX]
theorem rowX_snoc (L : List Ent) (x : Ent) : rowX (L ++ [x]) = rowX L ++ [.string x.name, .bool x.dir, .int .u64 x.dig.1, .int .u64 x.dig.2] := by rw [rowX_append]; rfl
theorem rowX_length (L : List Ent) : (rowX L).length = L.length * 4 := by
  induction L with
  | nil => rfl
  | cons e L ih => simp only [rowX, List.flatMap_cons, List.length_append, List.length_cons, List.length_nil] at ih ⊢; omega
theorem rowX_at (L : List Ent) (j : Nat) (h : j < L.length) : (rowX L)[j * 4]? = some (.string L[j].name) ∧ (rowX L)[j * 4 + 1]? = some (.bool L[j].dir) ∧ (rowX L)[j * 4 + 2]? = some (.int .u64 L[j].dig.1) ∧ (rowX L)[j * 4 + 3]? = some (.int .u64 L[j].dig.2) := by
  induction L generalizing j with
  | nil => simp at h
  | cons e L ih =>
    cases j with
    | zero => simp [rowX]
    | succ j =>
      have := ih j (by simpa using h)
      simp only [rowX, List.flatMap_cons] at this ⊢
      rw [show (j + 1) * 4 = j * 4 + 1 + 1 + 1 + 1 by omega]
      simpa using this
theorem own_ents {w : World} {B m : Nat} {v : Value} {L : List Ent} (h : w.ownsRow B 45 4 v m (rowX L)) (hm : L.length = m) (hl : m ≤ maxLen) : IsEnts w v L := by
  subst hm
  have h0 := h
  obtain ⟨_, ⟨rfl, e⟩ | ⟨g, cap, cur, rfl, hb, hcur, hn, hcap, hsz, _⟩⟩ := h
  · rw [List.length_eq_zero_iff.1 e]; exact isEnts_nil w
  · refine ⟨_, cap, rfl, hl, hn, .inr ⟨g, 0, rfl, (Array.getElem?_eq_some_iff.1 hcur).1, fun j hj => ?_⟩⟩
    have c0 := h0.cellAt (j * 4) (by omega)
    have c1 := h0.cellAt (j * 4 + 1) (by omega)
    have c2 := h0.cellAt (j * 4 + 2) (by omega)
    have c3 := h0.cellAt (j * 4 + 3) (by omega)
    unfold EntAt
    rw [Nat.zero_add, c0, c1, c2, c3]
    exact rowX_at L j hj
theorem four_ent (W : World) (n : Nat) (hn : W.heap.size = n) (s : BA) (b : Bool) (x y : Nat) (t : TypeId) : ∀ j u, [Value.string s, .bool b, .int .u64 x, .int .u64 y][j]? = some u → (W.alloc (.cells #[.string s, .bool b, .int .u64 x, .int .u64 y] t)).cell? ((⟨n, 0, none⟩ : Addr).add j) = some u := by
  subst hn
  intro j u h
  match j, h with
  | 0, h => simpa [Addr.add, World.cell?_alloc_new] using h
  | 1, h => simpa [Addr.add, World.cell?_alloc_new] using h
  | 2, h => simpa [Addr.add, World.cell?_alloc_new] using h
  | 3, h => simpa [Addr.add, World.cell?_alloc_new] using h
  | j + 4, h => simp at h
theorem ent_one (s : BA) (b : Bool) (x y : Nat) : ∀ u ∈ [Value.string s, .bool b, .int .u64 x, .int .u64 y], u.oneCell' = true := by
  intro u hu
  simp at hu
  rcases hu with rfl | rfl | rfl | rfl <;> rfl
theorem info45 : (Try.prog.info? 45).map (fun i => (i.zero, i.size, i.bytes)) = some (some (.agg #[.string ⟨#[]⟩, .bool false, .int .u64 0, .int .u64 0]), 4, 40) := by kernel_rfl
theorem rdXs_step (n : Nat) (L : List Ent) (r : Rd) : rdXs (n + 1) L r = rdXs n (L ++ [(rdX r).1]) (rdX r).2 := rfl
theorem rdO_le (r : Rd) (m : Nat) (h : r.1.size ≤ m) : (rdO r).2.1.size ≤ m := by
  unfold rdO
  split
  · exact Nat.zero_le _
  · exact rdI_le r m h

set_option maxRecDepth 100000 in
set_option maxHeartbeats 64000000 in
theorem entriesM_any (N : Nat) (r : Rd) (k : Int) (d : BA) (t1 t2 : Nat) (vp : Value) (au : BA) (ti : Int) (ms : BA) (w : World) (h : Ro N r k d (.slice none 0 0) t1 t2 vp au ti ms w) (hm : r.1.size ≤ 65536) (n : Nat) (r1 : Rd) (hc : rdC r = (n, r1)) (hn : n ≤ 65536) (h1 : r1.1.size ≤ 65536) (L : List Ent) (r' : Rd) (hv : rdXs n [] r1 = (L, r')) :
    Calls Try.prog 61 #[.pointer (some ⟨N + 1, 0, none⟩)] w fun e w' => e = .returned (.tuple #[]) ∧ ∃ ve, Ro N r' k d ve t1 t2 vp au ti ms w' ∧ w'.ownsRow w.heap.size 45 4 ve n (rowX L) ∧ L.length = n ∧ Only2 N w w' := by
  obtain ⟨i0, hi, hz0, hz1, hz2⟩ := info_parts info45
  have C := Lib.hid (fun W (hW : RdAt W N r) => countR_any N r W hW (Nat.le_trans hm (by decide)) n r1 hc)
  have T := Lib.hid (fun (q : Rd) (hq : q.1.size ≤ 65536) W (hW : RdAt W N q) x q' (hx : rdT q = (x, q')) => textR_any N q W hW (Nat.le_trans hq (by decide)) x q' hx)
  have O := Lib.hid (fun (q : Rd) (hq : q.1.size ≤ 65536) W (hW : RdAt W N q) x q' (hx : rdO q = (x, q')) => boolR_any N q W hW (Nat.le_trans hq (by decide)) x q' hx)
  have D := Lib.hid (fun (q : Rd) (hq : q.1.size ≤ 65536) W (hW : RdAt W N q) x y q' (hx : rdD q = ((x, y), q')) => digR_any N q W hW (Nat.le_trans hq (by decide)) x y q' hx)
  unfold Reads at C T O D
  have HV := Lib.hid hv
  obtain ⟨q0, -, -, -, -, -, -, -, -, -⟩ := h.at
  clear hv hm hc
  go_enter Try.func61, Try.ntmps61
  go_wp2_with fail
  ((with_reducible refine (C.out _ h.rd).mono ?_); rintro e w1 ⟨rfl, hr1, ho1⟩)
  have s1 := Lib.hid (h.read hr1 ho1)
  have o1 := Only2.one ho1
  have lw := h.lt
  clear h hr1 ho1 q0 C
  go_wp2
  go_loopw [7] (fun s7 wr => ∃ (j : Nat) (A : List Ent) (q : Rd) (ve : Value), j ≤ n ∧ s7 = .int .i64 j ∧ Hid (rdXs (n - j) A q = (L, r')) ∧ Hid (A.length = j) ∧ q.1.size ≤ 65536 ∧ Hid (Ro N q k d ve t1 t2 vp au ti ms wr) ∧ Hid (wr.ownsRow w.heap.size 45 4 ve j (rowX A)) ∧ Only2 N w wr) (fun i _ => n - (intOf i).toNat)
  case atStart => exact ⟨0, [], r1, _, Nat.zero_le _, rfl, HV, Lib.hid rfl, h1, s1, Lib.hid (World.ownsRow_nil _ _ _ _), o1⟩
  case round =>
    obtain ⟨j, A, q, ve, hj, rfl, HJ, HA, hq, HR, HO, hb⟩ := hrel
    clear s1 o1 h1 HV
    by_cases hlt : j < n
    · obtain ⟨m, hm⟩ : ∃ m, n - j = m + 1 := ⟨n - j - 1, by omega⟩
      rw [hm] at HJ
      obtain ⟨nm, qa, ha⟩ : ∃ x q', rdT q = (x, q') := ⟨_, _, rfl⟩
      have hqa := rdT_le q 65536 hq
      rw [ha] at hqa
      simp only at hqa
      obtain ⟨dr, qb, hbb⟩ : ∃ x q', rdO qa = (x, q') := ⟨_, _, rfl⟩
      have hqb := rdO_le qa 65536 hqa
      rw [hbb] at hqb
      simp only at hqb
      obtain ⟨x, y, q', hx⟩ : ∃ x y q', rdD qb = ((x, y), q') := ⟨_, _, _, rfl⟩
      have hq2 := rdD_le qb 65536 hqb
      rw [hx] at hq2
      simp only at hq2
      have HJ2 : Hid (rdXs m (A ++ [⟨nm, dr, (x, y)⟩]) q' = (L, r')) := Lib.hid (by
        have := HJ.out
        rw [rdXs_step] at this
        unfold rdX at this
        simp only [ha, hbb, hx] at this
        exact this)
      have T2 := Lib.hid (fun W (hW : RdAt W N q) => T.out q hq W hW nm qa ha)
      have O2 := Lib.hid (fun W (hW : RdAt W N qa) => O.out qa hqa W hW dr qb hbb)
      have D2 := Lib.hid (fun W (hW : RdAt W N qb) => D.out qb hqb W hW x y q' hx)
      have EN : Hid (n - (j + 1) = m) := Lib.hid (by omega)
      have start := Lib.hid HR.out.drew
      obtain ⟨c0, -, -, c3, -, -, -, -, -, -⟩ := start.out.at
      clear HJ hx hm ha hbb hq hqa hqb T O D
      go_upto_region 2 with fail
      have hHeld : SE N ve wr.drew := ⟨c0, c3⟩
      refine wp_region_lastly (S := SE N ve) 27 _ (by kernel_rfl) (by kernel_rfl) (by kernel_rfl) rfl ?_
      simp only [List.pop_toArray, List.dropLast]
      refine wpAnyH_take (i := 0) (v := .pointer (some ⟨N + 1, 0, none⟩)) rfl (by kernel_rfl) (by kernel_rfl) (by kernel_rfl) (fun _ _ _ h => h) (Or.inl ⟨by rfl, fun W hSw => by obtain ⟨z0, z3⟩ := hSw; go_simp⟩) hHeld ?_
      simp only [Act.put, List.setIfInBounds_toArray]
      refine wpAnyH_take (i := 1) (v := .pointer (some ⟨N + 1, 0, none⟩)) rfl (by kernel_rfl) (by kernel_rfl) (by kernel_rfl) (fun _ _ _ h => h) (Or.inl ⟨by rfl, fun W hSw => by obtain ⟨z0, z3⟩ := hSw; go_simp⟩) hHeld ?_
      simp only [Act.put]
      refine wpAnyH_take (i := 2) (v := .pointer (some ⟨N + 1, 0, none⟩)) rfl (by kernel_rfl) (by kernel_rfl) (by kernel_rfl) (fun _ _ _ h => h) (Or.inl ⟨by rfl, fun W hSw => by obtain ⟨z0, z3⟩ := hSw; go_simp⟩) hHeld ?_
      simp only [Act.put]
      refine wpAnyH_take (i := 3) (v := .pointer (some ⟨N + 1, 1, none⟩)) rfl (by kernel_rfl) (by kernel_rfl) (by kernel_rfl) (fun _ _ _ h => h) (Or.inl ⟨by rfl, fun W hSw => by obtain ⟨z0, z3⟩ := hSw; go_simp⟩) hHeld ?_
      simp only [Act.put]
      refine wpAnyH_take (i := 4) (v := .pointer (some ⟨N + 1, 3, none⟩)) rfl (by kernel_rfl) (by kernel_rfl) (by kernel_rfl) (fun _ _ _ h => h) (Or.inl ⟨by rfl, fun W hSw => by obtain ⟨z0, z3⟩ := hSw; go_simp⟩) hHeld ?_
      simp only [Act.put]
      refine wpAnyH_take (i := 5) (v := ve) rfl (by kernel_rfl) (by kernel_rfl) (by kernel_rfl) (fun _ _ _ h => h) (Or.inl ⟨by rfl, fun W hSw => by obtain ⟨z0, z3⟩ := hSw; go_simp⟩) hHeld ?_
      simp only [Act.put]
      refine wpAnyH_take (i := 6) (v := .pointer (some ⟨N + 1, 0, none⟩)) rfl (by kernel_rfl) (by kernel_rfl) (by kernel_rfl) (fun _ _ _ h => h) (Or.inl ⟨by rfl, fun W hSw => by obtain ⟨z0, z3⟩ := hSw; go_simp⟩) hHeld ?_
      simp only [Act.put]
      refine wpAnyH_take (i := 7) (v := .pointer (some ⟨N + 1, 0, none⟩)) rfl (by kernel_rfl) (by kernel_rfl) (by kernel_rfl) (fun _ _ _ h => h) (Or.inl ⟨by rfl, fun W hSw => by obtain ⟨z0, z3⟩ := hSw; go_simp⟩) hHeld ?_
      simp only [Act.put]
      refine wpAnyH_take (i := 8) (v := .pointer (some ⟨N + 1, 0, none⟩)) rfl (by kernel_rfl) (by kernel_rfl) (by kernel_rfl) (fun _ _ _ h => h) (Or.inl ⟨by rfl, fun W hSw => by obtain ⟨z0, z3⟩ := hSw; go_simp⟩) hHeld ?_
      simp only [Act.put]
      refine wpAnyH_take (i := 9) (v := .pointer (some ⟨N, 0, none⟩)) rfl (by kernel_rfl) (by kernel_rfl) (by kernel_rfl) (fun _ _ _ h => h) (Or.inl ⟨by rfl, fun W hSw => by obtain ⟨z0, z3⟩ := hSw; go_simp⟩) hHeld ?_
      simp only [Act.put]
      refine wpAnyH_take (i := 11) (v := .pointer (some ⟨N + 1, 0, none⟩)) rfl (by kernel_rfl) (by kernel_rfl) (by kernel_rfl) (fun _ _ _ h => h) (Or.inl ⟨by rfl, fun W hSw => by obtain ⟨z0, z3⟩ := hSw; go_simp⟩) hHeld ?_
      simp only [Act.put]
      refine wpAnyH_take (i := 12) (v := .pointer (some ⟨N + 1, 0, none⟩)) rfl (by kernel_rfl) (by kernel_rfl) (by kernel_rfl) (fun _ _ _ h => h) (Or.inl ⟨by rfl, fun W hSw => by obtain ⟨z0, z3⟩ := hSw; go_simp⟩) hHeld ?_
      simp only [Act.put]
      refine wpAnyH_take (i := 13) (v := .pointer (some ⟨N + 1, 0, none⟩)) rfl (by kernel_rfl) (by kernel_rfl) (by kernel_rfl) (fun _ _ _ h => h) (Or.inl ⟨by rfl, fun W hSw => by obtain ⟨z0, z3⟩ := hSw; go_simp⟩) hHeld ?_
      simp only [Act.put]
      refine wpAnyH_take (i := 14) (v := .pointer (some ⟨N, 0, none⟩)) rfl (by kernel_rfl) (by kernel_rfl) (by kernel_rfl) (fun _ _ _ h => h) (Or.inl ⟨by rfl, fun W hSw => by obtain ⟨z0, z3⟩ := hSw; go_simp⟩) hHeld ?_
      simp only [Act.put]
      refine wpAnyH_take (i := 16) (v := .pointer (some ⟨N + 1, 0, none⟩)) rfl (by kernel_rfl) (by kernel_rfl) (by kernel_rfl) (fun _ _ _ h => h) (Or.inl ⟨by rfl, fun W hSw => by obtain ⟨z0, z3⟩ := hSw; go_simp⟩) hHeld ?_
      simp only [Act.put]
      refine wpAnyH_take (i := 17) (v := .pointer (some ⟨N + 1, 0, none⟩)) rfl (by kernel_rfl) (by kernel_rfl) (by kernel_rfl) (fun _ _ _ h => h) (Or.inl ⟨by rfl, fun W hSw => by obtain ⟨z0, z3⟩ := hSw; go_simp⟩) hHeld ?_
      simp only [Act.put]
      refine wpAnyH_take (i := 18) (v := .pointer (some ⟨N + 1, 0, none⟩)) rfl (by kernel_rfl) (by kernel_rfl) (by kernel_rfl) (fun _ _ _ h => h) (Or.inl ⟨by rfl, fun W hSw => by obtain ⟨z0, z3⟩ := hSw; go_simp⟩) hHeld ?_
      simp only [Act.put]
      refine wpAnyH_take (i := 19) (v := .pointer (some ⟨N, 0, none⟩)) rfl (by kernel_rfl) (by kernel_rfl) (by kernel_rfl) (fun _ _ _ h => h) (Or.inl ⟨by rfl, fun W hSw => by obtain ⟨z0, z3⟩ := hSw; go_simp⟩) hHeld ?_
      simp only [Act.put]
      refine wpAnyH_ready (rs := [10]) (by kernel_rfl) (by simp) ?_
      refine AllReadyH.cons rfl (fun K hK => ?_) AllReadyH.nil
      go_simp
      go_at_call 80
      refine (T2.out _ start.out.rd).mono ?_
      rintro e w5 ⟨rfl, hr5, ho5⟩
      have h5 := Lib.hid (start.out.read hr5 ho5)
      have own5 := Lib.hid (own_mv (w' := w5) (show wr.drew.ownsRow w.heap.size 45 4 ve j (rowX A) from HO.out) (fun k hk hk2 => ho5.k k (by omega) hk2))
      have b5 := hb.drew.trans (Only2.one ho5)
      clear hr5 ho5
      refine hK.out _ _ ⟨h5.out.at.1, h5.out.at.2.2.2.1⟩ (fun hHeld => ?_)
      clear hK
      refine wpAnyH_ready (rs := [15]) (by kernel_rfl) (by simp) ?_
      refine AllReadyH.cons rfl (fun K hK => ?_) AllReadyH.nil
      go_simp
      go_at_call 82
      refine (O2.out _ h5.out.rd).mono ?_
      rintro e w6 ⟨rfl, hr6, ho6⟩
      have h6 := Lib.hid (h5.out.read hr6 ho6)
      have own6 := Lib.hid (own_mv (w' := w6) own5.out (fun k hk hk2 => ho6.k k (by omega) hk2))
      have b6 := b5.trans (Only2.one ho6)
      clear hr6 ho6 b5
      refine hK.out _ _ ⟨h6.out.at.1, h6.out.at.2.2.2.1⟩ (fun hHeld => ?_)
      clear hK
      refine wpAnyH_ready (rs := [20]) (by kernel_rfl) (by simp) ?_
      refine AllReadyH.cons rfl (fun K hK => ?_) AllReadyH.nil
      go_simp
      go_at_call 83
      refine (D2.out _ h6.out.rd).mono ?_
      rintro e w7 ⟨rfl, hr7, ho7⟩
      have h7 := Lib.hid (h6.out.read hr7 ho7)
      have own7 := Lib.hid (own_mv (w' := w7) own6.out (fun k hk hk2 => ho7.k k (by omega) hk2))
      have b7 := b6.trans (Only2.one ho7)
      have l7 := h7.out.lt
      have z7 := b7.b.size
      clear hr7 ho7 b6
      refine hK.out _ _ ⟨h7.out.at.1, h7.out.at.2.2.2.1⟩ (fun hHeld => ?_)
      clear hK
      refine wpAnyH_take (i := 21) (v := .agg #[.string nm, .bool dr, .int .u64 x, .int .u64 y]) rfl (by kernel_rfl) (by kernel_rfl) (by kernel_rfl) (fun _ _ _ h => h) (Or.inl ⟨by rfl, fun W hSw => by obtain ⟨z0, z3⟩ := hSw; go_simp⟩) hHeld ?_
      simp only [Act.put]
      refine wpAnyH_ready (rs := [22]) (by kernel_rfl) (by simp) ?_
      refine AllReadyH.cons rfl (fun K hK => ?_) AllReadyH.nil
      go_simp
      refine hK.out _ _ ⟨(h7.out.on ((Below.refl _ _).alloc (Nat.le_refl _) _)).at.1, (h7.out.on ((Below.refl _ _).alloc (Nat.le_refl _) _)).at.2.2.2.1⟩ (fun hHeld => ?_)
      clear hK
      refine wpAnyH_ready (rs := [23]) (by kernel_rfl) (by simp) ?_
      refine AllReadyH.cons rfl (fun K hK => ?_) AllReadyH.nil
      refine step_append_lies _ (by rfl) (.tmp 14) (.tmp 31) 22 (by rfl) w.heap.size 45 i0 (.agg #[.string ⟨#[]⟩, .bool false, .int .u64 0, .int .u64 0]) 4 40 Try.underlying22 hi hz0 hz1 hz2 (by rfl) (by decide) ve j (rowX A) (by simp [Act.eval]) (own7.out.alloc _) ⟨w7.heap.size, 0, none⟩ 1 1 [.string nm, .bool dr, .int .u64 x, .int .u64 y] (by simp [Act.eval]) rfl (four_ent w7 _ rfl nm dr x y _) (ent_one nm dr x y) Nat.zero_lt_one (by unfold maxLen; omega) (by omega) (by simp; omega) _ rfl ?_
      intro g' cap' w8 hown hgrow _ _
      have h8 := Lib.hid (Ro.grown (h7.out.on ((Below.refl _ _).alloc (Nat.le_refl _) (.cells #[.string nm, .bool dr, .int .u64 x, .int .u64 y] 45))) hgrow (fun k e => by have := (own7.out.lt k e).1; omega))
      have f8 := h8.out.f 3
      have i3 := h8.out.at.2.2.2.1
      have b8 := (b7.alloc lw (.cells #[.string nm, .bool dr, .int .u64 x, .int .u64 y] 45)).grown hgrow lw (fun k e => (own7.out.lt k e).1)
      have S8 := Lib.hid (h8.out.setE (.slice (some ⟨g', 0, none⟩) (j + 1) cap'))
      have O8 := Lib.hid (own_mv (w' := w8.setCell ⟨N + 1, 3, none⟩ (.slice (some ⟨g', 0, none⟩) (j + 1) cap')) hown (fun k hk _ => Below.heap_setCell w8 ⟨N + 1, 3, none⟩ _ k (show k ≠ N + 1 by omega)))
      have B8 := b8.trans (Only2.two (Only1.set (N := N + 1) w8 3 (.slice (some ⟨g', 0, none⟩) (j + 1) cap')))
      clear hown hgrow b8
      refine hK.out _ _ ⟨h8.out.at.1, h8.out.at.2.2.2.1⟩ (fun hHeld => ?_)
      clear hK
      refine wpAnyH_take (i := 24) (v := .pointer (some ⟨N + 1, 0, none⟩)) rfl (by kernel_rfl) (by kernel_rfl) (by kernel_rfl) (fun _ _ _ h => h) (Or.inl ⟨by rfl, fun W hSw => by obtain ⟨z0, z3⟩ := hSw; go_simp⟩) hHeld ?_
      simp only [Act.put]
      refine wpAnyH_take (i := 25) (v := .pointer (some ⟨N + 1, 1, none⟩)) rfl (by kernel_rfl) (by kernel_rfl) (by kernel_rfl) (fun _ _ _ h => h) (Or.inl ⟨by rfl, fun W hSw => by obtain ⟨z0, z3⟩ := hSw; go_simp⟩) hHeld ?_
      simp only [Act.put]
      refine wpAnyH_take (i := 26) (v := .pointer (some ⟨N + 1, 3, none⟩)) rfl (by kernel_rfl) (by kernel_rfl) (by kernel_rfl) (fun _ _ _ h => h) (Or.inl ⟨by rfl, fun W hSw => by obtain ⟨z0, z3⟩ := hSw; go_simp⟩) hHeld ?_
      simp only [Act.put]
      refine wpAnyH_done (by kernel_rfl) ?_ _
      unfold lastly
      go_simp
      go_wp2
      go_roundw
      case rel => exact ⟨j + 1, A ++ [⟨nm, dr, (x, y)⟩], q', _, by omega, by go_num, Lib.hid (by rw [EN.out]; exact HJ2.out), Lib.hid (by rw [List.length_append, HA.out]; rfl), hq2, S8, Lib.hid (by rw [rowX_snoc]; exact O8.out), B8⟩
      case measure => simp [intOf]; omega
    · obtain rfl : j = n := by omega
      have HJ2 := HJ.out
      rw [Nat.sub_self, rdXs] at HJ2
      obtain ⟨rfl, rfl⟩ := Prod.mk.inj HJ2
      clear HJ HJ2
      go_wp2
      go_end0
      exact ⟨rfl, ve, HR.out, HO.out, HA.out, hb⟩
end Go.Proofs.Ytiaahjoldahlnaa
