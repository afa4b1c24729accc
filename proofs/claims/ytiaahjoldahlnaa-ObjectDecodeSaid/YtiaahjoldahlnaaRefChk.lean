/- The reference's encode whole, Check and Encode, at this translation. -/
import Derived.Test.YtiaahjoldahlnaaRefEnc
import Derived.Test.YtiaahjoldahlnaaOpen
import Derived.Test.YtiaahjoldahlnaaEnc
namespace Go.Proofs.Ytiaahjoldahlnaa
open Go.RowKit Go.Great
attribute [local go_sem] eq_arr

theorem renc_any (o : Ob) (v : Value) (w : World) (hv : IsOb w v o) (hu : o.Digs64) (hc : chkFields o = 0) (hd : o.data.size ≤ 65536) (s : BA) (hs : encS o = s) :
    Calls Try.prog 28 #[v] w fun e w' => e = .returned (.string s) ∧ Below w.heap.size w w' := by
  obtain ⟨ve, vp, rfl, hE, hP⟩ := hv
  subst hs
  rcases chkFields_ok hc with ⟨h1, _, _⟩ | ⟨h1, _, _, h4⟩ | ⟨h1, _, _, h4⟩
  · have e : encS o = numS o.kind.toNat ++ txtS o.data := by
      unfold encS
      rw [if_neg (by omega), if_neg (by omega)]
    rw [e]
    rcases h1 with h1 | h1
    · rw [h1]
      exact renc_blob1 o.data ve o.tree.1 o.tree.2 vp o.author o.time o.msg hd w
    · rw [h1]
      exact renc_blob4 o.data ve o.tree.1 o.tree.2 vp o.author o.time o.msg hd w
  · have e : encS o = numS 2 ++ numS o.ents.length ++ catS (o.ents.map entS) := by
      unfold encS
      rw [if_pos h1]
    obtain ⟨l1, l2⟩ := chkEnts_ok h4
    rw [e, h1]
    exact renc_tree o.data o.ents ve o.tree.1 o.tree.2 vp o.author o.time o.msg l1 l2 hu.2.2 w hE
  · obtain ⟨_, c2, _, c4, c5, c6, c7⟩ := chkCommit_ok h4
    obtain ⟨m, hm⟩ : ∃ m : Nat, o.time = m := ⟨o.time.toNat, by omega⟩
    have e : encS o = numS 3 ++ (dgS o.tree.1 o.tree.2 ++ numS o.pars.length) ++ catS (o.pars.map digS) ++ (txtS o.author ++ numS m ++ txtS o.msg) := by
      unfold encS
      rw [if_neg (by omega), if_pos h1, hm]
      rfl
    rw [e, h1, hm]
    exact renc_com o.data ve o.tree.1 o.tree.2 o.pars vp o.author m o.msg hu.1 hu.2.1 c2 (isName_le c4) (by omega) c7 w hP

theorem szD_le (n : Nat) (h : n ≤ 65536) : szD n = (Cd.enc7 n).length := by unfold szD; rw [if_pos (by omega)]
theorem one_size (k : Nat) (h : k < 128) : (numS k).size = 1 := by rw [numS_size, Cd.enc7_small k h]; rfl
/-- How long an encoding is. -/
theorem encS_size {o : Ob} (hc : chkFields o = 0) (hd : o.data.size ≤ 65536) : ((o.kind = 1 ∨ o.kind = 4) ∧ (encS o).size = 1 + szD o.data.size + o.data.size) ∨ (o.data = ⟨#[]⟩ ∧ (encS o).size ≤ 20000) := by
  rcases chkFields_ok hc with ⟨h1, _, _⟩ | ⟨h1, _, h3, h4⟩ | ⟨h1, h3, _, h4⟩
  · refine .inl ⟨h1, ?_⟩
    unfold encS
    rw [if_neg (by omega), if_neg (by omega), ByteArray.size_append, one_size _ (by omega), txtS_size, szD_le _ hd]
    omega
  · refine .inr ⟨h3, ?_⟩
    obtain ⟨l1, l2⟩ := chkEnts_ok h4
    have z1 := numS_le o.ents.length (by omega)
    have z2 := numS_le 2 (by omega)
    have z3 := catS_take_le entS o.ents 60 (fun x hx => entS_le x (l2 x hx)) o.ents.length
    rw [List.take_length] at z3
    unfold encS
    rw [if_pos h1, ByteArray.size_append, ByteArray.size_append]
    omega
  · refine .inr ⟨h3, ?_⟩
    obtain ⟨_, c2, _, c4, c5, c6, c7⟩ := chkCommit_ok h4
    have z1 := numS_le o.pars.length (by omega)
    have z2 := digS_size o.tree
    have z3 := txtS_le o.author 24 (isName_le c4) (by omega)
    have z4 := numS_le o.time.toNat (by omega)
    have z5 := txtS_le o.msg 200 c7 (by omega)
    have z6 := catS_take_le digS o.pars 16 (fun x _ => Nat.le_of_eq (digS_size x)) o.pars.length
    have z7 := numS_le 3 (by omega)
    rw [List.take_length] at z6
    unfold encS comHead comTail
    rw [if_neg (by omega), if_pos h1]
    simp only [ByteArray.size_append]
    omega
theorem chkRef_bad {o : Ob} (h : chkRef o ≠ 0) : chkRef o = chk o := by
  unfold chkRef at h ⊢
  unfold chk
  by_cases h0 : chkFields o = 0
  · have e0 : ¬ chkFields o ≠ 0 := by omega
    rw [if_neg e0] at h
    rw [if_neg e0, if_neg e0]
    by_cases h1 : (o.kind = 1 ∨ o.kind = 4) ∧ 65536 < o.data.size
    · rw [if_pos h1, if_pos (by omega)]
    · rw [if_neg h1] at h
      exact absurd rfl h
  · rw [if_pos h0, if_pos h0]
theorem chkRef_ok {o : Ob} (h : chkRef o = 0) : chkFields o = 0 ∧ o.data.size ≤ 65536 ∧ ((65536 < (encS o).size ∧ chk o = 4) ∨ (¬ 65536 < (encS o).size ∧ chk o = 0)) := by
  unfold chkRef at h
  by_cases h0 : chkFields o = 0
  · rw [if_neg (by omega)] at h
    have hd : o.data.size ≤ 65536 := by
      by_cases h1 : o.kind = 1 ∨ o.kind = 4
      · by_cases h2 : 65536 < o.data.size
        · rw [if_pos ⟨h1, h2⟩] at h; cases h
        · omega
      · rcases chkFields_ok h0 with ⟨k1, _, _⟩ | ⟨_, _, k3, _⟩ | ⟨_, k3, _, _⟩
        · exact absurd k1 h1
        · rw [k3]; exact Nat.zero_le _
        · rw [k3]; exact Nat.zero_le _
    refine ⟨h0, hd, ?_⟩
    unfold chk
    rw [if_neg (by omega)]
    rcases encS_size h0 hd with ⟨_, e⟩ | ⟨e1, e2⟩
    · rw [e]
      by_cases hb : 65536 < 1 + szD o.data.size + o.data.size
      · exact .inl ⟨hb, if_pos hb⟩
      · exact .inr ⟨hb, if_neg hb⟩
    · refine .inr ⟨by omega, if_neg ?_⟩
      have := szD_le o.data.size hd
      have := Cd.enc6 o.data.size (by omega)
      have : o.data.size = 0 := by rw [e1]; rfl
      omega
  · rw [if_pos h0] at h
    exact absurd h h0

set_option maxRecDepth 100000 in
set_option maxHeartbeats 4000000 in
theorem rchk_bad (k : Int) (d : BA) (ve : Value) (t1 t2 : Nat) (vp : Value) (au : BA) (ti : Int) (ms : BA) (w : World) (r : Int) (hr : r ≠ 0)
    (C : ∀ W, Below w.heap.size w W → Calls Try.prog 27 #[.agg #[.int .i64 k, .string d, ve, .int .u64 t1, .int .u64 t2, vp, .string au, .int .i64 ti, .string ms]] W fun e w' => e = .returned (.int .i64 r) ∧ Below W.heap.size W w') :
    Calls Try.prog 13 #[.agg #[.int .i64 k, .string d, ve, .int .u64 t1, .int .u64 t2, vp, .string au, .int .i64 ti, .string ms]] w fun e w' => e = .returned (.int .i64 r) ∧ Below w.heap.size w w' := by
  have HC := Lib.hid C
  have h0 := Bo.fresh w k d ve t1 t2 vp au ti ms
  have hne : (r != 0) = true := by simpa using hr
  clear C hr
  go_enter Try.func13, Try.ntmps13
  go_wp2_with fail
  ((with_reducible refine (HC.out _ h0.b).mono ?_); rintro e w1 ⟨rfl, hb1⟩)
  have hb := (h0.on hb1).b
  clear h0 hb1
  go_wp2
  go_ret
  exact ⟨rfl, hb⟩

set_option maxRecDepth 100000 in
set_option maxHeartbeats 4000000 in
theorem rchk_ok (k : Int) (d : BA) (ve : Value) (t1 t2 : Nat) (vp : Value) (au : BA) (ti : Int) (ms : BA) (w : World) (s : BA) (hsz : s.size ≤ 9223372036854775807) (r : Int) (hr : (65536 < s.size ∧ r = 4) ∨ (¬ 65536 < s.size ∧ r = 0))
    (C : ∀ W, Below w.heap.size w W → Calls Try.prog 27 #[.agg #[.int .i64 k, .string d, ve, .int .u64 t1, .int .u64 t2, vp, .string au, .int .i64 ti, .string ms]] W fun e w' => e = .returned (.int .i64 0) ∧ Below W.heap.size W w')
    (D : ∀ W, Below w.heap.size w W → Calls Try.prog 28 #[.agg #[.int .i64 k, .string d, ve, .int .u64 t1, .int .u64 t2, vp, .string au, .int .i64 ti, .string ms]] W fun e w' => e = .returned (.string s) ∧ Below W.heap.size W w') :
    Calls Try.prog 13 #[.agg #[.int .i64 k, .string d, ve, .int .u64 t1, .int .u64 t2, vp, .string au, .int .i64 ti, .string ms]] w fun e w' => e = .returned (.int .i64 r) ∧ Below w.heap.size w w' := by
  have HC := Lib.hid C
  have HD := Lib.hid D
  have h0 := Bo.fresh w k d ve t1 t2 vp au ti ms
  clear C D
  rcases hr with ⟨hs, rfl⟩ | ⟨hs, rfl⟩
  · go_enter Try.func13, Try.ntmps13
    go_wp2_with fail
    ((with_reducible refine (HC.out _ h0.b).mono ?_); rintro e w1 ⟨rfl, hb1⟩)
    have h1 := h0.on hb1
    have hb := h1.b
    have H1 := Lib.hid h1
    obtain ⟨y0, y1, y2, y3, y4, y5, y6, y7, y8, -, -⟩ := h1
    clear h0 hb1
    go_wp2_with fail
    ((with_reducible refine (HD.out _ hb).mono ?_); rintro e w2 ⟨rfl, hb2⟩)
    have hb' := (H1.out.on hb2).b
    clear hb H1 hb2 y0 y1 y2 y3 y4 y5 y6 y7 y8
    go_wp2
    go_ret
    exact ⟨rfl, hb'⟩
  · go_enter Try.func13, Try.ntmps13
    go_wp2_with fail
    ((with_reducible refine (HC.out _ h0.b).mono ?_); rintro e w1 ⟨rfl, hb1⟩)
    have h1 := h0.on hb1
    have hb := h1.b
    have H1 := Lib.hid h1
    obtain ⟨y0, y1, y2, y3, y4, y5, y6, y7, y8, -, -⟩ := h1
    clear h0 hb1
    go_wp2_with fail
    ((with_reducible refine (HD.out _ hb).mono ?_); rintro e w2 ⟨rfl, hb2⟩)
    have hb' := (H1.out.on hb2).b
    clear hb H1 hb2 y0 y1 y2 y3 y4 y5 y6 y7 y8
    go_wp2
    go_ret
    exact ⟨rfl, hb'⟩

theorem refChk_any (o : Ob) (v : Value) (w : World) (hv : IsOb w v o) (hf : o.Fit) (hu : o.Digs64) (r : Int) (hr : chk o = r) :
    Calls Try.prog 13 #[v] w fun e w' => e = .returned (.int .i64 r) ∧ Below w.heap.size w w' := by
  have hv0 := hv
  obtain ⟨ve, vp, rfl, hE, hP⟩ := hv
  have hB := fun (W : World) (hW : Below w.heap.size w W) => hv0.below hW (Nat.le_refl _)
  subst hr
  by_cases h : chkRef o = 0
  · obtain ⟨h0, hd, hs⟩ := chkRef_ok h
    have hz : (encS o).size ≤ 9223372036854775807 := by
      rcases encS_size h0 hd with ⟨_, e⟩ | ⟨_, e⟩
      · have := szD_le o.data.size hd
        have := Cd.enc6 o.data.size (by omega)
        omega
      · omega
    exact rchk_ok o.kind o.data ve o.tree.1 o.tree.2 vp o.author o.time o.msg w (encS o) hz _ hs (fun W hW => refFields_any o _ W (hB W hW) hf 0 h) (fun W hW => renc_any o _ W (hB W hW) hu h0 hd _ rfl)
  · rw [← chkRef_bad h]
    exact rchk_bad o.kind o.data ve o.tree.1 o.tree.2 vp o.author o.time o.msg w _ h (fun W hW => refFields_any o _ W (hB W hW) hf _ rfl)

set_option maxRecDepth 100000 in
set_option maxHeartbeats 4000000 in
theorem rencode_bad (k : Int) (d : BA) (ve : Value) (t1 t2 : Nat) (vp : Value) (au : BA) (ti : Int) (ms : BA) (w : World) (r : Int) (hr : r ≠ 0)
    (C : ∀ W, Below w.heap.size w W → Calls Try.prog 13 #[.agg #[.int .i64 k, .string d, ve, .int .u64 t1, .int .u64 t2, vp, .string au, .int .i64 ti, .string ms]] W fun e w' => e = .returned (.int .i64 r) ∧ Below W.heap.size W w') :
    Calls Try.prog 18 #[.agg #[.int .i64 k, .string d, ve, .int .u64 t1, .int .u64 t2, vp, .string au, .int .i64 ti, .string ms]] w fun e w' => e = .returned (.tuple #[.string ⟨#[]⟩, .int .i64 r]) ∧ Below w.heap.size w w' := by
  have HC := Lib.hid C
  have h0 := Bo.fresh w k d ve t1 t2 vp au ti ms
  have hne : (r != 0) = true := by simpa using hr
  clear C hr
  go_enter Try.func18, Try.ntmps18
  go_wp2_with fail
  ((with_reducible refine (HC.out _ h0.b).mono ?_); rintro e w1 ⟨rfl, hb1⟩)
  have hb := (h0.on hb1).b
  clear h0 hb1
  go_wp2
  go_ret2
  exact ⟨rfl, hb⟩

set_option maxRecDepth 100000 in
set_option maxHeartbeats 4000000 in
theorem rencode_ok (k : Int) (d : BA) (ve : Value) (t1 t2 : Nat) (vp : Value) (au : BA) (ti : Int) (ms : BA) (w : World) (s : BA)
    (C : ∀ W, Below w.heap.size w W → Calls Try.prog 13 #[.agg #[.int .i64 k, .string d, ve, .int .u64 t1, .int .u64 t2, vp, .string au, .int .i64 ti, .string ms]] W fun e w' => e = .returned (.int .i64 0) ∧ Below W.heap.size W w')
    (D : ∀ W, Below w.heap.size w W → Calls Try.prog 28 #[.agg #[.int .i64 k, .string d, ve, .int .u64 t1, .int .u64 t2, vp, .string au, .int .i64 ti, .string ms]] W fun e w' => e = .returned (.string s) ∧ Below W.heap.size W w') :
    Calls Try.prog 18 #[.agg #[.int .i64 k, .string d, ve, .int .u64 t1, .int .u64 t2, vp, .string au, .int .i64 ti, .string ms]] w fun e w' => e = .returned (.tuple #[.string s, .int .i64 0]) ∧ Below w.heap.size w w' := by
  have HC := Lib.hid C
  have HD := Lib.hid D
  have h0 := Bo.fresh w k d ve t1 t2 vp au ti ms
  clear C D
  go_enter Try.func18, Try.ntmps18
  go_wp2_with fail
  ((with_reducible refine (HC.out _ h0.b).mono ?_); rintro e w1 ⟨rfl, hb1⟩)
  have h1 := h0.on hb1
  have hb := h1.b
  have H1 := Lib.hid h1
  obtain ⟨y0, y1, y2, y3, y4, y5, y6, y7, y8, -, -⟩ := h1
  clear h0 hb1
  go_wp2_with fail
  ((with_reducible refine (HD.out _ hb).mono ?_); rintro e w2 ⟨rfl, hb2⟩)
  have hb' := (H1.out.on hb2).b
  clear hb H1 hb2 y0 y1 y2 y3 y4 y5 y6 y7 y8
  go_wp2
  go_ret2
  exact ⟨rfl, hb'⟩

theorem refEncode_any (o : Ob) (v : Value) (w : World) (hv : IsOb w v o) (hf : o.Fit) (hu : o.Digs64) (s : BA) (hs : encD o = s) (r : Int) (hr : chk o = r) :
    Calls Try.prog 18 #[v] w fun e w' => e = .returned (.tuple #[.string s, .int .i64 r]) ∧ Below w.heap.size w w' := by
  have hv0 := hv
  obtain ⟨ve, vp, rfl, hE, hP⟩ := hv
  have hB := fun (W : World) (hW : Below w.heap.size w W) => hv0.below hW (Nat.le_refl _)
  by_cases h : chk o = 0
  · obtain rfl : r = 0 := by rw [← hr]; exact h
    rw [encD, if_pos h] at hs
    obtain ⟨h1, h2⟩ := chk_fields h
    exact rencode_ok o.kind o.data ve o.tree.1 o.tree.2 vp o.author o.time o.msg w s (fun W hW => refChk_any o _ W (hB W hW) hf hu 0 h) (fun W hW => renc_any o _ W (hB W hW) hu h1 h2 s hs)
  · rw [encD, if_neg h] at hs
    subst hs
    exact rencode_bad o.kind o.data ve o.tree.1 o.tree.2 vp o.author o.time o.msg w r (by rw [← hr]; exact h) (fun W hW => refChk_any o _ W (hB W hW) hf hu r hr)
end Go.Proofs.Ytiaahjoldahlnaa
