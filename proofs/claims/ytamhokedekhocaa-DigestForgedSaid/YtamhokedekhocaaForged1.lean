/- Digests as numbers below 2^64, strings that are hashed, and two different strings with the same digest, at this translation. -/
import Derived.Test.YtamhokedekhocaaVerify6
import Derived.Test.YtamhokedekhocaaTree1
namespace Go.Proofs.Ytamhokedekhocaa
open Go.RowKit
attribute [local go_sem] eq_arr

theorem byW_inj : ∀ (w m n : Nat), m < 256 ^ w → n < 256 ^ w → byW w m = byW w n → m = n
  | 0, m, n, h1, h2, _ => by simp at h1 h2; omega
  | w + 1, m, n, h1, h2, h => by
    rw [byW, byW] at h
    obtain ⟨e1, e2⟩ := List.append_inj' h rfl
    rw [Nat.pow_succ] at h1 h2
    have i1 := byW_inj w (m / 256) (n / 256) (by omega) (by omega) e1
    simp only [List.cons.injEq, and_true] at e2
    have e3 := congrArg UInt8.toNat e2
    simp [UInt8.toNat_ofNat'] at e3
    omega
/-- A digest whose numbers are below 2^64. -/
def Small (d : Dig) : Prop := d.1 < 2 ^ 64 ∧ d.2 < 2 ^ 64
theorem byS_inj (a b : Dig) (ha : Small a) (hb : Small b) (h : byS a.1 a.2 = byS b.1 b.2) : a = b := by
  have h' : byW 8 a.1 ++ byW 8 a.2 = byW 8 b.1 ++ byW 8 b.2 := by
    have := congrArg (fun s : ByteArray => s.data.toList) h
    simpa [byS] using this
  obtain ⟨e1, e2⟩ := List.append_inj h' (by rw [byW_length, byW_length])
  obtain ⟨a0, a1⟩ := a
  obtain ⟨b0, b1⟩ := b
  obtain ⟨u0, u1⟩ := ha
  obtain ⟨v0, v1⟩ := hb
  have := byW_inj 8 a0 b0 (by simpa using u0) (by simpa using v0) e1
  have := byW_inj 8 a1 b1 (by simpa using u1) (by simpa using v1) e2
  simp [*]
theorem u64_lt (x : Int) : IntKind.u64.wrap x < 2 ^ 64 := by rw [IntKind.wrap_u64]; omega
theorem hs_lt (g : Int → Int → Int) (hg : ∀ a b, g a b < 2 ^ 64) (l : List UInt8) : hs g l < 2 ^ 64 := by
  rcases List.eq_nil_or_concat l with rfl | ⟨l', c, rfl⟩
  · simp [hs, start]
  · rw [List.concat_eq_append, hs_snoc]; exact hg _ _
theorem ofD_small (l : List UInt8) : Small (ofD l) := by
  have h0 : of0 l < 2 ^ 64 := hs_lt g1 (fun _ _ => u64_lt _) l
  have h1 : of1 l < 2 ^ 64 := by
    unfold of1
    split
    · decide
    · exact hs_lt g2 (fun a b => u64_lt _) l
  have p0 := of0_pos l
  have p1 := of1_pos l
  unfold ofD Small
  simp only
  omega
theorem leafD_small (d : Dig) : Small (leafD d) := ofD_small _
theorem pairD_small (a b : Dig) : Small (pairD a b) := ofD_small _
theorem rootT_small (f : Nat) (L : List Dig) : Small (rootT f L) := by
  cases f with
  | zero => exact ofD_small _
  | succ f =>
    unfold rootT
    split
    · exact ofD_small _
    · split
      · exact leafD_small _
      · exact pairD_small _ _
theorem rootM_small (n i : Nat) (d : Dig) (rp : List Dig) (h : (rootM n i d rp).2 = true) : Small (rootM n i d rp).1 := by
  cases rp with
  | nil =>
    unfold rootM at h ⊢
    split at h
    · rw [if_pos (by assumption)]; exact leafD_small _
    · simp at h
  | cons p rp =>
    unfold rootM at h ⊢
    split at h
    · simp at h
    · rw [if_neg (by assumption)]
      split
      · exact pairD_small _ _
      · exact pairD_small _ _
/-- What is hashed for a leaf. -/
def leafS (d : Dig) : ByteArray := ByteArray.mk #[0] ++ byS d.1 d.2
def nodeD (a b : Dig) : ByteArray := nodeS a.1 a.2 b.1 b.2
theorem leafS_inj (a b : Dig) (ha : Small a) (hb : Small b) (h : leafS a = leafS b) : a = b := by
  refine byS_inj a b ha hb ?_
  have := congrArg (fun s : ByteArray => s.data.toList) h
  simp [leafS, ByteArray.data_append] at this
  exact ByteArray.ext this
theorem nodeS_list (a0 a1 b0 b1 : Nat) : (nodeS a0 a1 b0 b1).data.toList = 1 :: ((byW 8 a0 ++ byW 8 a1) ++ (byW 8 b0 ++ byW 8 b1)) := by
  simp [nodeS, byS, ByteArray.data_append]
theorem nodeD_inj (a b x y : Dig) (h : nodeD a b = nodeD x y) : byS a.1 a.2 = byS x.1 x.2 ∧ byS b.1 b.2 = byS y.1 y.2 := by
  have h' := congrArg (fun s : ByteArray => s.data.toList) h
  simp only [nodeD, nodeS_list] at h'
  injection h' with _ h2
  obtain ⟨e1, e2⟩ := List.append_inj h2 (by simp [byW_length])
  unfold byS
  rw [e1, e2]
  exact ⟨rfl, rfl⟩
theorem rootT_fuel : ∀ (f g : Nat) (L : List Dig), L.length < f → L.length < g → L.length ≤ 1099511627776 → rootT f L = rootT g L
  | 0, _, _, h, _, _ => absurd h (Nat.not_lt_zero _)
  | _ + 1, 0, _, _, h, _ => absurd h (Nat.not_lt_zero _)
  | f + 1, g + 1, L, h1, h2, h3 => by
    rw [rootT, rootT]
    by_cases c0 : L.length = 0
    · rw [if_pos c0, if_pos c0]
    · rw [if_neg c0, if_neg c0]
      by_cases c1 : L.length = 1
      · rw [if_pos c1, if_pos c1]
      · rw [if_neg c1, if_neg c1]
        obtain ⟨_, _, _, _, hk, _⟩ := leftN_spec L.length (by omega) (by omega)
        have hpos : 1 ≤ leftN L.length := Nat.pow_pos (by decide)
        rw [rootT_fuel f g (L.take (leftN L.length)) (by rw [List.length_take]; omega) (by rw [List.length_take]; omega) (by rw [List.length_take]; omega),
          rootT_fuel f g (L.drop (leftN L.length)) (by rw [List.length_drop]; omega) (by rw [List.length_drop]; omega) (by rw [List.length_drop]; omega)]
theorem toList_eq {a b : ByteArray} (h : a.toList = b.toList) : a = b := by
  rw [Lib.toList_data, Lib.toList_data] at h
  exact ByteArray.ext (Array.toList_inj.1 h)
set_option maxHeartbeats 400000 in
/-- Two different strings with the same digest collide. -/
theorem collide_any (s t : ByteArray) (hs : s.size ≤ maxLen) (ht : t.size ≤ maxLen) (hne : s ≠ t) (heq : ofD s.data.toList = ofD t.data.toList) (w : World) :
    Calls Try.prog 50 #[.string s, .string t] w fun e w' => e = .returned (.bool true) ∧ Below w.heap.size w w' := by
  obtain ⟨x, y, hx, hy⟩ : ∃ x y : Int, (Value.agg #[.int .u64 (of0 s.data.toList), .int .u64 (of1 s.data.toList)] = .agg #[.int .u64 x, .int .u64 y]) ∧ (Value.agg #[.int .u64 (of0 t.data.toList), .int .u64 (of1 t.data.toList)] = .agg #[.int .u64 x, .int .u64 y]) :=
    ⟨(ofD t.data.toList).1, (ofD t.data.toList).2, by rw [ofD_v, heq]; rfl, by rw [ofD_v]; rfl⟩
  have HX := Lib.hid hx
  have HY := Lib.hid hy
  clear hx hy heq
  have hne' : ¬ s.toList = t.toList := fun h => hne (toList_eq h)
  clear hne
  go_enter Try.func50, Try.ntmps50
  go_wp2_with fail
  refine (of_any s _ hs).mono ?_
  rintro e w1 ⟨rfl, hb1⟩
  rw [HX.out]
  go_wp2_with fail
  refine (of_any t _ ht).mono ?_
  rintro e w2 ⟨rfl, hb2⟩
  rw [HY.out]
  go_wp2
  go_ret
  have hq : (s.toList == t.toList) = false := beq_eq_false_iff_ne.2 hne'
  refine ⟨?_, bl hb1 hb2⟩
  show Ending.returned (Value.bool (!s.toList == t.toList)) = _
  rw [hq]
  rfl
theorem leafS_size' (d : Dig) : (leafS d).size ≤ maxLen := leafS_size d.1 d.2
theorem nodeD_size (a b : Dig) : (nodeD a b).size ≤ maxLen := by
  have h1 := byS_size a.1 a.2
  have h2 := byS_size b.1 b.2
  unfold nodeD nodeS maxLen
  rw [ByteArray.size_append, ByteArray.size_append, h1, h2]
  decide
theorem leaf_collide (a d : Dig) (ha : Small a) (hd : Small d) (hne : d ≠ a) (heq : leafD d = leafD a) (w : World) :
    Calls Try.prog 50 #[.string (leafS a), .string (leafS d)] w fun e w' => e = .returned (.bool true) ∧ Below w.heap.size w w' :=
  collide_any _ _ (leafS_size' a) (leafS_size' d) (fun h => hne (leafS_inj a d ha hd h).symm) heq.symm w
theorem node_collide (a b x y : Dig) (hne : nodeD a b ≠ nodeD x y) (heq : pairD a b = pairD x y) (w : World) :
    Calls Try.prog 50 #[.string (nodeD a b), .string (nodeD x y)] w fun e w' => e = .returned (.bool true) ∧ Below w.heap.size w w' :=
  collide_any _ _ (nodeD_size a b) (nodeD_size x y) hne heq w
end Go.Proofs.Ytamhokedekhocaa
