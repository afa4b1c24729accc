/- What merges of values are, and the example, at this translation. -/
import Derived.Test.YtgnkfikihjjpeaaMerge4
import Derived.Test.YtgnkfikihjjpeaaSmall
namespace Go.Proofs.Ytgnkfikihjjpeaa
open Go.RowKit Go.Great Go.Maps

/-- The sum of a value. -/
def one (x : BA) : Sm := ⟨[x], []⟩
theorem one_norm (x : BA) : Norm (one x) := ⟨by simp [one, asc], by simp [one, asc], by simp [one]⟩
theorem one_ok {x : BA} (h : x.size ≤ 65536) : Ok (one x) := ⟨rfl, by simp [one], one_norm x, by simpa [one] using h, by simp [one]⟩
theorem cnt_one (x s : BA) : cnt (one x) s = if x = s then 1 else 0 := by
  simp only [cnt, one, List.count_singleton, List.count_nil]
  by_cases h : x = s
  · subst h; simp
  · rw [if_neg h, if_neg (by simpa using h)]; rfl
/-- Two changes of a value. -/
theorem two_sides {x y z : BA} {M : Sm} (h : Mrg (one x) (one y) (one z) M) (hxy : x ≠ y) (hyz : y ≠ z) (hxz : x ≠ z) : M = ⟨if bl y z = true then [y, z] else [z, y], [x]⟩ := by
  refine h.n.ext ⟨?_, by simp [asc], ?_⟩ fun s => ?_
  · show asc (if bl y z = true then [y, z] else [z, y])
    cases hb : bl y z
    · simp [asc, hb]
    · simp [asc, lt_le hb]
  · intro s hs hr
    have hs : s ∈ (if bl y z = true then [y, z] else [z, y]) := hs
    have hr : s = x := by simpa using hr
    subst hr
    cases hb : bl y z <;> simp [hb] at hs <;> rcases hs with hs | hs <;> first | exact hxy hs | exact hxz hs
  · rw [h.c, cnt_one, cnt_one, cnt_one]
    have e : List.count s (if bl y z = true then [y, z] else [z, y]) = (if y = s then 1 else 0) + if z = s then 1 else 0 := by
      cases hb : bl y z <;> simp [List.count_cons, Nat.add_comm]
    show _ = ((List.count s (if bl y z = true then [y, z] else [z, y]) : Nat) : Int) - (List.count s [x] : Nat)
    rw [e, List.count_singleton]
    have e2 : (if (x == s) = true then 1 else 0 : Nat) = if x = s then 1 else 0 := by simp
    rw [e2]
    split <;> split <;> split <;> simp_all
theorem undo_left {x y z : BA} {M N : Sm} (h : Mrg (one x) (one y) (one z) M) (h2 : Mrg (one y) M (one x) N) : N = one z :=
  h2.n.ext (one_norm z) fun s => by rw [h2.c, h.c]; omega
theorem undo_right {x y z : BA} {M N : Sm} (h : Mrg (one x) (one y) (one z) M) (h2 : Mrg (one z) M (one x) N) : N = one y :=
  h2.n.ext (one_norm y) fun s => by rw [h2.c, h.c]; omega
/-- What is merged is valid. -/
theorem Mrg.ok {B L R M : Sm} (h : Mrg B L R M) (hB : Ok B) (hL : Ok L) (hR : Ok R) (hl : L.A.length + R.A.length + B.R.length ≤ 1000) : Ok M := by
  have e := h.length
  have m := h.most
  have i1 := hB.l
  have i2 := hL.l
  have i3 := hR.l
  refine ⟨by omega, by omega, h.n, fun x hx => ?_, fun x hx => ?_⟩
  · rcases h.memA hx with hx | hx | hx
    · exact hL.a x hx
    · exact hR.a x hx
    · exact hB.r x hx
  · rcases h.memR hx with hx | hx | hx
    · exact hL.r x hx
    · exact hR.r x hx
    · exact hB.a x hx
/-- What Merge of valid sums yields is valid. -/
theorem merged_ok {B L R M : Sm} (h : (L = R → M = L) ∧ (L ≠ R → Mrg B L R M)) (hB : Ok B) (hL : Ok L) (hR : Ok R) (hl : L.A.length + R.A.length + B.R.length ≤ 1000) : Ok M := by
  by_cases e : L = R
  · rw [h.1 e]; exact hL
  · exact (h.2 e).ok hB hL hR hl
theorem len_ne {L R : Sm} (h : L.A.length ≠ R.A.length) : L ≠ R := fun e => h (by rw [e])
end Go.Proofs.Ytgnkfikihjjpeaa
