/- Boxes that hold sums, at this translation. -/
import Derived.Test.YtgnkfikihjjpeaaAwake2
namespace Go.Proofs.Ytgnkfikihjjpeaa
open Go.RowKit Go.Great Go.Maps

/-- Boxes that hold sums, each with what it reads as; nothing that lay before has turned. -/
structure Un (bx : List (Nat × Value × Value × Sm)) (w W : World) : Prop where
  b : Below w.heap.size w W
  x : ∀ t ∈ bx, SBox W t.1 t.2.1 t.2.2.1 ∧ IsSum W t.2.1 t.2.2.1 t.2.2.2
theorem Un.on {bx : List (Nat × Value × Value × Sm)} {w W W' : World} (h : Un bx w W) (hc : Below W.heap.size W W') : Un bx w W' :=
  ⟨h.b.trans (hc.mono h.b.size), fun t ht => ⟨(h.x t ht).1.below hc (h.x t ht).1.lt, (h.x t ht).2.below hc (Nat.le_refl _)⟩⟩
theorem Un.alloc {bx : List (Nat × Value × Value × Sm)} {w W : World} (h : Un bx w W) (o : Obj) : Un bx w (W.alloc o) := h.on ((Below.refl _ _).alloc (Nat.le_refl _) o)
theorem Un.drew {bx : List (Nat × Value × Value × Sm)} {w W : World} (h : Un bx w W) : Un bx w W.drew := h.on (Below.refl _ _).drew
theorem Un.h {bx : List (Nat × Value × Value × Sm)} {w W : World} {k : Nat} {a r : Value} {S : Sm} (h : Un ((k, a, r, S) :: bx) w W) : SBox W k a r := (h.x _ (List.mem_cons_self ..)).1
theorem Un.s {bx : List (Nat × Value × Value × Sm)} {w W : World} {k : Nat} {a r : Value} {S : Sm} (h : Un ((k, a, r, S) :: bx) w W) : IsSum W a r S := (h.x _ (List.mem_cons_self ..)).2
theorem Un.t {bx : List (Nat × Value × Value × Sm)} {w W : World} {t : Nat × Value × Value × Sm} (h : Un (t :: bx) w W) : Un bx w W := ⟨h.b, fun s hs => h.x s (List.mem_cons_of_mem _ hs)⟩
/-- One box more, behind all: the result of a call. -/
theorem Un.new {bx : List (Nat × Value × Value × Sm)} {w W : World} {a r : Value} {S : Sm} (h : Un bx w W) (hs : IsSum W a r S) : Un ((W.heap.size, a, r, S) :: bx) w (W.alloc (.cells #[a, r] 24)) := by
  refine ⟨(h.alloc _).b, fun t ht => ?_⟩
  rcases List.mem_cons.1 ht with rfl | ht
  · exact ⟨SBox.new W a r, hs.below ((Below.refl _ _).alloc (Nat.le_refl _) _) (Nat.le_refl _)⟩
  · exact (h.alloc _).x t ht
/-- One box more that was laid ahead and is written now. -/
theorem Un.put {bx : List (Nat × Value × Value × Sm)} {w W : World} {a1 a2 : Option Addr} {n1 n2 c1 c2 kz : Nat} {S : Sm} (h : Un bx w W) (hz : SBox W kz (.slice none 0 0) (.slice none 0 0)) (hk : w.heap.size ≤ kz) (hne : ∀ t ∈ bx, t.1 ≠ kz) (hs : IsSum W (.slice a1 n1 c1) (.slice a2 n2 c2) S) :
    Un ((kz, .slice a1 n1 c1, .slice a2 n2 c2, S) :: bx) w ((W.setCell ⟨kz, 0, none⟩ (.slice a1 n1 c1)).setCell ⟨kz, 1, none⟩ (.slice a2 n2 c2)) := by
  have hz1 := hz.set0 (.slice a1 n1 c1)
  refine ⟨(h.b.setCell (p := ⟨kz, 0, none⟩) hk _).setCell (p := ⟨kz, 1, none⟩) hk _, fun t ht => ?_⟩
  rcases List.mem_cons.1 ht with rfl | ht
  · exact ⟨hz1.set1 _, (hs.a.box hz 0 _).box hz1 1 _, (hs.r.box hz 0 _).box hz1 1 _⟩
  · have ⟨i1, i2⟩ := h.x t ht
    exact ⟨(i1.other (hne t ht) 0 _).other (hne t ht) 1 _, (i2.a.box hz 0 _).box hz1 1 _, (i2.r.box hz 0 _).box hz1 1 _⟩
theorem Un.swap {bx : List (Nat × Value × Value × Sm)} {w W : World} {s t : Nat × Value × Value × Sm} (h : Un (s :: t :: bx) w W) : Un (t :: s :: bx) w W := ⟨h.b, fun u hu => h.x u (by simp only [List.mem_cons] at hu ⊢; rcases hu with hu | hu | hu; exact .inr (.inl hu); exact .inl hu; exact .inr (.inr hu))⟩
theorem Un.lts {bx : List (Nat × Value × Value × Sm)} {w W : World} (h : Un bx w W) : ∀ t ∈ bx, t.1 < W.heap.size := fun t ht => (h.x t ht).1.lt
theorem nes {bx : List (Nat × Value × Value × Sm)} {n : Nat} (h : ∀ t ∈ bx, t.1 < n) : ∀ t ∈ bx, t.1 ≠ n := fun t ht => Nat.ne_of_lt (h t ht)
theorem str_ne {x y : BA} (h : x ≠ y) : (x.toList == y.toList) = false := beq_eq_false_iff_ne.2 fun e => h (toList_inj e)
theorem str_self (x : BA) : (x.toList == x.toList) = true := beq_self_eq_true _
end Go.Proofs.Ytgnkfikihjjpeaa
