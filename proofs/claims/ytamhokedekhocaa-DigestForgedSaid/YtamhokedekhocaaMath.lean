/- Plain arithmetic of digests' texts: sixteen hexadecimal digits of a number below 2^64, and back. No program. -/
import Derived.Lib.Bytealg
import Derived.Lib.IndexLaws
import Derived.Laws.Bits64
import Derived.Laws.BitsLemmas
namespace Go.Proofs.Ytamhokedekhocaa

def hexes : List UInt8 := [48, 49, 50, 51, 52, 53, 54, 55, 56, 57, 97, 98, 99, 100, 101, 102]
def hx (k : Nat) : UInt8 := hexes.getD k 0
/-- The value of a digit, or -1. -/
def dg (c : UInt8) : Int := Lib.indexByte hexes c
def isHex (c : UInt8) : Bool := decide (0 ≤ dg c)

theorem dg_hx : ∀ k : Fin 16, dg (hx k) = (k : Int) := by decide
theorem dg_hx' (k : Nat) (h : k < 16) : dg (hx k) = k := dg_hx ⟨k, h⟩
theorem dg_ge (c : UInt8) : -1 ≤ dg c := Lib.indexByte_ge _ _
theorem hx_dg (c : UInt8) (h : 0 ≤ dg c) : hx (dg c).toNat = c ∧ (dg c).toNat < 16 := by
  obtain ⟨o, ho⟩ : ∃ o : Nat, dg c = o := ⟨(dg c).toNat, by omega⟩
  have := (Lib.indexByte_some (l := hexes) (c := c) (o := o) ho).1
  have hl : o < hexes.length := by
    rcases Nat.lt_or_ge o hexes.length with h1 | h1
    · exact h1
    · rw [List.getElem?_eq_none h1] at this; cases this
  rw [ho]
  refine ⟨?_, by simpa [hexes] using hl⟩
  simp only [Int.toNat_natCast, hx, List.getD, this, Option.getD_some]

/-- The last w digits of a number, the most significant one first. -/
def fmtW : Nat → Nat → List UInt8
  | 0, _ => []
  | w + 1, n => fmtW w (n / 16) ++ [hx (n % 16)]
def val (l : List UInt8) : Nat := l.foldl (fun a c => a * 16 + (dg c).toNat) 0

theorem fmtW_length (w n : Nat) : (fmtW w n).length = w := by
  induction w generalizing n with
  | zero => rfl
  | succ w ih => simp [fmtW, ih]
theorem val_snoc (l : List UInt8) (c : UInt8) : val (l ++ [c]) = val l * 16 + (dg c).toNat := by simp [val]
theorem val_fmtW (w n : Nat) (h : n < 16 ^ w) : val (fmtW w n) = n := by
  induction w generalizing n with
  | zero => simp at h; subst h; rfl
  | succ w ih =>
    have : n / 16 < 16 ^ w := by rw [Nat.pow_succ] at h; omega
    rw [fmtW, val_snoc, ih _ this, dg_hx' _ (by omega)]
    simp; omega
theorem hex_fmtW (w n : Nat) : ∀ c ∈ fmtW w n, 0 ≤ dg c := by
  induction w generalizing n with
  | zero => simp [fmtW]
  | succ w ih =>
    intro c hc
    simp only [fmtW, List.mem_append, List.mem_singleton] at hc
    rcases hc with hc | rfl
    · exact ih _ c hc
    · rw [dg_hx' _ (by omega)]; omega
theorem val_lt (l : List UInt8) (h : ∀ c ∈ l, 0 ≤ dg c) : val l < 16 ^ l.length := by
  have aux : ∀ (m : Nat) (l : List UInt8), l.length = m → (∀ c ∈ l, 0 ≤ dg c) → val l < 16 ^ m := by
    intro m
    induction m with
    | zero => intro l hl _; simp [List.length_eq_zero_iff.1 hl, val]
    | succ m ih =>
      intro l hl hh
      obtain ⟨l', c, rfl⟩ : ∃ l' c, l = l' ++ [c] := by
        rcases List.eq_nil_or_concat l with rfl | ⟨l', c, rfl⟩
        · simp at hl
        · exact ⟨l', c, by simp⟩
      have h1 := ih l' (by simpa using hl) (fun c hc => hh c (by simp [hc]))
      have h2 := (hx_dg c (hh c (by simp))).2
      rw [val_snoc, Nat.pow_succ]; omega
  exact aux _ l rfl h
theorem fmtW_val (l : List UInt8) (h : ∀ c ∈ l, 0 ≤ dg c) : fmtW l.length (val l) = l := by
  have aux : ∀ (m : Nat) (l : List UInt8), l.length = m → (∀ c ∈ l, 0 ≤ dg c) → fmtW m (val l) = l := by
    intro m
    induction m with
    | zero => intro l hl _; simp [List.length_eq_zero_iff.1 hl, fmtW]
    | succ m ih =>
      intro l hl hh
      obtain ⟨l', c, rfl⟩ : ∃ l' c, l = l' ++ [c] := by
        rcases List.eq_nil_or_concat l with rfl | ⟨l', c, rfl⟩
        · simp at hl
        · exact ⟨l', c, by simp⟩
      obtain ⟨e, h2⟩ := hx_dg c (hh c (by simp))
      rw [val_snoc, fmtW, show (val l' * 16 + (dg c).toNat) / 16 = val l' from by omega, show (val l' * 16 + (dg c).toNat) % 16 = (dg c).toNat from by omega, ih l' (by simpa using hl) (fun c hc => hh c (by simp [hc])), e]
  exact aux _ l rfl h
/-- One digit more of the number n of sixteen digits. -/
theorem fmtW_step (n j : Nat) (hj : j < 16) : fmtW (j + 1) (n / 16 ^ (16 - (j + 1))) = fmtW j (n / 16 ^ (16 - j)) ++ [hx (n / 2 ^ (60 - 4 * j) % 16)] := by
  have e1 : (16 : Nat) ^ (16 - j) = 16 ^ (16 - (j + 1)) * 16 := by
    rw [show 16 - j = (16 - (j + 1)) + 1 from by omega, Nat.pow_succ]
  have e2 : (2 : Nat) ^ (60 - 4 * j) = 16 ^ (16 - (j + 1)) := by
    rw [show (16 : Nat) = 2 ^ 4 from rfl, ← Nat.pow_mul]; congr 1; omega
  rw [fmtW, e2, e1, Nat.div_div_eq_div_mul]

theorem wraps_u64 (n : Int) (h₀ : 0 ≤ n) (h₁ : n < 2 ^ 64) : IntKind.u64.wrap n = n := by rw [IntKind.wrap_u64]; omega
theorem u64_and15 (x : Nat) (h₁ : x < 2 ^ 64) : Go.bits .and .u64 (x : Int) 15 = ((x % 16 : Nat) : Int) := by
  have := bits_mask .u64 64 (by decide) wraps_u64 4 (by decide) (x : Int) (by omega) (by exact_mod_cast h₁)
  simpa using this
theorem u64_or4 (x y : Nat) (h : x < 2 ^ 60) (hy : y < 16) : Go.bits .or .u64 ((x : Int) * 16) y = ((x * 16 + y : Nat) : Int) := by
  have := bits_join .u64 64 (by decide) wraps_u64 4 ((x : Int) * 16) (y : Int) (by omega) (by omega) (by omega) (by omega) (by omega) (by omega)
  rw [this]; push_cast; rfl
end Go.Proofs.Ytamhokedekhocaa
