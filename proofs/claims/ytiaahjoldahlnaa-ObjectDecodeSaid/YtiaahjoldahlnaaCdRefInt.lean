/- The reference's numbers, at this translation. -/
import Derived.Test.YtiaahjoldahlnaaCdGetInt
import Derived.Deep.RegionHeld3
import Derived.WalkSpells
namespace Go.Proofs.Ytiaahjoldahlnaa.Cd
open Go.RowKit Go.Shelf

theorem conv_one (d : Nat) (hd : d < 256) (W : World) (g : Nat) (h : W.cell? ⟨g, 0, none⟩ = some (.int .u8 (d : Int))) :
    (convert 69 9 (.slice (some ⟨g, 0, none⟩) 1 1)).run Try.prog W = .ok (.string (strN [d])) W := by
  have := run_convert_bytes_back (P := Try.prog) W 69 9 5 ⟨g, 0, none⟩ 1 [UInt8.ofNat d] Try.underlying69 Try.underlying5 Try.underlying9 (fun j hj => by
    obtain rfl : j = 0 := by simpa using hj
    simpa [Addr.add, Nat.mod_eq_of_lt hd] using h)
  exact this

set_option maxRecDepth 100000 in
set_option maxHeartbeats 1000000 in
theorem refPut_small (n : Nat) (h : n < 128) (w : World) : Calls Try.prog 87 #[.int .i64 n] w fun e W' => e = .returned (.string (strN [n])) ∧ Below w.heap.size w W' := by
  have kc := conv_one n (by omega) (w.alloc (.cells #[.int .u8 (n : Int)] 5)) w.heap.size (by simp [World.cell?_alloc_new])
  go_enter Try.func87, Try.ntmps87
  go_wp2
  go_ret
  exact ⟨rfl, (Below.refl _ _).alloc (Nat.le_refl _) _⟩

set_option maxRecDepth 100000 in
set_option maxHeartbeats 2000000 in
theorem refPut_big (n : Nat) (h : 128 ≤ n) (hm : n ≤ 1099511627776) (s : ByteArray) (hs : s.size ≤ 100) (w : World)
    (hrec : ∀ W, Calls Try.prog 87 #[.int .i64 ((n / 128 : Nat) : Int)] W fun e W' => e = .returned (.string s) ∧ Below W.heap.size W W') :
    Calls Try.prog 87 #[.int .i64 n] w fun e W' => e = .returned (.string (strN [n % 128 + 128] ++ s)) ∧ Below w.heap.size w W' := by
  obtain ⟨r, hr⟩ : ∃ r, r = n % 128 := ⟨_, rfl⟩
  obtain ⟨b, hb⟩ : ∃ b, b = r + 128 := ⟨_, rfl⟩
  obtain ⟨q, hq⟩ : ∃ q, q = n / 128 := ⟨_, rfl⟩
  have t1 : (n : Int).tmod 128 = (r : Int) := by rw [hr]; rfl
  have t2 : IntKind.i64.wrap (128 + (r : Int)) = (b : Int) := by rw [show (128 + (r : Int)) = (b : Int) by omega]; exact IntWalk.i64_in _ (by omega)
  have t3 : IntKind.u8.wrap (b : Int) = (b : Int) := by
    simp [IntKind.wrap, IntKind.bits, IntKind.signed]; omega
  have t4 : IntKind.i64.wrap ((n : Int) / 128) = (q : Int) := by rw [show ((n : Int) / 128) = (q : Int) by omega]; exact IntWalk.i64_in _ (by omega)
  rw [← hq] at hrec
  rw [← hr, ← hb]
  have hb256 : b < 256 := by omega
  have kc := conv_one b (by omega) (w.alloc (.cells #[.int .u8 (b : Int)] 5)).drew w.heap.size (by simp [World.cell?_alloc_new])
  have HR := Lib.hid hrec
  clear hrec hr hb hq
  have KG := Lib.hid (fun W g h => conv_one b hb256 W g h)
  have hcs : (strN [b]).size ≤ 1 := by rw [strN_size]; simp
  generalize strN [b] = c at kc KG hcs ⊢
  have start := (Below.refl w.heap.size w).drew
  have start2 := ((Below.refl w.heap.size w).alloc (Nat.le_refl _) (.cells #[.int .u8 (b : Int)] 5)).drew
  go_enter Try.func87, Try.ntmps87
  go_wp2
  go_region_with
    (first | (go_at_call 87; (with_reducible refine (HR.out _).mono ?_); rintro e w1 ⟨rfl, hb1⟩; (first | (have hh := start2.trans (hb1.mono start2.size); have kc2 := KG.out w1 w.heap.size ((hb1.cell (p := ⟨w.heap.size, 0, none⟩) (by simp)).trans (by simp [World.cell?_alloc_new]))) | (have hh := start.trans (hb1.mono start.size); have kc3 := KG.out (w1.alloc (.cells #[.int .u8 (b : Int)] 5)) w1.heap.size (by simp [World.cell?_alloc_new]); have hh2 := hh.alloc hh.size (.cells #[.int .u8 (b : Int)] 5)))))
  all_goals
    go_wp2_with fail
    go_ret
    first | exact ⟨rfl, hh2⟩ | exact ⟨rfl, hh⟩

theorem refPut_any (n : Nat) (hm : n ≤ 1099511627776) (w : World) : Calls Try.prog 87 #[.int .i64 n] w fun e W' => e = .returned (.string (strN (enc7 n))) ∧ Below w.heap.size w W' := by
  induction n using Nat.strongRecOn generalizing w with
  | _ n ih =>
    by_cases h : n < 128
    · rw [enc7_small n h]; exact refPut_small n h w
    · rw [enc7_big n (by omega), show (n % 128 + 128) :: enc7 (n / 128) = [n % 128 + 128] ++ enc7 (n / 128) from rfl, strN_append]
      refine refPut_big n (by omega) hm _ ?_ w fun W => ih (n / 128) (Nat.div_lt_self (by omega) (by omega)) (by omega) W
      rw [strN_size]
      have := (enc7_len (n / 128) 6 (by omega)).2 (by omega)
      omega
end Go.Proofs.Ytiaahjoldahlnaa.Cd
