/- The weight of the ends with a decision, at this translation. -/
import Derived.Test.YtldpdoakfacdbaaEndsW
import Derived.Test.YtldpdoakfacdbaaRisksMath
namespace Go.Proofs.Ytldpdoakfacdbaa
open Go.RowKit Go.Shelf

theorem weighD_snoc (a b m : Nat) (D : Int) (l : List EndR) (k : Nat) (h : k < l.length) : weighD a b m D (l.take (k + 1)) = weighD a b m D (l.take k) + if l[k].d = D then endC a b m l[k] else 0 := by
  rw [List.take_succ_eq_append_getElem h]
  unfold weighD
  rw [List.map_append, List.sum_append]; simp
theorem part1 (a b c p f r i : Nat) (ha : 1 ≤ a) (hb : 1 ≤ b) (hi : i ≤ p) : c * a ^ i ≤ c * (a ^ p * b ^ f) * (a + b) ^ r := by
  have h1 : a ^ i ≤ a ^ p := Nat.pow_le_pow_right ha hi
  have h2 : 1 ≤ b ^ f := Nat.pow_pos hb
  have h3 : 1 ≤ (a + b) ^ r := Nat.pow_pos (by omega)
  calc c * a ^ i ≤ c * a ^ p := Nat.mul_le_mul_left _ h1
    _ ≤ c * (a ^ p * b ^ f) := Nat.mul_le_mul_left _ (Nat.le_mul_of_pos_right _ h2)
    _ ≤ _ := Nat.le_mul_of_pos_right _ h3
theorem part2 (a b c p f r i : Nat) (ha : 1 ≤ a) (hb : 1 ≤ b) (hi : i ≤ f) : c * a ^ p * b ^ i ≤ c * (a ^ p * b ^ f) * (a + b) ^ r := by
  have h1 : b ^ i ≤ b ^ f := Nat.pow_le_pow_right hb hi
  have h3 : 1 ≤ (a + b) ^ r := Nat.pow_pos (by omega)
  calc c * a ^ p * b ^ i ≤ c * a ^ p * b ^ f := Nat.mul_le_mul_left _ h1
    _ = c * (a ^ p * b ^ f) := Nat.mul_assoc _ _ _
    _ ≤ _ := Nat.le_mul_of_pos_right _ h3
theorem part3 (a b c p f r i : Nat) (ha : 1 ≤ a) (hi : i ≤ r) : c * a ^ p * b ^ f * (a + b) ^ i ≤ c * (a ^ p * b ^ f) * (a + b) ^ r := by
  have h1 : (a + b) ^ i ≤ (a + b) ^ r := Nat.pow_le_pow_right (by omega) hi
  rw [Nat.mul_assoc c]
  exact Nat.mul_le_mul_left _ h1
theorem below_box {B : Nat} {w1 wr : World} (hB : Below B w1 wr) (h : B ≤ wr.heap.size) (o : Obj) : Below B w1 (wr.alloc o) := hB.alloc h o

set_option maxRecDepth 100000 in
set_option maxHeartbeats 4000000 in
theorem weight_good (L : List EndR) (D : Int) (a b n : Nat) (ha : 1 ≤ a) (hb : 1 ≤ b) (hab : a + b ≤ 20) (hn : n ≤ 11) (hL : ∀ e ∈ L, e.p + e.f ≤ n ∧ 1 ≤ e.c ∧ e.c ≤ 4096) (hP : weighP a b n L ≤ 204800000000000)
    (v : Value) (w : World) (hv : IsEnds w v L) :
    Calls Try.prog 22 #[v, .int .i64 D, .agg #[.int .i64 a, .int .i64 (a + b : Nat)], .int .i64 n] w fun e w' => e = .returned (.tuple #[.int .i64 (weighD a b n D L), .bool true]) ∧ Below w.heap.size w w' := by
  obtain ⟨d, hd⟩ : ∃ d, a + b = d := ⟨_, rfl⟩
  have HDD := Lib.hid hd
  rw [hd]
  have hd20 : d ≤ 20 := by omega
  have hbd : (d : Int) - a = b := by omega
  have HBD := Lib.hid hbd
  have hda : (a : Int) ≤ d := by omega
  obtain ⟨a1, cap1, rfl, hlen, hcap, hc1⟩ := hv
  have HC := Lib.hid hc1
  have HL := Lib.hid hL
  clear hc1 hL hd hbd
  have c0 := r2_fresh a d w
  have hB := (Below.refl w.heap.size w).alloc (Nat.le_refl _) (.cells #[.int .i64 a, .int .i64 d] 23)
  go_enter Try.func22, Try.ntmps22
  go_wp2
  go_loopw [10, 16] (fun s10 s16 wr => ∃ j : Nat, j ≤ L.length ∧ s16 = .int .i64 j ∧ s10 = .int .i64 (weighD a b n D (L.take j) : Nat) ∧ R2 w.heap.size a d wr ∧ Below w.heap.size w wr) (fun _ i _ => L.length - (intOf i).toNat)
  case atStart => exact ⟨0, Nat.zero_le _, rfl, rfl, c0, hB⟩
  case round =>
    obtain ⟨j, hj, rfl, rfl, hx, hB⟩ := hrel
    by_cases hlt : j < L.length
    · obtain ⟨b1, o1, rfl, hb1, hcell1⟩ := HC.out.resolve_left (by intro e; rw [e] at hlt; simp at hlt)
      obtain ⟨p0, p1, p2, p3⟩ := hcell1 j hlt
      have c1 : ∀ o, wr.cell? ⟨b1, o, none⟩ = w.cell? ⟨b1, o, none⟩ := fun o => hB.cell (p := ⟨b1, o, none⟩) hb1
      rw [← c1] at p0 p1 p2 p3
      obtain ⟨m1, m3, m4⟩ := HL.out L[j] (List.getElem_mem hlt)
      have hs := weighD_snoc a b n D L j hlt
      have hle := Nat.le_trans (Nat.le_trans (weighD_take a b n D L (j + 1)) (weighD_le a b n D L)) hP
      rw [hs] at hle
      generalize L[j] = x at p0 p1 p2 p3 m1 m3 m4 hs hle
      obtain ⟨xp, xf, xd, xc⟩ := x
      simp only [endC, ch] at p0 p1 p2 p3 m1 m3 m4 hs hle
      have HS := Lib.hid hs
      generalize weighD a b n D (L.take j) = S at hle HS
      clear hcell1 c1 hs
      obtain ⟨x0, x1, xlt⟩ := hx
      have hpf : (xp : Int) + xf ≤ n := by omega
      by_cases hd : xd = D
      · have hdd : (xd != D) = false := by simpa using hd
        rw [if_pos hd] at hle
        have HD1 := Lib.hid hd
        clear hd
        obtain ⟨r, hr⟩ : ∃ r, n - xp - xf = r := ⟨_, rfl⟩
        have hr2 : xp + xf + r = n := by omega
        have HR := Lib.hid hr
        rw [hr] at hle
        obtain ⟨E, hE⟩ : ∃ E, xc * (a ^ xp * b ^ xf) * (a + b) ^ r = E := ⟨_, rfl⟩
        have P1 : Hid (∀ i, i ≤ xp → xc * a ^ i ≤ E) := Lib.hid fun i hi => by rw [← hE]; exact part1 a b xc xp xf r i ha hb hi
        have P2 : Hid (∀ i, i ≤ xf → xc * a ^ xp * b ^ i ≤ E) := Lib.hid fun i hi => by rw [← hE]; exact part2 a b xc xp xf r i ha hb hi
        have P3 : Hid (∀ i, i ≤ r → xc * a ^ xp * b ^ xf * d ^ i ≤ E) := Lib.hid fun i hi => by rw [← hE, ← HDD.out]; exact part3 a b xc xp xf r i ha hi
        rw [hE] at hle
        have HE := Lib.hid hE
        have HR2 := Lib.hid hr2
        clear hE hr hr2
        go_wp2
        go_loop [13, 55] (fun s13 s55 => ∃ i m : Nat, i ≤ xp ∧ s55 = .int .i64 i ∧ s13 = .int .i64 m ∧ Hid (m = xc * a ^ i)) (fun _ i => xp - (intOf i).toNat)
        case atStart => exact ⟨0, xc, Nat.zero_le _, rfl, rfl, Lib.hid (by simp)⟩
        case round =>
          obtain ⟨i, m, hi, rfl, rfl, hm⟩ := hrel
          by_cases hlt2 : i < xp
          · obtain ⟨q, hq⟩ : ∃ q : Nat, q = m * a := ⟨_, rfl⟩
            have hq1 : q = xc * a ^ (i + 1) := by rw [hq, hm.out, Nat.pow_succ, Nat.mul_assoc]
            have hqE : q ≤ E := by rw [hq1]; exact P1.out _ (by omega)
            have hq2 : (m : Int) * (a : Int) = (q : Int) := by rw [hq]; simp
            have HQ := Lib.hid hq1
            clear hq hq1
            go_wp2
            go_round
            case rel => exact ⟨i + 1, q, by omega, by go_num, rfl, HQ⟩
            case measure => simp [intOf]; omega
          · obtain rfl : i = xp := by omega
            clear hlt2 hi
            go_wp2
            go_loop [13, 64] (fun s13 s64 => ∃ k m : Nat, k ≤ xf ∧ s64 = .int .i64 k ∧ s13 = .int .i64 m ∧ Hid (m = xc * a ^ i * b ^ k)) (fun _ i => xf - (intOf i).toNat)
            case atStart => exact ⟨0, m, Nat.zero_le _, rfl, rfl, Lib.hid (by rw [hm.out]; simp)⟩
            case round =>
              obtain ⟨k, m2, hk, rfl, rfl, hm2⟩ := hrel
              by_cases hlt2 : k < xf
              · obtain ⟨q, hq⟩ : ∃ q : Nat, q = m2 * b := ⟨_, rfl⟩
                have hq1 : q = xc * a ^ i * b ^ (k + 1) := by rw [hq, hm2.out, Nat.pow_succ, Nat.mul_assoc]
                have hqE : q ≤ E := by rw [hq1]; exact P2.out _ (by omega)
                have hq2 : (m2 : Int) * ((d : Int) - (a : Int)) = (q : Int) := by rw [hq, HBD.out]; simp
                have HQ := Lib.hid hq1
                clear hq hq1
                go_wp2
                go_round
                case rel => exact ⟨k + 1, q, by omega, by go_num, rfl, HQ⟩
                case measure => simp [intOf]; omega
              · obtain rfl : k = xf := by omega
                clear hlt2 hk
                have hr3 : (n : Int) - i - k = r := by have := HR2.out; omega
                have HR3 := Lib.hid hr3
                clear hr3
                go_wp2
                go_loop [13, 81] (fun s13 s81 => ∃ g m : Nat, g ≤ r ∧ s81 = .int .i64 g ∧ s13 = .int .i64 m ∧ Hid (m = xc * a ^ i * b ^ k * d ^ g)) (fun _ i => r - (intOf i).toNat)
                case atStart => exact ⟨0, m2, Nat.zero_le _, rfl, rfl, Lib.hid (by rw [hm2.out]; simp)⟩
                case round =>
                  obtain ⟨g, m3, hg, rfl, rfl, hm3⟩ := hrel
                  by_cases hlt2 : g < r
                  · obtain ⟨q, hq⟩ : ∃ q : Nat, q = m3 * d := ⟨_, rfl⟩
                    have hq1 : q = xc * a ^ i * b ^ k * d ^ (g + 1) := by rw [hq, hm3.out, Nat.pow_succ, Nat.mul_assoc]
                    have hqE : q ≤ E := by rw [hq1]; exact P3.out _ (by omega)
                    have hq2 : (m3 : Int) * (d : Int) = (q : Int) := by rw [hq]; simp
                    have HQ := Lib.hid hq1
                    have hlt3 : (g : Int) < (n : Int) - i - k := by have := HR3.out; omega
                    clear hq hq1
                    go_wp2
                    go_round
                    case rel => exact ⟨g + 1, q, by omega, by go_num, rfl, HQ⟩
                    case measure => simp [intOf]; omega
                  · obtain rfl : g = r := by omega
                    have hlt3 : ¬ (g : Int) < (n : Int) - i - k := by have := HR3.out; omega
                    have hEq : m3 = E := by rw [hm3.out, ← HE.out, HDD.out, Nat.mul_assoc xc]
                    have hm3E : m3 ≤ 204800000000000 := by omega
                    have hSm : S + m3 ≤ 204800000000000 := by omega
                    have HEq := Lib.hid hEq
                    clear hlt2 hg hEq
                    go_wp2
                    go_roundw
                    case rel => exact ⟨j + 1, by omega, by go_num, by rw [HS.out, if_pos HD1.out, HR.out, HE.out, ← HEq.out]; go_num, R2.below ⟨x0, x1, xlt⟩ ((Below.refl _ wr).alloc (Nat.le_refl _) _) xlt, below_box hB hB.size _⟩
                    case measure => simp [intOf]; omega
      · have hdd : (xd != D) = true := by simpa using hd
        rw [if_neg hd] at hle
        clear hd
        go_wp2
        go_roundw
        case rel => exact ⟨j + 1, by omega, by go_num, by rw [HS.out, if_neg (by simpa using hdd)]; rfl, R2.below ⟨x0, x1, xlt⟩ ((Below.refl _ wr).alloc (Nat.le_refl _) _) xlt, below_box hB hB.size _⟩
        case measure => simp [intOf]; omega
    · obtain rfl : j = L.length := by omega
      rw [List.take_length]
      go_wp2
      go_ret2
      exact ⟨rfl, hB⟩
end Go.Proofs.Ytldpdoakfacdbaa
