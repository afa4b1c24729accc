/- The chapter's examples, at this translation. -/
import Derived.Test.YtiaahjoldahlnaaEnc
namespace Go.Proofs.Ytiaahjoldahlnaa
open Go.RowKit Go.Great
attribute [local go_sem] eq_arr

def hiO : Ob := ⟨1, ⟨#[104, 105]⟩, [], (0, 0), [], ⟨#[]⟩, 0, ⟨#[]⟩⟩
def treO : Ob := ⟨2, ⟨#[]⟩, [], (0, 0), [], ⟨#[]⟩, 0, ⟨#[]⟩⟩
theorem hi_chk : chk hiO = 0 := by
  have h : chkFields hiO = 0 := by simp [chkFields, hiO, bare]
  have h2 : szD 2 = 1 := by rw [szD, if_pos (by omega), Cd.enc7_small 2 (by omega)]; rfl
  unfold chk
  rw [if_neg (by omega)]
  show (if 65536 < 1 + szD 2 + 2 then 4 else 0 : Int) = 0
  rw [h2]; rfl
theorem tre_chk : chk treO = 0 := by
  have h : chkFields treO = 0 := by simp [chkFields, treO, bare, chkEnts, entsFrom]
  have h2 : szD 0 = 1 := by rw [szD, if_pos (by omega), Cd.enc7_small 0 (by omega)]; rfl
  unfold chk
  rw [if_neg (by omega)]
  show (if 65536 < 1 + szD 0 + 0 then 4 else 0 : Int) = 0
  rw [h2]; rfl
theorem hi_enc : encD hiO = ⟨#[1, 2, 104, 105]⟩ := by
  rw [encD, if_pos hi_chk]
  show Cd.strN (Cd.enc7 1) ++ Cd.strN (Cd.enc7 2 ++ [104, 105]) = _
  rw [Cd.enc7_small 1 (by omega), Cd.enc7_small 2 (by omega)]; rfl
theorem tre_enc : encD treO = ⟨#[2, 0]⟩ := by
  rw [encD, if_pos tre_chk]
  show Cd.strN (Cd.enc7 2) ++ Cd.strN (Cd.enc7 0) ++ ⟨#[]⟩ = _
  rw [Cd.enc7_small 2 (by omega), Cd.enc7_small 0 (by omega)]; rfl
theorem hi_any (w : World) : Calls Try.prog 17 #[.agg #[.int .i64 1, .string ⟨#[104, 105]⟩, .slice none 0 0, .int .u64 0, .int .u64 0, .slice none 0 0, .string ⟨#[]⟩, .int .i64 0, .string ⟨#[]⟩]] w fun e w' => e = .returned (.tuple #[.string ⟨#[1, 2, 104, 105]⟩, .int .i64 0]) ∧ Below w.heap.size w w' :=
  encode_any hiO _ w ⟨_, _, rfl, isEnts_nil w, isDigs_nil w⟩ ⟨by decide, by decide, by decide, by simp [hiO]⟩ (by decide) _ hi_enc _ hi_chk
theorem tre_any (w : World) : Calls Try.prog 17 #[.agg #[.int .i64 2, .string ⟨#[]⟩, .slice none 0 0, .int .u64 0, .int .u64 0, .slice none 0 0, .string ⟨#[]⟩, .int .i64 0, .string ⟨#[]⟩]] w fun e w' => e = .returned (.tuple #[.string ⟨#[2, 0]⟩, .int .i64 0]) ∧ Below w.heap.size w w' :=
  encode_any treO _ w ⟨_, _, rfl, isEnts_nil w, isDigs_nil w⟩ ⟨by decide, by decide, by decide, by simp [treO]⟩ (by decide) _ tre_enc _ tre_chk

set_option maxHeartbeats 2000000 in
theorem awake_any (w : World) : Calls Try.prog 11 #[] w fun e w' => e = .returned (.bool true) ∧ Below w.heap.size w w' := by
  go_enter Try.func11, Try.ntmps11
  go_wp2_with fail
  ((with_reducible refine (hi_any _).mono ?_); rintro e w1 ⟨rfl, hb1⟩)
  go_wp2_with fail
  ((with_reducible refine (tre_any _).mono ?_); rintro e w2 ⟨rfl, hb2⟩)
  have hb := hb1.trans (hb2.mono hb1.size)
  go_wp2
  go_ret
  exact ⟨rfl, hb⟩
end Go.Proofs.Ytiaahjoldahlnaa
