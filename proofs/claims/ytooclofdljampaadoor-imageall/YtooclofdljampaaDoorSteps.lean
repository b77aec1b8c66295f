/- crc: what step, fourSteps and multiply answer. -/
import Derived.Test.YtooclofdljampaaDoorLib
import Derived.Test.YtooclofdljampaaDoorPoly
import Derived.Test.YtooclofdljampaaDoorProg
import Derived.Laws.BitsAllLaws
import Derived.Laws.Shifts
import Derived.Deep.LoopGhost
set_option linter.unusedVariables false
namespace Go.Proofs.YtooclofdljampaaDoor
open Go Go.RowKit

/-- A number of 32 bits as a value. -/
abbrev U (x : W32) : Value := .int .u32 (x.toNat : Int)

theorem xor_u (x y : W32) : bits .xor .u32 (x.toNat : Int) (y.toNat : Int) = ((x ^^^ y).toNat : Int) := by
  rw [u32_xor_nat _ _ x.isLt y.isLt, BitVec.toNat_xor]
theorem xor_poly (x : W32) : bits .xor .u32 (x.toNat : Int) 2197175160 = ((x ^^^ poly).toNat : Int) := xor_u x poly
theorem shr_u (x : W32) (k : Nat) : (x.toNat : Int) / (((2 : Nat) ^ k : Nat) : Int) = ((x >>> k).toNat : Int) := by
  rw [BitVec.toNat_ushiftRight, Nat.shiftRight_eq_div_pow]; simp
theorem and_u1 (x : W32) : bits .and .u32 (x.toNat : Int) 1 = ((x.toNat % 2 : Nat) : Int) := by
  have h := u32_and_nat x.toNat 1 x.isLt (by omega)
  rw [show ((1 : Nat) : Int) = 1 from rfl] at h
  rw [h, Nat.and_one_is_mod]
theorem low_odd (x : W32) : x.getLsbD 0 = decide (x.toNat % 2 = 1) := by
  rw [BitVec.getLsbD, Nat.testBit_zero]


/-- The table of half bytes lies in its package variable. -/
def Tb (w : World) : Prop := ∀ k, k < 16 → w.cell? ⟨15, k, none⟩ = some (U (halfV k))
theorem Tb.lt {w : World} (h : Tb w) : 15 < w.heap.size := World.block_lt_of_cell? w _ (h 0 (by omega))
theorem Tb.up {w w' : World} (h : Tb w) (hu : Up w w') : Tb w' := by
  intro k hk
  rw [hu.cell h.lt]
  exact h k hk

theorem and_u15 (x : W32) : bits .and .u32 (x.toNat : Int) 15 = ((x.toNat % 16 : Nat) : Int) := by
  have h := u32_and_nat x.toNat 15 x.isLt (by omega)
  rw [show ((15 : Nat) : Int) = 15 from rfl] at h
  rw [h, show (15 : Nat) = 2 ^ 4 - 1 from rfl, Nat.and_two_pow_sub_one_eq_mod]

theorem fourSteps_any (x : W32) (w : World) (ht : Tb w) : Calls Tryd.prog 59 #[U x] w fun e w' => e = .returned (U (stpn 4 x)) ∧ w' = w := by
  have hk : x.toNat % 16 < 16 := Nat.mod_lt _ (by omega)
  have hc := ht _ hk
  have ha := and_u15 x
  have hs : (x.toNat : Int) / 16 = ((x >>> 4).toNat : Int) := shr_u x 4
  have hp := xor_u (x >>> 4) (halfV (x.toNat % 16))
  rw [← hs] at hp
  rw [← four_eq]
  have hf : four x = (x >>> 4) ^^^ halfV (x.toNat % 16) := rfl
  rw [hf]
  generalize x.toNat % 16 = k at hk hc ha hp
  have hk0 : (k : Int) < 16 := by omega
  clear hk
  go_enter Tryd.func59, Tryd.ntmps59
  go_wp2
  go_ret
  exact ⟨congrArg (fun z => Ending.returned (.int .u32 z)) hp, rfl⟩

theorem shl_u (x : W32) : (x.toNat : Int) * (2 : Int) % (4294967296 : Int) = ((x <<< 1).toNat : Int) := by
  rw [BitVec.toNat_shiftLeft, Nat.shiftLeft_eq]; simp
theorem top_bit (x : W32) : (x.toNat : Int) / 2147483648 = if x.getLsbD 31 then 1 else 0 := by
  have h : x.getLsbD 31 = decide (x.toNat / 2 ^ 31 % 2 = 1) := by rw [BitVec.getLsbD, Nat.testBit_eq_decide_div_mod_eq]
  have hl := x.isLt
  rw [h]
  by_cases e : x.toNat / 2 ^ 31 % 2 = 1
  · rw [decide_eq_true e]; simp; omega
  · rw [decide_eq_false e]; simp; omega

end Go.Proofs.YtooclofdljampaaDoor
