/- crc: what step, fourSteps and multiply answer. -/
import Derived.Test.YtikdmnfmnkmffaaDoorLib
import Derived.Test.YtikdmnfmnkmffaaDoorPoly
import Derived.Test.YtikdmnfmnkmffaaDoorProg
import Derived.Laws.BitsAllLaws
import Derived.Laws.Shifts
import Derived.Deep.LoopGhost
set_option linter.unusedVariables false
namespace Go.Proofs.YtikdmnfmnkmffaaDoor
open Go Go.RowKit

/-- A number of 32 bits as a value. -/
abbrev U (x : W32) : Value := .int .u32 (x.toNat : Int)

theorem xor_u (x y : W32) : bits .xor .u32 (x.toNat : Int) (y.toNat : Int) = ((x ^^^ y).toNat : Int) := by
  rw [u32_xor_nat _ _ x.isLt y.isLt, BitVec.toNat_xor]
theorem xor_poly (x : W32) : bits .xor .u32 (x.toNat : Int) 2197175160 = ((x ^^^ poly).toNat : Int) := xor_u x poly
theorem shr_u (x : W32) (k : Nat) : (x.toNat : Int) / (((2 : Nat) ^ k : Nat) : Int) = ((x >>> k).toNat : Int) := by
  rw [BitVec.toNat_ushiftRight, Nat.shiftRight_eq_div_pow]; simp
theorem and_u1 (x : W32) : bits .and .u32 (x.toNat : Int) 1 = ((x.toNat % 2 : Nat) : Int) := by
  have h := u32_and_nat x.toNat 1 x.isLt (by omega)
  rw [show ((1 : Nat) : Int) = 1 from rfl] at h
  rw [h, Nat.and_one_is_mod]
theorem low_odd (x : W32) : x.getLsbD 0 = decide (x.toNat % 2 = 1) := by
  rw [BitVec.getLsbD, Nat.testBit_zero]

theorem step_any (x : W32) (w : World) : Calls Tryd.prog 24 #[U x] w fun e w' => e = .returned (U (stp x)) ∧ w' = w := by
  by_cases h : x.toNat % 2 = 1
  · have hx : stp x = (x >>> 1) ^^^ poly := by unfold stp; rw [low_odd, decide_eq_true h, if_pos rfl]
    have ha : bits .and .u32 (x.toNat : Int) 1 = 1 := by rw [and_u1, h]; rfl
    have hs : (x.toNat : Int) / 2 = ((x >>> 1).toNat : Int) := shr_u x 1
    rw [hx]
    have hp := xor_poly (x >>> 1)
    rw [← hs] at hp
    go_enter Tryd.func24, Tryd.ntmps24
    go_wp2
    go_ret
    exact ⟨congrArg (fun z => Ending.returned (.int .u32 z)) hp, rfl⟩
  · have hx : stp x = (x >>> 1) := by unfold stp; rw [low_odd, decide_eq_false h]; simp
    have ha : bits .and .u32 (x.toNat : Int) 1 = 0 := by rw [and_u1]; omega
    have hs : (x.toNat : Int) / 2 = ((x >>> 1).toNat : Int) := shr_u x 1
    rw [hx]
    go_enter Tryd.func24, Tryd.ntmps24
    go_wp2
    go_ret
    exact ⟨congrArg (fun z => Ending.returned (.int .u32 z)) hs, rfl⟩

/-- The table of half bytes lies in its package variable. -/
def Tb (w : World) : Prop := ∀ k, k < 16 → w.cell? ⟨0, k, none⟩ = some (U (halfV k))
theorem Tb.lt {w : World} (h : Tb w) : 0 < w.heap.size := World.block_lt_of_cell? w _ (h 0 (by omega))
theorem Tb.up {w w' : World} (h : Tb w) (hu : Up w w') : Tb w' := by
  intro k hk
  rw [hu.cell h.lt]
  exact h k hk

theorem and_u15 (x : W32) : bits .and .u32 (x.toNat : Int) 15 = ((x.toNat % 16 : Nat) : Int) := by
  have h := u32_and_nat x.toNat 15 x.isLt (by omega)
  rw [show ((15 : Nat) : Int) = 15 from rfl] at h
  rw [h, show (15 : Nat) = 2 ^ 4 - 1 from rfl, Nat.and_two_pow_sub_one_eq_mod]

theorem fourSteps_any (x : W32) (w : World) (ht : Tb w) : Calls Tryd.prog 20 #[U x] w fun e w' => e = .returned (U (stpn 4 x)) ∧ w' = w := by
  have hk : x.toNat % 16 < 16 := Nat.mod_lt _ (by omega)
  have hc := ht _ hk
  have ha := and_u15 x
  have hs : (x.toNat : Int) / 16 = ((x >>> 4).toNat : Int) := shr_u x 4
  have hp := xor_u (x >>> 4) (halfV (x.toNat % 16))
  rw [← hs] at hp
  rw [← four_eq]
  have hf : four x = (x >>> 4) ^^^ halfV (x.toNat % 16) := rfl
  rw [hf]
  generalize x.toNat % 16 = k at hk hc ha hp
  have hk0 : (k : Int) < 16 := by omega
  clear hk
  go_enter Tryd.func20, Tryd.ntmps20
  go_wp2
  go_ret
  exact ⟨congrArg (fun z => Ending.returned (.int .u32 z)) hp, rfl⟩

theorem shl_u (x : W32) : (x.toNat : Int) * (2 : Int) % (4294967296 : Int) = ((x <<< 1).toNat : Int) := by
  rw [BitVec.toNat_shiftLeft, Nat.shiftLeft_eq]; simp
theorem top_bit (x : W32) : (x.toNat : Int) / 2147483648 = if x.getLsbD 31 then 1 else 0 := by
  have h : x.getLsbD 31 = decide (x.toNat / 2 ^ 31 % 2 = 1) := by rw [BitVec.getLsbD, Nat.testBit_eq_decide_div_mod_eq]
  have hl := x.isLt
  rw [h]
  by_cases e : x.toNat / 2 ^ 31 % 2 = 1
  · rw [decide_eq_true e]; simp; omega
  · rw [decide_eq_false e]; simp; omega

set_option maxHeartbeats 400000 in
theorem multiply_any (x y : W32) (w : World) : Calls Tryd.prog 21 #[U x, U y] w fun e w' => e = .returned (U (mul x y)) ∧ w' = w := by
  generalize hR : mul x y = R
  have HR : Hid (mul x y = R) := hR
  clear hR
  go_enter Tryd.func21, Tryd.ntmps21
  go_wp2
  go_loopg [0, 1, 5] 32 (fun g a b p wr => w = wr ∧ ∃ k : Nat, k ≤ 32 ∧ g = 32 - k ∧ a = U (x <<< k) ∧ b = U (stpn k y) ∧ p = U (mulK x y k))
  case atStart => exact ⟨rfl, 0, by omega, rfl, by simp, rfl, rfl⟩
  case round =>
    obtain ⟨rfl, k, hk, rfl, rfl, rfl, rfl⟩ := hrel
    have Hk : Hid (k ≤ 32) := hk
    have hss : Hid (stp (stpn k y) = stpn (k + 1) y) := stp_stpn k y
    have hsl : Hid ((x <<< k) <<< 1 = x <<< (k + 1)) := by show _ = _; rw [BitVec.shiftLeft_add]
    by_cases h0 : x <<< k = 0#32
    · have hm : Hid (mulK x y k = R) := (mulK_done x y k hk h0).symm ▸ HR.out
      rw [h0]
      clear hk h0
      go_wp2
      go_ret
      exact ⟨congrArg (fun z => Ending.returned (U z)) hm.out, rfl⟩
    · have hk32 : Hid (k < 32) := by
        show k < 32
        rcases Nat.lt_or_ge k 32 with h | h
        · exact h
        · exfalso; apply h0
          apply BitVec.eq_of_getLsbD_eq
          intro i hi
          rw [BitVec.getLsbD_shiftLeft]; simp; intros; omega
      have hne : ((x <<< k).toNat : Int) ≠ 0 := by
        intro e
        apply h0
        apply BitVec.eq_of_toNat_eq
        have h00 : (x <<< k).toNat = 0 := by omega
        rw [h00]; rfl
      have hsu := shl_u (x <<< k)
      rw [hsl.out] at hsu
      have htb := top_bit (x <<< k)
      have hmk : Hid (mulK x y (k + 1) = mulK x y k ^^^ (if (x <<< k).getLsbD 31 then stpn k y else 0#32)) := by
        show _ = _
        rw [mulK_succ, shl_top _ _ hk32.out]
      have hxu := xor_u (mulK x y k) (stpn k y)
      have hst := step_any (stpn k y) w
      rw [hss.out] at hst
      clear hk h0
      generalize (x <<< k) = A at htb hne hsu hmk
      generalize stpn k y = B at hst hxu hmk
      generalize mulK x y k = M at hxu hmk
      cases hb : A.getLsbD 31 with
      | true =>
        rw [hb] at htb hmk
        simp only [if_true] at htb hmk
        rw [← hmk.out] at hxu
        clear hb
        go_wp2_with fail
        refine hst.mono ?_
        rintro e w1 ⟨rfl, rfl⟩
        go_wp2
        go_roundg (32 - (k + 1))
        case measure => have := hk32.out; omega
        case rel =>
          exact ⟨rfl, k + 1, hk32.out, rfl, by rw [hsu], rfl, rfl⟩
      | false =>
        rw [hb] at htb hmk
        simp only [Bool.false_eq_true, if_false, BitVec.xor_zero] at htb hmk
        clear hb
        go_wp2_with fail
        refine hst.mono ?_
        rintro e w1 ⟨rfl, rfl⟩
        go_wp2
        go_roundg (32 - (k + 1))
        case measure => have := hk32.out; omega
        case rel =>
          exact ⟨rfl, k + 1, hk32.out, rfl, by (congr 1; omega), rfl, by rw [hmk.out]⟩
end Go.Proofs.YtikdmnfmnkmffaaDoor
