/- Merged: Steps, Sums. -/
import Derived.Test.YtkfjkfpodkbkaaaDoorMk01
import Derived.Test.YtkfjkfpodkbkaaaDoorMk09
import Derived.Test.YtkfjkfpodkbkaaaDoorProg
import Derived.Laws.BitsAllLaws
import Derived.Laws.Shifts
import Derived.Deep.LoopGhost
set_option linter.unusedVariables false
namespace Go.Proofs.YtkfjkfpodkbkaaaDoor
open Go Go.RowKit

/-- A number of 32 bits as a value. -/
abbrev U (x : W32) : Value := .int .u32 (x.toNat : Int)

theorem xor_u (x y : W32) : bits .xor .u32 (x.toNat : Int) (y.toNat : Int) = ((x ^^^ y).toNat : Int) := by
  rw [u32_xor_nat _ _ x.isLt y.isLt, BitVec.toNat_xor]
theorem xor_poly (x : W32) : bits .xor .u32 (x.toNat : Int) 2197175160 = ((x ^^^ poly).toNat : Int) := xor_u x poly
theorem shr_u (x : W32) (k : Nat) : (x.toNat : Int) / (((2 : Nat) ^ k : Nat) : Int) = ((x >>> k).toNat : Int) := by
  rw [BitVec.toNat_ushiftRight, Nat.shiftRight_eq_div_pow]; simp
theorem and_u1 (x : W32) : bits .and .u32 (x.toNat : Int) 1 = ((x.toNat % 2 : Nat) : Int) := by
  have h := u32_and_nat x.toNat 1 x.isLt (by omega)
  rw [show ((1 : Nat) : Int) = 1 from rfl] at h
  rw [h, Nat.and_one_is_mod]
theorem low_odd (x : W32) : x.getLsbD 0 = decide (x.toNat % 2 = 1) := by
  rw [BitVec.getLsbD, Nat.testBit_zero]


/-- The table of half bytes lies in its package variable. -/
def Tb (w : World) : Prop := ∀ k, k < 16 → w.cell? ⟨6, k, none⟩ = some (U (halfV k))
theorem Tb.lt {w : World} (h : Tb w) : 6 < w.heap.size := World.block_lt_of_cell? w _ (h 0 (by omega))
theorem Tb.up {w w' : World} (h : Tb w) (hu : Up w w') : Tb w' := by
  intro k hk
  rw [hu.cell h.lt]
  exact h k hk

theorem and_u15 (x : W32) : bits .and .u32 (x.toNat : Int) 15 = ((x.toNat % 16 : Nat) : Int) := by
  have h := u32_and_nat x.toNat 15 x.isLt (by omega)
  rw [show ((15 : Nat) : Int) = 15 from rfl] at h
  rw [h, show (15 : Nat) = 2 ^ 4 - 1 from rfl, Nat.and_two_pow_sub_one_eq_mod]

theorem fourSteps_any (x : W32) (w : World) (ht : Tb w) : Calls Tryd.prog 44 #[U x] w fun e w' => e = .returned (U (stpn 4 x)) ∧ w' = w := by
  have hk : x.toNat % 16 < 16 := Nat.mod_lt _ (by omega)
  have hc := ht _ hk
  have ha := and_u15 x
  have hs : (x.toNat : Int) / 16 = ((x >>> 4).toNat : Int) := shr_u x 4
  have hp := xor_u (x >>> 4) (halfV (x.toNat % 16))
  rw [← hs] at hp
  rw [← four_eq]
  have hf : four x = (x >>> 4) ^^^ halfV (x.toNat % 16) := rfl
  rw [hf]
  generalize x.toNat % 16 = k at hk hc ha hp
  have hk0 : (k : Int) < 16 := by omega
  clear hk
  go_enter Tryd.func44, Tryd.ntmps44
  go_wp2
  go_ret
  exact ⟨congrArg (fun z => Ending.returned (.int .u32 z)) hp, rfl⟩

theorem shl_u (x : W32) : (x.toNat : Int) * (2 : Int) % (4294967296 : Int) = ((x <<< 1).toNat : Int) := by
  rw [BitVec.toNat_shiftLeft, Nat.shiftLeft_eq]; simp
theorem top_bit (x : W32) : (x.toNat : Int) / 2147483648 = if x.getLsbD 31 then 1 else 0 := by
  have h : x.getLsbD 31 = decide (x.toNat / 2 ^ 31 % 2 = 1) := by rw [BitVec.getLsbD, Nat.testBit_eq_decide_div_mod_eq]
  have hl := x.isLt
  rw [h]
  by_cases e : x.toNat / 2 ^ 31 % 2 = 1
  · rw [decide_eq_true e]; simp; omega
  · rw [decide_eq_false e]; simp; omega

end Go.Proofs.YtkfjkfpodkbkaaaDoor

set_option linter.unusedVariables false
namespace Go.Proofs.YtkfjkfpodkbkaaaDoor
open Go Go.RowKit

theorem xor_byte (x : W32) (c : UInt8) : bits .xor .u32 (x.toNat : Int) ((c.toNat : Int) % 4294967296) = ((x ^^^ byt c).toNat : Int) := by
  have h : (byt c).toNat = c.toNat := by
    show (c.toBitVec.setWidth 32).toNat = _
    rw [BitVec.toNat_setWidth]
    have := c.toNat_lt
    exact Nat.mod_eq_of_lt (by show c.toNat < _; omega)
  have hc : (c.toNat : Int) % 4294967296 = (c.toNat : Int) := by have := c.toNat_lt; omega
  rw [← xor_u, h, hc]
theorem not_u (x : W32) : bits .xor .u32 IntKind.u32.max (x.toNat : Int) = ((~~~ x).toNat : Int) := by
  have h : IntKind.u32.max = (ones.toNat : Int) := by decide
  rw [h, xor_u, ← not_ones]
theorem addB_take (x : W32) (bs : List UInt8) (k : Nat) (h : k < bs.length) : addB x (bs.take (k + 1)) = stpn 8 (addB x (bs.take k) ^^^ byt bs[k]) := by
  rw [List.take_succ_eq_append_getElem h, addB_append]; rfl

set_option maxHeartbeats 400000 in
theorem Add_any (base : Nat) (s : W32) (v : Value) (bs : List UInt8) (w : World) (ht : Tb w) (hs : Sl base w v bs) (hl : bs.length ≤ 140737488355328) :
    Calls Tryd.prog 40 #[U s, v] w fun e w' => e = .returned (U (addC s bs)) ∧ w' = w := by
  generalize hR : addC s bs = R
  have HR : Hid (addC s bs = R) := hR
  clear hR
  have hn := not_u s
  have HR' : Hid (~~~ addB (~~~ s) bs = R) := HR
  clear HR
  generalize ~~~ s = ns at hn HR'
  obtain ⟨ao, cap, rfl, hc, _, hx⟩ := hs
  go_enter Tryd.func40, Tryd.ntmps40
  go_wp2
  go_loopg [5, 12] bs.length (fun g x i wr => w = wr ∧ ∃ k : Nat, k ≤ bs.length ∧ g = bs.length - k ∧ i = .int .i64 k ∧ x = U (addB ns (bs.take k)))
  case atStart => exact ⟨rfl, 0, by omega, rfl, rfl, rfl⟩
  case round =>
    obtain ⟨rfl, k, hk, rfl, rfl, rfl⟩ := hrel
    by_cases hlt : k < bs.length
    · obtain ⟨b, o, rfl, _, hat⟩ := hx (by rintro rfl; simp at hlt)
      have hca := hat k hlt
      have hxb := xor_byte (addB ns (bs.take k)) bs[k]
      have h4 := fourSteps_any (addB ns (bs.take k) ^^^ byt bs[k]) w ht
      have h8 := fourSteps_any (stpn 4 (addB ns (bs.take k) ^^^ byt bs[k])) w ht
      rw [← stpn_add] at h8
      have ht8 : Hid (addB ns (bs.take (k + 1)) = stpn (4 + 4) (addB ns (bs.take k) ^^^ byt bs[k])) := addB_take _ _ _ hlt
      have Hlt : Hid (k < bs.length) := hlt
      clear hx hat
      generalize bs[k] = c at hca hxb h4 h8 ht8
      generalize addB ns (bs.take k) = X at hxb h4 h8 ht8
      generalize stpn (4 + 4) (X ^^^ byt c) = Z at h8 ht8
      generalize stpn 4 (X ^^^ byt c) = Y at h8 h4
      generalize X ^^^ byt c = V at h4 hxb
      go_wp2_with fail
      refine h4.mono ?_
      rintro e w1 ⟨rfl, rfl⟩
      go_wp2_with fail
      refine h8.mono ?_
      rintro e w1 ⟨rfl, rfl⟩
      clear h4 h8
      go_wp2
      go_roundg (bs.length - (k + 1))
      case measure => have := Hlt.out; omega
      case rel => exact ⟨rfl, k + 1, Hlt.out, rfl, by go_num, by rw [ht8.out]⟩
    · obtain rfl : k = bs.length := by omega
      have hnn := not_u (addB ns bs)
      rw [HR'.out] at hnn
      rw [List.take_length]
      clear hlt hx
      go_wp2
      go_ret
      exact ⟨rfl, rfl⟩


theorem and_i1 (L : Nat) (hL : L < 9223372036854775808) : bits .and .i64 (L : Int) 1 = ((L % 2 : Nat) : Int) := by
  have h : L &&& 1 = L % 2 := Nat.and_one_is_mod L
  have hm : (BitVec.ofInt 64 (L : Int) &&& BitVec.ofInt 64 (1 : Int)).toNat = L % 2 := by
    rw [show (1 : Int) = ((1 : Nat) : Int) from rfl, BitVec.toNat_and, BitVec.ofInt_natCast, BitVec.ofInt_natCast, BitVec.toNat_ofNat, BitVec.toNat_ofNat, Nat.mod_eq_of_lt (by omega), Nat.mod_eq_of_lt (a := 1) (by omega), h]
  show IntKind.i64.wrap ((BitVec.ofInt 64 (L : Int) &&& BitVec.ofInt 64 (1 : Int)).toNat : Int) = _
  rw [hm]
  rcases Nat.mod_two_eq_zero_or_one L with e | e <;> rw [e] <;> rfl

end Go.Proofs.YtkfjkfpodkbkaaaDoor
