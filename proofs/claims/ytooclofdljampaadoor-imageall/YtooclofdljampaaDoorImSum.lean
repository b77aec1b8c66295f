/- image (crc's Sums, the first part, its Add under another name): crc: what Add, Sum, Join answer. -/
import Derived.Test.YtooclofdljampaaDoorSteps
set_option linter.unusedVariables false
namespace Go.Proofs.YtooclofdljampaaDoor
open Go Go.RowKit

theorem xor_byte (x : W32) (c : UInt8) : bits .xor .u32 (x.toNat : Int) ((c.toNat : Int) % 4294967296) = ((x ^^^ byt c).toNat : Int) := by
  have h : (byt c).toNat = c.toNat := by
    show (c.toBitVec.setWidth 32).toNat = _
    rw [BitVec.toNat_setWidth]
    have := c.toNat_lt
    exact Nat.mod_eq_of_lt (by show c.toNat < _; omega)
  have hc : (c.toNat : Int) % 4294967296 = (c.toNat : Int) := by have := c.toNat_lt; omega
  rw [← xor_u, h, hc]
theorem not_u (x : W32) : bits .xor .u32 IntKind.u32.max (x.toNat : Int) = ((~~~ x).toNat : Int) := by
  have h : IntKind.u32.max = (ones.toNat : Int) := by decide
  rw [h, xor_u, ← not_ones]
theorem addB_take (x : W32) (bs : List UInt8) (k : Nat) (h : k < bs.length) : addB x (bs.take (k + 1)) = stpn 8 (addB x (bs.take k) ^^^ byt bs[k]) := by
  rw [List.take_succ_eq_append_getElem h, addB_append]; rfl

set_option maxHeartbeats 400000 in
theorem CrcAdd_any (base : Nat) (s : W32) (v : Value) (bs : List UInt8) (w : World) (ht : Tb w) (hs : Sl base w v bs) (hl : bs.length ≤ 140737488355328) :
    Calls Tryd.prog 44 #[U s, v] w fun e w' => e = .returned (U (addC s bs)) ∧ w' = w := by
  generalize hR : addC s bs = R
  have HR : Hid (addC s bs = R) := hR
  clear hR
  have hn := not_u s
  have HR' : Hid (~~~ addB (~~~ s) bs = R) := HR
  clear HR
  generalize ~~~ s = ns at hn HR'
  obtain ⟨ao, cap, rfl, hc, _, hx⟩ := hs
  go_enter Tryd.func44, Tryd.ntmps44
  go_wp2
  go_loopg [5, 12] bs.length (fun g x i wr => w = wr ∧ ∃ k : Nat, k ≤ bs.length ∧ g = bs.length - k ∧ i = .int .i64 k ∧ x = U (addB ns (bs.take k)))
  case atStart => exact ⟨rfl, 0, by omega, rfl, rfl, rfl⟩
  case round =>
    obtain ⟨rfl, k, hk, rfl, rfl, rfl⟩ := hrel
    by_cases hlt : k < bs.length
    · obtain ⟨b, o, rfl, _, hat⟩ := hx (by rintro rfl; simp at hlt)
      have hca := hat k hlt
      have hxb := xor_byte (addB ns (bs.take k)) bs[k]
      have h4 := fourSteps_any (addB ns (bs.take k) ^^^ byt bs[k]) w ht
      have h8 := fourSteps_any (stpn 4 (addB ns (bs.take k) ^^^ byt bs[k])) w ht
      rw [← stpn_add] at h8
      have ht8 : Hid (addB ns (bs.take (k + 1)) = stpn (4 + 4) (addB ns (bs.take k) ^^^ byt bs[k])) := addB_take _ _ _ hlt
      have Hlt : Hid (k < bs.length) := hlt
      clear hx hat
      generalize bs[k] = c at hca hxb h4 h8 ht8
      generalize addB ns (bs.take k) = X at hxb h4 h8 ht8
      generalize stpn (4 + 4) (X ^^^ byt c) = Z at h8 ht8
      generalize stpn 4 (X ^^^ byt c) = Y at h8 h4
      generalize X ^^^ byt c = V at h4 hxb
      go_wp2_with fail
      refine h4.mono ?_
      rintro e w1 ⟨rfl, rfl⟩
      go_wp2_with fail
      refine h8.mono ?_
      rintro e w1 ⟨rfl, rfl⟩
      clear h4 h8
      go_wp2
      go_roundg (bs.length - (k + 1))
      case measure => have := Hlt.out; omega
      case rel => exact ⟨rfl, k + 1, Hlt.out, rfl, by go_num, by rw [ht8.out]⟩
    · obtain rfl : k = bs.length := by omega
      have hnn := not_u (addB ns bs)
      rw [HR'.out] at hnn
      rw [List.take_length]
      clear hlt hx
      go_wp2
      go_ret
      exact ⟨rfl, rfl⟩

theorem Sum_any (base : Nat) (v : Value) (bs : List UInt8) (w : World) (ht : Tb w) (hs : Sl base w v bs) (hl : bs.length ≤ 140737488355328) :
    Calls Tryd.prog 27 #[v] w fun e w' => e = .returned (U (sumC bs)) ∧ w' = w := by
  have hA := CrcAdd_any base 0#32 v bs w ht hs hl
  have e0 : ((0#32 : W32).toNat : Int) = 0 := rfl
  obtain ⟨ao, cap, rfl, _⟩ := hs
  go_enter Tryd.func27, Tryd.ntmps27
  go_wp2_with fail
  refine hA.mono ?_
  rintro e w1 ⟨rfl, rfl⟩
  go_wp2
  go_ret
  exact ⟨rfl, rfl⟩
end Go.Proofs.YtooclofdljampaaDoor
