/- The law CrcZeros returns true for every bytes and every int, and changes nothing that was there, where the table of half bytes lies in its variable. -/
import Derived.Test.YtikdmnfmnkmffaaDoorMadeC
set_option linter.unusedVariables false
namespace Go.Proofs.YtikdmnfmnkmffaaDoor
open Go Go.RowKit

/-- The four bytes of a number, the lowest first. -/
def own4 (s : W32) : List UInt8 := [UInt8.ofNat s.toNat, UInt8.ofNat (s.toNat / 256), UInt8.ofNat (s.toNat / 65536), UInt8.ofNat (s.toNat / 16777216)]
theorem byt_get (c : UInt8) (i : Nat) : (byt c).getLsbD i = c.toNat.testBit i := by
  unfold byt
  rw [BitVec.getLsbD_setWidth]
  by_cases h : i < 32
  · simp [h, BitVec.getLsbD]
  · have : c.toNat.testBit i = false := Nat.testBit_lt_two_pow (Nat.lt_of_lt_of_le c.toNat_lt (by
      have : (2:Nat) ^ 8 ≤ 2 ^ i := Nat.pow_le_pow_right (by omega) (by omega)
      simpa using this))
    simp [h, this]
theorem ofNat_bit (n i : Nat) : (UInt8.ofNat n).toNat.testBit i = (decide (i < 8) && n.testBit i) := by
  rw [UInt8.toNat_ofNat', Nat.testBit_mod_two_pow]
theorem div_bit (n k i : Nat) : (n / 2 ^ k).testBit i = n.testBit (i + k) := by
  rw [Nat.testBit_div_two_pow]
theorem own4_word (s : W32) : byt (UInt8.ofNat s.toNat) ^^^ ((byt (UInt8.ofNat (s.toNat / 256)) ^^^ ((byt (UInt8.ofNat (s.toNat / 65536)) ^^^ (byt (UInt8.ofNat (s.toNat / 16777216)) <<< 8)) <<< 8)) <<< 8) = s := by
  apply BitVec.eq_of_getLsbD_eq
  intro i hi
  have e1 : s.toNat / 256 = s.toNat / 2 ^ 8 := rfl
  have e2 : s.toNat / 65536 = s.toNat / 2 ^ 16 := rfl
  have e3 : s.toNat / 16777216 = s.toNat / 2 ^ 24 := rfl
  rw [e1, e2, e3]
  simp only [BitVec.getLsbD_xor, BitVec.getLsbD_shiftLeft, byt_get, ofNat_bit, div_bit]
  show _ = s.toNat.testBit i
  by_cases h1 : i < 8
  · simp [h1, hi]
  by_cases h2 : i < 16
  · have a1 : i - 8 < 8 := by omega
    have a2 : i - 8 < 32 := by omega
    have a3 : i - 8 + 8 = i := by omega
    simp [h1, hi, a1, a2, a3]
  by_cases h3 : i < 24
  · have a1 : ¬ i - 8 < 8 := by omega
    have a2 : i - 8 < 32 := by omega
    have a3 : i - 8 - 8 < 8 := by omega
    have a4 : i - 8 - 8 < 32 := by omega
    have a5 : i - 8 - 8 + 16 = i := by omega
    simp [h1, hi, a1, a2, a3, a4, a5]
  · have a1 : ¬ i - 8 < 8 := by omega
    have a2 : i - 8 < 32 := by omega
    have a3 : ¬ i - 8 - 8 < 8 := by omega
    have a4 : i - 8 - 8 < 32 := by omega
    have a6 : i - 8 - 8 - 8 < 8 := by omega
    have a5 : i - 8 - 8 - 8 + 24 = i := by omega
    simp [h1, hi, a1, a2, a3, a4, a5, a6]
theorem own_sum (s : W32) : addC s (own4 s) = 1214729159#32 := by
  unfold addC own4
  have h := addB_four 0#32 (UInt8.ofNat s.toNat) (UInt8.ofNat (s.toNat / 256)) (UInt8.ofNat (s.toNat / 65536)) (UInt8.ofNat (s.toNat / 16777216))
  rw [own4_word] at h
  have hz := addB_xor [UInt8.ofNat s.toNat, UInt8.ofNat (s.toNat / 256), UInt8.ofNat (s.toNat / 65536), UInt8.ofNat (s.toNat / 16777216)] 0#32 (~~~ s)
  rw [BitVec.zero_xor, h] at hz
  rw [hz]
  show ~~~ (stpn 32 (0#32 ^^^ s) ^^^ stpn 32 (~~~ s)) = _
  rw [← stpn_xor, BitVec.zero_xor, not_ones s, ← BitVec.xor_assoc, BitVec.xor_comm s ones, BitVec.xor_assoc, BitVec.xor_self, BitVec.xor_zero]
  decide +kernel
theorem zeros_sum (s : W32) (n : Nat) : addC s (List.replicate n 0) = joinC s (sumC (List.replicate n 0)) n := by
  have := addC_join s (List.replicate n 0)
  rwa [List.length_replicate] at this

theorem low_u8 (n : Nat) : (n : Int) % 256 = ((UInt8.ofNat n).toNat : Int) := by rw [UInt8.toNat_ofNat']; omega

set_option maxHeartbeats 800000 in
theorem CrcZeros_any (base : Nat) (v : Value) (bs : List UInt8) (n : Int) (hl : bs.length ≤ 140737488355328) (w : World) (ht : Tb w) (hs : Sl base w v bs) :
    Calls Tryd.prog 7 #[v, .int .i64 n] w fun e w' => e = .returned (.bool true) ∧ Up w w' := by
  have Hs : Hid (Sl base w v bs) := hs
  obtain ⟨ao, cap, rfl, _⟩ := hs
  go_enter Tryd.func7, Tryd.ntmps7
  go_wp2_with fail
  refine (awake_any _ ht).mono ?_
  rintro e w1 ⟨rfl, hu⟩
  have k1 := Sum_any base _ bs w1 (ht.up hu) (Hs.out.up hu) hl
  go_wp2_with fail
  refine k1.mono ?_
  rintro e w2 ⟨rfl, rfl⟩
  clear k1
  have f0 := low_u8 (sumC bs).toNat
  have f1 := low_u8 ((sumC bs).toNat / 256)
  have f2 := low_u8 ((sumC bs).toNat / 65536)
  have f3 := low_u8 ((sumC bs).toNat / 16777216)
  have f1 : ((sumC bs).toNat : Int) / (256 : Int) % (256 : Int) = ((UInt8.ofNat ((sumC bs).toNat / 256)).toNat : Int) := by rw [← f1]; omega
  have f2 : ((sumC bs).toNat : Int) / (65536 : Int) % (256 : Int) = ((UInt8.ofNat ((sumC bs).toNat / 65536)).toNat : Int) := by rw [← f2]; omega
  have f3 : ((sumC bs).toNat : Int) / (16777216 : Int) = ((UInt8.ofNat ((sumC bs).toNat / 16777216)).toNat : Int) := by
    have := (sumC bs).isLt
    rw [← f3]; omega
  have k2 := own_sum (sumC bs)
  have K2 : Hid (addC (sumC bs) [UInt8.ofNat (sumC bs).toNat, UInt8.ofNat ((sumC bs).toNat / 256), UInt8.ofNat ((sumC bs).toNat / 65536), UInt8.ofNat ((sumC bs).toNat / 16777216)] = 1214729159#32) := k2
  clear k2
  generalize UInt8.ofNat (sumC bs).toNat = c0 at f0 K2
  generalize UInt8.ofNat ((sumC bs).toNat / 256) = c1 at f1 K2
  generalize UInt8.ofNat ((sumC bs).toNat / 65536) = c2 at f2 K2
  generalize UInt8.ofNat ((sumC bs).toNat / 16777216) = c3 at f3 K2
  have k3 := Add_any w2.heap.size (sumC bs) _ [c0, c1, c2, c3] _ ((ht.up hu).up (Up.alloc w2 (.cells (Bv [c0, c1, c2, c3]).toArray 5 (0, 0)))) (sl_built w2 [c0, c1, c2, c3] 5 (0, 0)) (by simp)
  rw [K2.out] at k3
  generalize sumC bs = s at f0 f1 f2 f3 k3 ⊢
  go_wp2_with fail
  have hu2 : Up w (w2.alloc (.cells (Bv [c0, c1, c2, c3]).toArray 5 (0, 0))) := hu.trans (Up.alloc _ _)
  have k4 : Calls Tryd.prog 13 #[U s, .slice (some ⟨w2.heap.size, 0, none⟩) 4 4] (w2.alloc (.cells (Bv [c0, c1, c2, c3]).toArray 5 (0, 0))) fun e w' => e = .returned (U 1214729159#32) ∧ Up w w' := k3.mono fun e w' h => ⟨h.1, h.2 ▸ hu2⟩
  clear k3 hu2
  refine k4.mono ?_
  rintro e w4 ⟨rfl, hu2⟩
  clear k4 f0 f1 f2 f3 K2
  by_cases h0 : n < 0
  · go_wp2
    go_ret
    exact ⟨rfl, hu2⟩
  by_cases h1 : 1048576 < n
  · go_wp2
    go_ret
    exact ⟨rfl, hu2⟩
  obtain ⟨N, rfl⟩ := Int.eq_ofNat_of_zero_le (show 0 ≤ n by omega)
  have hN : (N : Int) ≤ 1048576 := by omega
  have hmk := make_u8 N (by omega)
  have ho := (own_made N (by omega) w4).sl
  have hu3 : Up w (w4.alloc (.cells (madeCells #[.int .u8 0] N) 5)) := hu2.trans (Up.alloc _ _)
  have k5 := Sum_any _ _ _ _ (ht.up hu3) ho (by simp; omega)
  have k6 := Add_any _ s _ _ _ (ht.up hu3) ho (by simp; omega)
  have k7 := Join_any s (sumC (List.replicate N 0)) N (by omega) (by omega) (w4.alloc (.cells (madeCells #[.int .u8 0] N) 5))
  rw [Int.toNat_natCast, ← zeros_sum] at k7
  clear h0 h1 ho
  generalize sumC (List.replicate N 0) = t at k5 k7
  generalize addC s (List.replicate N 0) = r at k6 k7
  go_wp2_with fail
  refine k5.mono ?_
  rintro e w5 ⟨rfl, rfl⟩
  go_wp2_with fail
  refine k6.mono ?_
  rintro e w6 ⟨rfl, rfl⟩
  go_wp2_with fail
  refine k7.mono ?_
  rintro e w7 ⟨rfl, rfl⟩
  clear k5 k6 k7
  go_wp2
  go_ret
  exact ⟨rfl, hu3⟩
end Go.Proofs.YtikdmnfmnkmffaaDoor
