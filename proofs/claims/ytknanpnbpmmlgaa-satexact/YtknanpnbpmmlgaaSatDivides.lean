/- The law SatDivides returns true for every number of 128 bits and every divisor, and changes nothing that was there. -/
import Derived.Test.YtknanpnbpmmlgaaSatAwake
set_option linter.unusedVariables false
namespace Go.Proofs.Ytknanpnbpmmlgaa
open Go Go.RowKit

theorem wd_high (h : Nat) : Wd (h * 18446744073709551616) = .agg #[V h, .int .u64 0] := wd_eq _ h 0 (by unfold hiN; omega) (by unfold loN; omega)
theorem plus_small (a b : Nat) (h : N128 (a + b)) : plusN a b = a + b := if_pos h

/-- The product by halves, and the remainder: the number. -/
theorem divides_num (n d : Nat) (hn : N128 n) (hd : 0 < d) (hd' : N64 d) :
    N64 (hiN (n / d)) ∧ N64 (loN (n / d)) ∧ N64 (hiN (n / d) * d) ∧ N64 (n % d) ∧ n % d < d ∧ plusN (loN (n / d) * d) (hiN (n / d) * d * 18446744073709551616) = n / d * d ∧ plusN (n / d * d) (n % d) = n ∧ N128 (loN (n / d) * d) ∧ N128 (hiN (n / d) * d * 18446744073709551616) ∧ N128 (n / d * d) ∧ N128 (n % d) := by
  have e := halves (n / d)
  have hl := lo_lt (n / d)
  have hm := Nat.div_add_mod n d
  have hr := Nat.mod_lt n hd
  have hq : n / d ≤ n := Nat.div_le_self _ _
  have hh := hi_lt (n / d) (by unfold N128 at hn; omega)
  have e2 : n / d * d = loN (n / d) * d + hiN (n / d) * d * 18446744073709551616 := by
    have h1 : n / d * d = (hiN (n / d) * 18446744073709551616 + loN (n / d)) * d := congrArg (· * d) e.symm
    rw [h1, Nat.add_mul, Nat.mul_right_comm]
    exact Nat.add_comm _ _
  have e3 : d * (n / d) = n / d * d := Nat.mul_comm _ _
  rw [e3] at hm
  unfold N64 N128 at *
  refine ⟨hh, hl, by omega, by omega, hr, ?_, ?_, by omega, by omega, by omega, by omega⟩
  · rw [plus_small _ _ (by unfold N128; omega)]; omega
  · rw [plus_small _ _ (by unfold N128; omega)]; omega

set_option maxHeartbeats 1600000 in
theorem SatDivides_zero (n : Nat) (w : World) : Calls Try.prog 4 #[Wd n, .int .u64 0] w fun e w' => e = .returned (.bool true) ∧ Up w w' := by
  have k1 := fun w => DivMod_zero n w
  rw [wd_zero] at k1
  go_enter Try.func4, Try.ntmps4
  go_wp2_with fail
  refine (awake_any _).mono ?_
  rintro e w1 ⟨rfl, u1⟩
  obtain ⟨c1, f1⟩ := bcell u1
  have z1 : w.heap.size < w1.heap.size := by have := u1.size; simp at this; omega
  go_wp2_with fail
  refine (k1 _).mono ?_
  rintro e w2 ⟨rfl, u2⟩
  go_wp2
  go_ret
  exact ⟨rfl, (Up.alloc _ _).trans (u1.trans (u2.trans (Up.alloc _ _)))⟩

set_option maxHeartbeats 3200000 in
theorem SatDivides_pos (n d : Nat) (hn : N128 n) (hd : 0 < d) (hd' : N64 d) (w : World) : Calls Try.prog 4 #[Wd n, V d] w fun e w' => e = .returned (.bool true) ∧ Up w w' := by
  obtain ⟨n1, n2, n3, n4, n5, p1, p2, b1, b2, b3, b4⟩ := divides_num n d hn hd hd'
  have k1 := fun w => DivMod_any n d hn hd hd' w
  have k2 := fun w => Product_any (hiN (n / d)) d n1 hd' w
  have k3 := fun w => Narrow_fits (hiN (n / d) * d) n3 w
  have k4 := fun w => Product_any (loN (n / d)) d n2 hd' w
  have k5 := fun w => Plus_any (loN (n / d) * d) (hiN (n / d) * d * 18446744073709551616) b1 b2 w
  have k6 := fun w => Of_any (n % d) n4 w
  have k7 := fun w => Plus_any (n / d * d) (n % d) b3 b4 w
  rw [p1, wd_high] at k5
  rw [p2] at k7
  have d0 : ((d : Int) == 0) = false := ne_int d (by omega)
  have dlt : ((n % d : Nat) : Int) < (d : Int) := by omega
  clear n1 n2 n3 n4 n5 p1 p2 b1 b2 b3 b4 hn hd hd'
  obtain ⟨r, hr⟩ : ∃ r, n % d = r := ⟨_, rfl⟩
  rw [hr] at k1 k6 k7 dlt
  obtain ⟨P, hP⟩ : ∃ P, hiN (n / d) * d = P := ⟨_, rfl⟩
  rw [hP] at k2 k3 k5
  obtain ⟨B, hB⟩ : ∃ B, loN (n / d) * d = B := ⟨_, rfl⟩
  rw [hB] at k4 k5
  obtain ⟨T, hT⟩ : ∃ T, n / d * d = T := ⟨_, rfl⟩
  rw [hT] at k5 k7
  obtain ⟨q, hq⟩ : ∃ q, n / d = q := ⟨_, rfl⟩
  rw [hq] at k1 k2 k4
  clear hq hr hP hB hT
  go_enter Try.func4, Try.ntmps4
  go_wp2_with fail
  refine (awake_any _).mono ?_
  rintro e w1 ⟨rfl, u1⟩
  obtain ⟨c1, f1⟩ := bcell u1
  have z1 : w.heap.size < w1.heap.size := by have := u1.size; simp at this; omega
  go_wp2_with fail
  refine (k1 _).mono ?_
  rintro e w2 ⟨rfl, u2⟩
  obtain ⟨c2, f2⟩ := bcell u2
  have z2 : w.heap.size < w2.heap.size := by have := u2.size; omega
  clear k1
  go_wp2_with fail
  refine (k2 _).mono ?_
  rintro e w3 ⟨rfl, u3⟩
  obtain ⟨c3, f3⟩ := bcell u3
  have z3 : w2.heap.size < w3.heap.size := by have := u3.size; simp at this; omega
  have z3' : w.heap.size < w3.heap.size := by omega
  clear k2
  go_wp2_with fail
  refine (k3 _).mono ?_
  rintro e w4 ⟨rfl, u4⟩
  obtain ⟨c4, f4⟩ := bcell u4
  have z4 : w2.heap.size < w4.heap.size := by have := u4.size; omega
  have z4' : w.heap.size < w4.heap.size := by omega
  clear k3
  go_wp2_with fail
  refine (k4 _).mono ?_
  rintro e w5 ⟨rfl, u5⟩
  obtain ⟨c5, f5⟩ := bcell u5
  have z5 : w.heap.size < w5.heap.size := by have := u5.size; omega
  clear k4
  go_wp2_with fail
  refine (k5 _).mono ?_
  rintro e w6 ⟨rfl, u6⟩
  obtain ⟨c6, f6⟩ := bcell u6
  have z6 : w.heap.size < w6.heap.size := by have := u6.size; omega
  clear k5
  go_wp2_with fail
  refine (k6 _).mono ?_
  rintro e w7 ⟨rfl, u7⟩
  obtain ⟨c7, f7⟩ := bcell u7
  have z7 : w.heap.size < w7.heap.size := by have := u7.size; omega
  clear k6
  go_wp2_with fail
  refine (k7 _).mono ?_
  rintro e w8 ⟨rfl, u8⟩
  obtain ⟨c8, f8⟩ := bcell u8
  have z8 : w.heap.size < w8.heap.size := by have := u8.size; omega
  clear k7
  go_wp2
  go_ret
  exact ⟨rfl, (Up.alloc _ _).trans (u1.trans (u2.trans ((Up.alloc _ _).trans (u3.trans (u4.trans (u5.trans (u6.trans (u7.trans (u8.trans (Up.alloc _ _))))))))))⟩

theorem SatDivides_any (n d : Nat) (hn : N128 n) (hd' : N64 d) (w : World) : Calls Try.prog 4 #[Wd n, V d] w fun e w' => e = .returned (.bool true) ∧ Up w w' := by
  rcases Nat.eq_zero_or_pos d with rfl | h
  · exact SatDivides_zero n w
  · exact SatDivides_pos n d hn h hd' w
end Go.Proofs.Ytknanpnbpmmlgaa
