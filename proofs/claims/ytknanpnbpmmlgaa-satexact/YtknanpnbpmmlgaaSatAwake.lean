/- sat: the law's function awake answers true. -/
import Derived.Test.YtknanpnbpmmlgaaSatCalls2
set_option linter.unusedVariables false
namespace Go.Proofs.Ytknanpnbpmmlgaa
open Go Go.RowKit

theorem wd_eq (n h l : Nat) (h1 : hiN n = h) (h2 : loN n = l) : Wd n = .agg #[V h, V l] := by simp only [Wd, h1, h2]

set_option maxHeartbeats 1600000 in
theorem awake_any (w : World) : Calls Try.prog 8 #[] w fun e w' => e = .returned (.bool true) ∧ Up w w' := by
  have k1 := fun w => DivMod_any 18446744073709551616 10 (by unfold N128; omega) (by omega) (by unfold N64; omega) w
  have k2 := fun w => Add_any 18446744073709551615 1 (by unfold N64; omega) (by unfold N64; omega) w
  have k3 := fun w => Sub_any 3 5 (by unfold N64; omega) w
  have k4 := fun w => Mul_any 4294967296 2147483648 (by unfold N64; omega) (by unfold N64; omega) w
  have k5 := fun w => Product_any 18446744073709551615 18446744073709551615 (by unfold N64; omega) (by unfold N64; omega) w
  rw [show Wd 18446744073709551616 = .agg #[.int .u64 1, .int .u64 0] from rfl, show Wd (18446744073709551616 / 10) = .agg #[.int .u64 0, .int .u64 1844674407370955161] from rfl,
    show V 10 = .int .u64 10 from rfl, show V (18446744073709551616 % 10) = .int .u64 6 from rfl] at k1
  rw [show V (addN 18446744073709551615 1) = .int .u64 18446744073709551615 from rfl, show V 18446744073709551615 = .int .u64 18446744073709551615 from rfl, show V 1 = .int .u64 1 from rfl] at k2
  rw [show V (3 - 5) = .int .u64 0 from rfl, show V 3 = .int .u64 3 from rfl, show V 5 = .int .u64 5 from rfl] at k3
  rw [show V (mulN64 4294967296 2147483648) = .int .u64 9223372036854775808 from rfl, show V 4294967296 = .int .u64 4294967296 from rfl, show V 2147483648 = .int .u64 2147483648 from rfl] at k4
  rw [show Wd (18446744073709551615 * 18446744073709551615) = .agg #[.int .u64 18446744073709551614, .int .u64 1] from rfl, show V 18446744073709551615 = .int .u64 18446744073709551615 from rfl] at k5
  go_enter Try.func8, Try.ntmps8
  go_wp2_with fail
  refine (k1 _).mono ?_
  rintro e w1 ⟨rfl, u1⟩
  clear k1
  go_wp2_with fail
  refine (k2 _).mono ?_
  rintro e w2 ⟨rfl, rfl⟩
  clear k2
  go_wp2_with fail
  refine (k3 _).mono ?_
  rintro e w3 ⟨rfl, rfl⟩
  clear k3
  go_wp2_with fail
  refine (k4 _).mono ?_
  rintro e w4 ⟨rfl, u4⟩
  clear k4
  obtain ⟨c4, f4⟩ := bcell u4
  have z4 : w1.heap.size < w4.heap.size := by have := u4.size; simp at this; omega
  go_wp2_with fail
  refine (k5 _).mono ?_
  rintro e w5 ⟨rfl, u5⟩
  clear k5
  obtain ⟨c5, f5⟩ := bcell u5
  go_wp2
  go_ret
  exact ⟨rfl, u1.trans ((Up.alloc _ _).trans (u4.trans u5))⟩
end Go.Proofs.Ytknanpnbpmmlgaa
