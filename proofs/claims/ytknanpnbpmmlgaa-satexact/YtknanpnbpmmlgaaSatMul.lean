/- sat: what Add64, Sub64, Mul64 and Len64 of the library answer. -/
import Derived.Test.YtknanpnbpmmlgaaLib
import Derived.Test.YtknanpnbpmmlgaaSatNum
import Derived.Test.YtknanpnbpmmlgaaProg
import Derived.Laws.Externs
import Derived.Laws.Bits64b
import Derived.Laws.Shifts
import Derived.Lib.Mul64
import GoSem.Extern.MathBitsCarry
set_option linter.unusedVariables false
namespace Go.Proofs.Ytknanpnbpmmlgaa
open Go Go.RowKit

/-- A number of 64 bits as a value. -/
abbrev V (n : Nat) : Value := .int .u64 (n : Int)

theorem add64_run (x y c : Nat) (hc : c ≤ 1) (w : World) :
    (callFunc 33 #[V x, V y, V c]).run Try.prog w = .ok (.value (.tuple #[V ((x + y + c) % 18446744073709551616), V ((x + y + c) / 18446744073709551616)])) w := by
  rw [run_callFunc_extern Try.func33 (by kernel_rfl) (by kernel_rfl) (by kernel_rfl) (e := (Extern.MathBitsCarry.rows[0]!).2) (by kernel_rfl)]
  have : c = 0 ∨ c = 1 := by omega
  rcases this with rfl | rfl <;> rfl

theorem sub64_run (x y b : Nat) (hb : b ≤ 1) (w : World) :
    (callFunc 34 #[V x, V y, V b]).run Try.prog w = .ok (.value (.tuple #[V ((x + 18446744073709551616 - y - b) % 18446744073709551616), V (if x < y + b then 1 else 0)])) w := by
  rw [run_callFunc_extern Try.func34 (by kernel_rfl) (by kernel_rfl) (by kernel_rfl) (e := (Extern.MathBitsCarry.rows[1]!).2) (by kernel_rfl)]
  have : b = 0 ∨ b = 1 := by omega
  rcases this with rfl | rfl <;> rfl

theorem mask_n (a : Nat) (ha : a < 18446744073709551616) : bits .and .u64 (a : Int) 4294967295 = ((a % 4294967296 : Nat) : Int) := by
  have h := bits_and_u64_nat a 4294967295 ha (by omega)
  have e : a &&& 4294967295 = a % 4294967296 := Nat.and_two_pow_sub_one_eq_mod a 32
  rw [e] at h
  exact h
theorem div_n (a : Nat) : (a : Int) / 4294967296 = ((a / 4294967296 : Nat) : Int) := by omega
theorem mul_n (a b : Nat) : (a : Int) * (b : Int) = ((a * b : Nat) : Int) := (Int.natCast_mul a b).symm
theorem add_n (a b : Nat) : (a : Int) + (b : Int) = ((a + b : Nat) : Int) := (Int.natCast_add a b).symm
theorem wrap_n (a : Nat) (ha : a < 18446744073709551616) : IntKind.u64.wrap (a : Int) = (a : Int) := by rw [IntKind.wrap_u64]; omega
theorem wrap_m (a : Nat) : IntKind.u64.wrap (a : Int) = ((a % 18446744073709551616 : Nat) : Int) := by rw [IntKind.wrap_u64]; omega

set_option maxHeartbeats 1000000 in
theorem Mul64_any (x y : Nat) (hx : x < 18446744073709551616) (hy : y < 18446744073709551616) (w : World) :
    Calls Try.prog 32 #[V x, V y] w fun e w' => e = .returned (.tuple #[V (hiN (x * y)), V (loN (x * y))]) ∧ w' = w := by
  show Calls Try.prog 32 #[V x, V y] w fun e w' => e = .returned (.tuple #[V (x * y / 18446744073709551616), V (x * y % 18446744073709551616)]) ∧ w' = w
  obtain ⟨bd, bt, bw, hhi⟩ := Lib.mul64_hi x y hx hy
  have ba := Lib.half_mul_le (a := x / 4294967296) (b := y / 4294967296) (by omega) (by omega)
  have bb := Lib.half_mul_le (a := x / 4294967296) (b := y % 4294967296) (by omega) (by omega)
  have bc := Lib.half_mul_le (a := x % 4294967296) (b := y / 4294967296) (by omega) (by omega)
  have ba' : x / 4294967296 * (y / 4294967296) < 18446744073709551616 := by omega
  have bb' : x / 4294967296 * (y % 4294967296) < 18446744073709551616 := by omega
  have bc' : x % 4294967296 * (y / 4294967296) < 18446744073709551616 := by omega
  have bh1 : x / 4294967296 * (y / 4294967296) + (x / 4294967296 * (y % 4294967296) + x % 4294967296 * (y % 4294967296) / 4294967296) / 4294967296 < 18446744073709551616 := by omega
  have bh : x / 4294967296 * (y / 4294967296) + (x / 4294967296 * (y % 4294967296) + x % 4294967296 * (y % 4294967296) / 4294967296) / 4294967296 + ((x / 4294967296 * (y % 4294967296) + x % 4294967296 * (y % 4294967296) / 4294967296) % 4294967296 + x % 4294967296 * (y / 4294967296)) / 4294967296 < 18446744073709551616 := by omega
  go_enter Try.func32, Try.ntmps32
  go_wp2
  simp only [mask_n x hx, mask_n y hy, div_n, mul_n, add_n, wrap_n _ bd, wrap_n _ bb', wrap_n _ bt, mask_n _ bt, wrap_n _ bc', wrap_n _ bw, wrap_n _ ba', wrap_n _ bh1, wrap_n _ bh, wrap_m (x * y)]
  rw [hhi]
  go_ret2
  exact ⟨rfl, rfl⟩
end Go.Proofs.Ytknanpnbpmmlgaa
