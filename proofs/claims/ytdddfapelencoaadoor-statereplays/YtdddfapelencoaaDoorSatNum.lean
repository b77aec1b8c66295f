/- sat: numbers of 64 and 128 bits, without the program: halves, and the school's division of 128 bits by 64 in digits of 32. -/
import Derived.WalkKit
set_option linter.unusedVariables false
namespace Go.Proofs.YtdddfapelencoaaDoor
open Go Go.RowKit

/-- The halves of a number of 128 bits. -/
def hiN (n : Nat) : Nat := n / 18446744073709551616
def loN (n : Nat) : Nat := n % 18446744073709551616
theorem halves (n : Nat) : hiN n * 18446744073709551616 + loN n = n := by unfold hiN loN; omega
theorem lo_lt (n : Nat) : loN n < 18446744073709551616 := by unfold loN; omega
theorem hi_lt (n : Nat) (h : n < 340282366920938463463374607431768211456) : hiN n < 18446744073709551616 := by unfold hiN; omega
theorem hi_of (h l : Nat) (hl : l < 18446744073709551616) : hiN (h * 18446744073709551616 + l) = h := by unfold hiN; omega
theorem lo_of (h l : Nat) (hl : l < 18446744073709551616) : loN (h * 18446744073709551616 + l) = l := by unfold loN; omega

/-- One digit's division: the guess q, what it leaves r; the digit d comes behind u, the divisor is y1 * 2^32 + y0. -/
structure Dv (u d y1 y0 q r : Nat) : Prop where
  eq : u = q * y1 + r
  le : q ≤ 4294967297
  lt : u * 4294967296 + d < (q + 1) * (y1 * 4294967296 + y0)

theorem dv_more {u d y1 y0 q r : Nat} (h : Dv u d y1 y0 q r) : u * 4294967296 + d < q * (y1 * 4294967296 + y0) ↔ r * 4294967296 + d < q * y0 := by
  have e1 : q * (y1 * 4294967296 + y0) = q * y1 * 4294967296 + q * y0 := by rw [Nat.mul_add, Nat.mul_assoc]
  rw [e1, h.eq, Nat.add_mul]
  omega

theorem dv_first (u d y1 y0 : Nat) (hy1 : 2147483648 ≤ y1) (hy0 : y0 < 4294967296) (hu : u < y1 * 4294967296 + y0) (hd : d < 4294967296) : Dv u d y1 y0 (u / y1) (u % y1) where
  eq := by rw [Nat.mul_comm]; exact (Nat.div_add_mod u y1).symm
  le := by
    have : u / y1 < 4294967298 := by
      rw [Nat.div_lt_iff_lt_mul (by omega)]; omega
    omega
  lt := by
    have h1 := Nat.div_add_mod u y1
    have h2 := Nat.mod_lt u (show 0 < y1 by omega)
    have e : (u / y1 + 1) * (y1 * 4294967296 + y0) = (y1 * (u / y1) + y1) * 4294967296 + (u / y1 + 1) * y0 := by
      rw [Nat.mul_add, ← Nat.mul_assoc, Nat.add_mul, Nat.one_mul, Nat.mul_comm (u / y1) y1]
    rw [e]
    generalize y1 * (u / y1) = A at h1 ⊢
    generalize (u / y1 + 1) * y0 = B
    omega

theorem dv_great {u d y1 y0 q r : Nat} (hq : 4294967296 ≤ q) (hu : u < y1 * 4294967296 + y0) (hd : d < 4294967296) : u * 4294967296 + d < q * (y1 * 4294967296 + y0) := by
  have := Nat.mul_le_mul_right (y1 * 4294967296 + y0) hq
  omega

theorem dv_next {u d y1 y0 q r : Nat} (h : Dv u d y1 y0 q r) (hm : u * 4294967296 + d < q * (y1 * 4294967296 + y0)) : 0 < q ∧ Dv u d y1 y0 (q - 1) (r + y1) := by
  have h0 : 0 < q := by
    rcases Nat.eq_zero_or_pos q with e | e
    · subst e; simp at hm
    · exact e
  refine ⟨h0, ⟨?_, by have := h.le; omega, ?_⟩⟩
  · have := h.eq
    obtain ⟨p, rfl⟩ : ∃ p, q = p + 1 := ⟨q - 1, by omega⟩
    rw [this, Nat.add_mul]; simp; omega
  · rw [Nat.sub_add_cancel h0]; exact hm

/-- Where the guess isn't too great it is the quotient. -/
theorem dv_done {u d y1 y0 q r : Nat} (h : Dv u d y1 y0 q r) (hm : ¬ u * 4294967296 + d < q * (y1 * 4294967296 + y0)) : q = (u * 4294967296 + d) / (y1 * 4294967296 + y0) := by
  symm
  rw [Nat.div_eq_iff (by rcases Nat.eq_zero_or_pos (y1 * 4294967296 + y0) with e | e; · have := h.lt; rw [e] at this; simp at this
                         · exact e)]
  have := h.lt
  rw [Nat.add_mul] at this
  omega

/-- Where the rest has more than 32 bits the guess isn't too great. -/
theorem dv_out {u d y1 y0 q r : Nat} (h : Dv u d y1 y0 q r) (hq : q ≤ 4294967296) (hy0 : y0 < 4294967296) (hr : 4294967296 ≤ r) : ¬ u * 4294967296 + d < q * (y1 * 4294967296 + y0) := by
  rw [dv_more h]
  have := Nat.mul_le_mul hq (show y0 ≤ 4294967295 by omega)
  omega

theorem quot_lt {u d y : Nat} (hu : u < y) (hd : d < 4294967296) : (u * 4294967296 + d) / y < 4294967296 := by
  rw [Nat.div_lt_iff_lt_mul (by omega)]; omega

theorem quot_two (u d1 d0 y : Nat) (hy : 0 < y) :
    (u * 4294967296 + d1) / y * 4294967296 + ((u * 4294967296 + d1) % y * 4294967296 + d0) / y = (u * 18446744073709551616 + (d1 * 4294967296 + d0)) / y ∧
    ((u * 4294967296 + d1) % y * 4294967296 + d0) % y = (u * 18446744073709551616 + (d1 * 4294967296 + d0)) % y := by
  have e : u * 18446744073709551616 + (d1 * 4294967296 + d0) = (u * 4294967296 + d1) * 4294967296 + d0 := by omega
  rw [e]
  clear e
  obtain ⟨A, hA⟩ : ∃ A, u * 4294967296 + d1 = A := ⟨_, rfl⟩
  rw [hA]
  clear hA
  have h := Nat.div_add_mod A y
  have e2 : A * 4294967296 + d0 = (A % y * 4294967296 + d0) + y * (A / y * 4294967296) := by
    have h2 : y * (A / y * 4294967296) = y * (A / y) * 4294967296 := (Nat.mul_assoc _ _ _).symm
    rw [h2]
    omega
  have e3 : (A * 4294967296 + d0) / y = (A % y * 4294967296 + d0) / y + A / y * 4294967296 := by rw [e2, Nat.add_mul_div_left _ _ hy]
  have e4 : (A * 4294967296 + d0) % y = (A % y * 4294967296 + d0) % y := by rw [e2, Nat.add_mul_mod_self_left]
  exact ⟨by rw [e3]; exact Nat.add_comm _ _, e4.symm⟩

/-- Both numbers moved up by s places: the quotient stays, the remainder moves with them. -/
theorem moved (n y s : Nat) : n * 2 ^ s / (y * 2 ^ s) = n / y ∧ n * 2 ^ s % (y * 2 ^ s) / 2 ^ s = n % y := by
  have hs : 0 < 2 ^ s := Nat.two_pow_pos s
  rw [Nat.mul_div_mul_right _ _ hs, Nat.mul_mod_mul_right, Nat.mul_div_cancel _ hs]
  exact ⟨rfl, rfl⟩

/-- The bits of a number: the places up to its highest one. -/
theorem moved_up (y L : Nat) (h0 : 0 < y) (h1 : 2 ^ (L - 1) ≤ y) (h2 : y < 2 ^ L) (hL : L ≤ 64) (hL1 : 0 < L) : 9223372036854775808 ≤ y * 2 ^ (64 - L) ∧ y * 2 ^ (64 - L) < 18446744073709551616 := by
  have e1 : 2 ^ (L - 1) * 2 ^ (64 - L) = 9223372036854775808 := by rw [← Nat.pow_add, show L - 1 + (64 - L) = 63 by omega]
  have e2 : 2 ^ L * 2 ^ (64 - L) = 18446744073709551616 := by rw [← Nat.pow_add, show L + (64 - L) = 64 by omega]
  have a := Nat.mul_le_mul_right (2 ^ (64 - L)) h1
  have b := (Nat.mul_lt_mul_right (Nat.two_pow_pos (64 - L))).2 h2
  omega

/-- A number of 128 bits moved up by s places: its upper 64, its lower 64. -/
theorem moved_halves (hi lo s : Nat) (hs : s ≤ 63) (hlo : lo < 18446744073709551616) :
    (hi * 2 ^ s + lo / 2 ^ (64 - s)) * 18446744073709551616 + lo * 2 ^ s % 18446744073709551616 = (hi * 18446744073709551616 + lo) * 2 ^ s ∧ lo / 2 ^ (64 - s) < 2 ^ s := by
  have e : 2 ^ s * 2 ^ (64 - s) = 18446744073709551616 := by rw [← Nat.pow_add, show s + (64 - s) = 64 by omega]
  have h1 : lo * 2 ^ s / 18446744073709551616 = lo / 2 ^ (64 - s) := by
    rw [← e, Nat.mul_comm lo, Nat.mul_div_mul_left _ _ (Nat.two_pow_pos s)]
  have h2 := Nat.div_add_mod (lo * 2 ^ s) 18446744073709551616
  rw [h1] at h2
  constructor
  · rw [Nat.add_mul, Nat.add_mul, Nat.mul_right_comm hi]
    omega
  · rw [Nat.div_lt_iff_lt_mul (Nat.two_pow_pos _), e]; exact hlo
end Go.Proofs.YtdddfapelencoaaDoor
