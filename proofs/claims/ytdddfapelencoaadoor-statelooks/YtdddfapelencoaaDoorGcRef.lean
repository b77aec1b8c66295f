/- gcra: the reference's functions: numbers of 128 bits, fits and Admit. -/
import Derived.Test.YtdddfapelencoaaDoorGcCalls
import Derived.Deep.RegionHeld3
set_option linter.unusedVariables false
namespace Go.Proofs.YtdddfapelencoaaDoor
open Go Go.RowKit



theorem rplus_halves (a b : Nat) (hab : N128 (a + b)) : ∃ L H : Nat, IntKind.u64.wrap ((loN a : Int) + (loN b : Int)) = (L : Int) ∧ IntKind.u64.wrap ((hiN a : Int) + (hiN b : Int)) = (H : Int) ∧ loN (a + b) = L ∧
    ((L < loN a ∧ ∃ K : Nat, IntKind.u64.wrap ((H : Int) + 1) = (K : Int) ∧ hiN (a + b) = K) ∨ (¬ L < loN a ∧ hiN (a + b) = H)) := by
  refine ⟨loN (a + b), hiN a + hiN b, ?_, ?_, rfl, ?_⟩
  · rw [IntKind.wrap_u64]; unfold loN; omega
  · rw [IntKind.wrap_u64]; unfold hiN N128 at *; omega
  · by_cases h : loN (a + b) < loN a
    · exact Or.inl ⟨h, hiN (a + b), by rw [IntKind.wrap_u64]; unfold hiN loN N128 at *; omega, rfl⟩
    · exact Or.inr ⟨h, by unfold hiN loN N128 at *; omega⟩



theorem rtimes_num (a b : Nat) (ha : N64 a) (hb : N64 b) : ∃ a1 a0 b1 b0 x y m z n o h l : Nat,
    (a : Int) / 4294967296 = (a1 : Int) ∧ (a : Int) % 4294967296 = (a0 : Int) ∧ (b : Int) / 4294967296 = (b1 : Int) ∧ (b : Int) % 4294967296 = (b0 : Int) ∧
    IntKind.u64.wrap (a1 : Int) = a1 ∧ IntKind.u64.wrap (a0 : Int) = a0 ∧ IntKind.u64.wrap (b1 : Int) = b1 ∧ IntKind.u64.wrap (b0 : Int) = b0 ∧
    IntKind.u64.wrap ((a1 : Int) * (b0 : Int)) = (x : Int) ∧ IntKind.u64.wrap ((a0 : Int) * (b1 : Int)) = (y : Int) ∧ x + y = m ∧
    IntKind.u64.wrap ((a1 : Int) * (b1 : Int)) = (z : Int) ∧ IntKind.u64.wrap ((a0 : Int) * (b0 : Int)) = (n : Int) ∧ z * 18446744073709551616 + n = o ∧
    N64 x ∧ N64 y ∧ N64 z ∧ N64 n ∧ N128 m ∧ N128 o ∧
    IntKind.u64.wrap ((hiN m : Int) * 4294967296) = ((hiN m * 4294967296 : Nat) : Int) ∧ (loN m : Int) / 4294967296 = ((loN m / 4294967296 : Nat) : Int) ∧ IntKind.u64.wrap ((loN m / 4294967296 : Nat) : Int) = ((loN m / 4294967296 : Nat) : Int) ∧
    IntKind.u64.wrap (((hiN m * 4294967296 : Nat) : Int) + ((loN m / 4294967296 : Nat) : Int)) = (h : Int) ∧ IntKind.u64.wrap ((loN m : Int) * 4294967296) = (l : Int) ∧ N64 h ∧ N64 l ∧ o + (h * 18446744073709551616 + l) = a * b := by
  unfold N64 at ha hb
  obtain ⟨a1, h1⟩ : ∃ a1, a / 4294967296 = a1 := ⟨_, rfl⟩
  obtain ⟨a0, h0⟩ : ∃ a0, a % 4294967296 = a0 := ⟨_, rfl⟩
  obtain ⟨b1, g1⟩ : ∃ b1, b / 4294967296 = b1 := ⟨_, rfl⟩
  obtain ⟨b0, g0⟩ : ∃ b0, b % 4294967296 = b0 := ⟨_, rfl⟩
  have p1 := Nat.mul_le_mul (show a1 ≤ 4294967295 by omega) (show b0 ≤ 4294967295 by omega)
  have p2 := Nat.mul_le_mul (show a0 ≤ 4294967295 by omega) (show b1 ≤ 4294967295 by omega)
  have p3 := Nat.mul_le_mul (show a1 ≤ 4294967295 by omega) (show b1 ≤ 4294967295 by omega)
  have p4 := Nat.mul_le_mul (show a0 ≤ 4294967295 by omega) (show b0 ≤ 4294967295 by omega)
  have ea : a = a1 * 4294967296 + a0 := by omega
  have eb : b = b1 * 4294967296 + b0 := by omega
  have ep : a * b = (a1 * b1) * 18446744073709551616 + (a1 * b0 + a0 * b1) * 4294967296 + a0 * b0 := by
    rw [ea, eb]
    have : (a1 * 4294967296 + a0) * (b1 * 4294967296 + b0) = a1 * 4294967296 * (b1 * 4294967296) + a1 * 4294967296 * b0 + (a0 * (b1 * 4294967296) + a0 * b0) := by
      rw [Nat.add_mul, Nat.mul_add, Nat.mul_add]
    rw [this, Nat.mul_mul_mul_comm, Nat.mul_right_comm a1 4294967296 b0, ← Nat.mul_assoc a0 b1]
    omega
  refine ⟨a1, a0, b1, b0, a1 * b0, a0 * b1, a1 * b0 + a0 * b1, a1 * b1, a0 * b0, a1 * b1 * 18446744073709551616 + a0 * b0, hiN (a1 * b0 + a0 * b1) * 4294967296 + loN (a1 * b0 + a0 * b1) / 4294967296, loN (a1 * b0 + a0 * b1) % 4294967296 * 4294967296, ?_⟩
  rw [ep]
  clear ep
  simp only [mul_n]
  generalize a1 * b0 = x at *
  generalize a0 * b1 = y at *
  generalize a1 * b1 = z at *
  generalize a0 * b0 = n at *
  simp only [IntKind.wrap_u64]
  unfold N64 N128 hiN loN
  refine ⟨by omega, by omega, by omega, by omega, by omega, by omega, by omega, by omega, by omega, by omega, trivial, by omega, by omega, trivial, by omega, by omega, by omega, by omega, by omega, by omega, by omega, by omega, by omega, by omega, by omega, by omega, by omega, by omega⟩

theorem wd_eq (n h l : Nat) (h1 : hiN n = h) (h2 : loN n = l) : Wd n = .agg #[V h, V l] := by simp only [Wd, h1, h2]

end Go.Proofs.YtdddfapelencoaaDoor
