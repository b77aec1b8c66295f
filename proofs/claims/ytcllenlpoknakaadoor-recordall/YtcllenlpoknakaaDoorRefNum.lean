/- The reference's reader of layer 1: Number. -/
import Derived.Test.YtcllenlpoknakaaDoorRefRd3
set_option linter.unusedVariables false
namespace Go.Proofs.YtcllenlpoknakaaDoor
open Go Go.RowKit

def un128 : List UInt8 → Nat
  | [] => 0
  | c :: r => c.toNat % 128 + 128 * un128 r

theorem un128_lt (l : List UInt8) : un128 l < 128 ^ l.length := by
  induction l with
  | nil => simp [un128]
  | cons c r ih =>
    have : c.toNat % 128 < 128 := Nat.mod_lt _ (by omega)
    simp only [un128, List.length_cons, Nat.pow_succ]
    omega
theorem un128_snoc (l : List UInt8) (c : UInt8) : un128 (l ++ [c]) = un128 l + 128 ^ l.length * (c.toNat % 128) := by
  induction l with
  | nil => simp [un128]
  | cons d r ih => simp only [List.cons_append, un128, ih, List.length_cons, Nat.pow_succ]; rw [Nat.mul_add, Nat.add_assoc, Nat.mul_comm (128 ^ r.length) 128, Nat.mul_assoc]

theorem grp_le (bs : List UInt8) : ∀ i, i ≤ 10 → grp i bs ≤ i + bs.length ∧ grp i bs ≤ 10 := by
  induction bs with
  | nil => intro i _; simp [grp]
  | cons c r ih =>
    intro i hi
    unfold grp
    split
    · simp
    · split
      · simp only [List.length_cons]; omega
      · have := ih (i + 1) (by omega)
        simp only [List.length_cons]; omega

theorem un128_top (bs : List UInt8) (m : Nat) (hm : m < bs.length) (hm9 : m < 9 ∨ m = 9 ∧ (bs[m]'hm).toNat ≤ 1) (j : Nat) (hj : j ≤ m) : un128 ((bs.take (m + 1)).drop (j + 1)) < 2 ^ 57 := by
  rcases hm9 with h | ⟨rfl, h⟩
  · have h1 := un128_lt ((bs.take (m + 1)).drop (j + 1))
    have h2 : ((bs.take (m + 1)).drop (j + 1)).length ≤ 8 := by simp; omega
    have h3 : (128 : Nat) ^ ((bs.take (m + 1)).drop (j + 1)).length ≤ 128 ^ 8 := Nat.pow_le_pow_right (by omega) h2
    omega
  · by_cases hj9 : j = 9
    · subst hj9
      rw [List.drop_of_length_le (by simp; omega)]
      simp [un128]
    · have e : (bs.take (9 + 1)).drop (j + 1) = (bs.take 9).drop (j + 1) ++ [bs[9]'hm] := by
        rw [List.take_succ_eq_append_getElem hm, List.drop_append_of_le_length (by simp; omega)]
      rw [e, un128_snoc]
      have h1 := un128_lt ((bs.take 9).drop (j + 1))
      have h2 : ((bs.take 9).drop (j + 1)).length ≤ 8 := by simp; omega
      have h3 : (128 : Nat) ^ ((bs.take 9).drop (j + 1)).length ≤ 128 ^ 8 := Nat.pow_le_pow_right (by omega) h2
      have h4 : (bs[9]'hm).toNat % 128 ≤ 1 := by omega
      have h5 := Nat.mul_le_mul_left (128 ^ ((bs.take 9).drop (j + 1)).length) h4
      omega




end Go.Proofs.YtcllenlpoknakaaDoor
