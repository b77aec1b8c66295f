/- Merged: Num. -/
import Derived.Test.YtcllenlpoknakaaDoorMr15
import Derived.Deep.QuietTactic
import Derived.BigQuiet
set_option linter.unusedVariables false
namespace Go.Proofs.YtcllenlpoknakaaDoor
open Go Go.RowKit

/-- The number at the front: the number, how many bytes it has, the fault. i: so many groups are behind, x: their number. -/
def numR (aS aF : Addr) : Nat → Nat → List UInt8 → Nat × Nat × Value
  | _, _, [] => (0, 0, E aS)
  | i, x, c :: r =>
    if (0 < i ∧ c.toNat = 0) ∨ (i = 9 ∧ 1 < c.toNat) then (0, 0, E aF)
    else if c.toNat < 128 then (x + 2 ^ (7 * i) * (c.toNat % 128), i + 1, .nilIface)
    else numR aS aF (i + 1) (x + 2 ^ (7 * i) * (c.toNat % 128)) r

/-- What firstNumber's loop keeps. -/
def NumK (aS aF : Addr) (bs : List UInt8) (k x : Nat) : Prop := k ≤ 9 ∧ x < 2 ^ (7 * k) ∧ numR aS aF 0 0 bs = numR aS aF k x (bs.drop k)

theorem NumK.start (aS aF : Addr) (bs : List UInt8) : NumK aS aF bs 0 0 := ⟨by omega, by simp, rfl⟩
theorem NumK.le {aS aF : Addr} {bs : List UInt8} {k x : Nat} (h : NumK aS aF bs k x) : k ≤ 9 := h.1
theorem NumK.short {aS aF : Addr} {bs : List UInt8} {k x : Nat} (h : NumK aS aF bs k x) (hk : k = bs.length) : numR aS aF 0 0 bs = (0, 0, E aS) := by
  rw [h.2.2, hk, List.drop_length]; rfl
theorem NumK.eq {aS aF : Addr} {bs : List UInt8} {k x : Nat} (h : NumK aS aF bs k x) (hk : k < bs.length) :
    numR aS aF 0 0 bs = if (0 < k ∧ bs[k].toNat = 0) ∨ (k = 9 ∧ 1 < bs[k].toNat) then (0, 0, E aF)
    else if bs[k].toNat < 128 then (x + 2 ^ (7 * k) * (bs[k].toNat % 128), k + 1, .nilIface)
    else numR aS aF (k + 1) (x + 2 ^ (7 * k) * (bs[k].toNat % 128)) (bs.drop (k + 1)) := by
  rw [h.2.2, List.drop_eq_getElem_cons hk]; rfl
theorem NumK.next {aS aF : Addr} {bs : List UInt8} {k x : Nat} (h : NumK aS aF bs k x) (hk : k < bs.length) (h1 : ¬ ((0 < k ∧ bs[k].toNat = 0) ∨ (k = 9 ∧ 1 < bs[k].toNat))) (h2 : ¬ bs[k].toNat < 128) :
    NumK aS aF bs (k + 1) (x + 2 ^ (7 * k) * (bs[k].toNat % 128)) := by
  have he := h.eq hk
  rw [if_neg h1, if_neg h2] at he
  refine ⟨?_, ?_, he⟩
  · have := h.1; omega
  · have hx := h.2.1
    have hc : bs[k].toNat % 128 < 128 := Nat.mod_lt _ (by omega)
    have e : 2 ^ (7 * (k + 1)) = 2 ^ (7 * k) * 128 := by rw [show 7 * (k + 1) = 7 * k + 7 by omega, Nat.pow_add]
    rw [e]
    have : 2 ^ (7 * k) * (bs[k].toNat % 128) ≤ 2 ^ (7 * k) * 127 := Nat.mul_le_mul_left _ (by omega)
    omega

/-- What a round of firstNumber answers, or hands on: one lemma a way. -/
theorem NumK.bad {aS aF : Addr} {bs : List UInt8} {k x : Nat} (h : NumK aS aF bs k x) (hk : k < bs.length) (hb : (0 < k ∧ bs[k].toNat = 0) ∨ (k = 9 ∧ 1 < bs[k].toNat)) : numR aS aF 0 0 bs = (0, 0, E aF) := by
  rw [h.eq hk, if_pos hb]
theorem NumK.last {aS aF : Addr} {bs : List UInt8} {k x : Nat} (h : NumK aS aF bs k x) (hk : k < bs.length) (hb : ¬ ((0 < k ∧ bs[k].toNat = 0) ∨ (k = 9 ∧ 1 < bs[k].toNat))) (h2 : bs[k].toNat < 128) :
    numR aS aF 0 0 bs = (x + 2 ^ (7 * k) * (bs[k].toNat % 128), k + 1, .nilIface) := by
  rw [h.eq hk, if_neg hb, if_pos h2]
theorem NumK.or {aS aF : Addr} {bs : List UInt8} {k x : Nat} (h : NumK aS aF bs k x) (hk : k < bs.length) (h9 : k = 9 → bs[k].toNat ≤ 1) :
    bits .or .u64 (x : Int) (IntKind.u64.wrap (IntKind.u64.wrap ((bs[k].toNat % 128 : Nat) : Int) * 2 ^ (7 * k))) = ((x + 2 ^ (7 * k) * (bs[k].toNat % 128) : Nat) : Int) := by
  have hx := h.2.1
  have hc : bs[k].toNat % 128 < 128 := Nat.mod_lt _ (by omega)
  have h9' := h.1
  have hx2 : x < 2 ^ 63 := Nat.lt_of_lt_of_le hx (Nat.pow_le_pow_right (by omega) (by omega))
  refine or_place _ _ _ hx ?_ (by omega)
  rcases Nat.lt_or_ge k 9 with hk9 | hk9
  · have hp : (2 : Nat) ^ (7 * k) ≤ 2 ^ 56 := Nat.pow_le_pow_right (by omega) (by omega)
    have := Nat.mul_le_mul hp (show bs[k].toNat % 128 ≤ 127 by omega)
    omega
  · obtain rfl : k = 9 := by omega
    have := h9 rfl
    have hm : bs[9].toNat % 128 ≤ 1 := by omega
    have := Nat.mul_le_mul_left (2 ^ (7 * 9)) hm
    omega

theorem and127_fin : ∀ a : Fin 256, bits .and .u8 (a.val : Int) 127 = ((a.val % 128 : Nat) : Int) := by decide +kernel
theorem and127_any (q : Nat) (h : q < 256) : bits .and .u8 (q : Int) 127 = ((q % 128 : Nat) : Int) := and127_fin ⟨q, h⟩

theorem tup3 {a b : Int} {c d : Int} {x y : Value} (h1 : a = b) (h2 : c = d) (h3 : x = y) : Ending.returned (.tuple #[.int .u64 a, .int .i64 c, x]) = .returned (.tuple #[.int .u64 b, .int .i64 d, y]) := by rw [h1, h2, h3]

end Go.Proofs.YtcllenlpoknakaaDoor
