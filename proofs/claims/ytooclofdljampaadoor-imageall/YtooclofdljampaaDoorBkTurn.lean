/- block: one byte turned: the sum tells it. -/
import Derived.Test.YtooclofdljampaaDoorMiH
set_option linter.unusedVariables false
namespace Go.Proofs.YtooclofdljampaaDoor
open Go

theorem addB_inj (bs : List UInt8) (x y : W32) (h : addB x bs = addB y bs) : x = y := by
  have e : addB (x ^^^ y) bs = addB 0#32 bs := by
    have h1 := addB_xor bs x y
    have h2 := addB_xor bs y y
    rw [BitVec.xor_self] at h2
    rw [h1, h2, h]
  have h3 := addB_xor bs 0#32 (x ^^^ y)
  rw [BitVec.zero_xor, e] at h3
  have h4 : stpn (8 * bs.length) (x ^^^ y) = 0#32 := by
    have := congrArg (fun z => addB 0#32 bs ^^^ z) h3
    simp only [← BitVec.xor_assoc, BitVec.xor_self, BitVec.zero_xor] at this
    exact this.symm
  exact xor_eq_zero _ _ (stpn_ker _ _ h4)
theorem byt_inj {c d : UInt8} (h : byt c = byt d) : c = d := by
  have := congrArg BitVec.toNat h
  simp only [byt, BitVec.toNat_setWidth] at this
  have hc := c.toNat_lt
  have hd := d.toNat_lt
  apply UInt8.toNat_inj.1
  have e1 : c.toBitVec.toNat = c.toNat := rfl
  have e2 : d.toBitVec.toNat = d.toNat := rfl
  omega
theorem sumC_inj (ys0 bs : List UInt8) (c d : UInt8) (h : sumC (ys0 ++ c :: bs) = sumC (ys0 ++ d :: bs)) : c = d := by
  have h1 : addB (~~~ 0#32) (ys0 ++ c :: bs) = addB (~~~ 0#32) (ys0 ++ d :: bs) := by
    have := congrArg (fun z => ~~~ z) h
    simpa [sumC, addC] using this
  rw [addB_append, addB_append, addB_cons, addB_cons] at h1
  have h2 := stpn_inj _ _ _ (addB_inj _ _ _ h1)
  apply byt_inj
  have := congrArg (fun z => addB (~~~ 0#32) ys0 ^^^ z) h2
  simpa [← BitVec.xor_assoc] using this

theorem set_split (xs : List UInt8) (i : Nat) (c : UInt8) (h : i < xs.length) : xs.set i c = xs.take i ++ c :: xs.drop (i + 1) := by
  rw [List.set_eq_take_append_cons_drop, if_pos h]
theorem self_split (xs : List UInt8) (i : Nat) (h : i < xs.length) : xs = xs.take i ++ xs[i] :: xs.drop (i + 1) := by
  rw [List.getElem_cons_drop, List.take_append_drop]
theorem sumC_set (ys0 xs bs : List UInt8) (i : Nat) (c : UInt8) (hi : i < xs.length) (h : sumC (ys0 ++ (xs.set i c ++ bs)) = sumC (ys0 ++ (xs ++ bs))) : c = xs[i] := by
  have e1 : ys0 ++ (xs.set i c ++ bs) = (ys0 ++ xs.take i) ++ c :: (xs.drop (i + 1) ++ bs) := by rw [set_split _ _ _ hi]; simp
  have e2 : ys0 ++ (xs ++ bs) = (ys0 ++ xs.take i) ++ xs[i] :: (xs.drop (i + 1) ++ bs) := by
    have e5 : xs ++ bs = (xs.take i ++ xs[i] :: xs.drop (i + 1)) ++ bs := congrArg (· ++ bs) (self_split xs i hi)
    rw [List.append_assoc, List.cons_append] at e5
    rw [e5, List.append_assoc]
  rw [e1, e2] at h
  exact sumC_inj _ _ _ _ h

/-- The sum of a block is its own. -/
def SumOk (b : List UInt8) : Prop := lb ((b.drop 14).take 4) = (sumAll (b.take 14) (b.drop 18)).toNat

theorem SumOk.turned {b : List UInt8} {i : Nat} {c : UInt8} (hb : b.length = 512) (hi : i < 512) (h : SumOk b) (h' : SumOk (b.set i c)) : c = b[i]'(by omega) := by
  unfold SumOk at h h'
  rcases Nat.lt_or_ge i 14 with h1 | h1
  · have e1 : (b.set i c).take 14 = (b.take 14).set i c := List.take_set
    have e2 : (b.set i c).drop 14 = b.drop 14 := List.drop_set_of_lt (by omega)
    have e3 : (b.set i c).drop 18 = b.drop 18 := List.drop_set_of_lt (by omega)
    rw [e1, e2, e3, h] at h'
    have h2 := BitVec.eq_of_toNat_eq h'
    unfold sumAll at h2
    have h3 := sumC_set [] (b.take 14) ([0, 0, 0, 0] ++ b.drop 18) i c (by rw [List.length_take]; omega) (by simpa using h2.symm)
    rw [h3, List.getElem_take]
  · rcases Nat.lt_or_ge i 18 with h2 | h2
    · have e1 : (b.set i c).take 14 = b.take 14 := List.take_set_of_le h1
      have e3 : (b.set i c).drop 18 = b.drop 18 := List.drop_set_of_lt (by omega)
      have e2 : ((b.set i c).drop 14).take 4 = ((b.drop 14).take 4).set (i - 14) c := by
        rw [List.drop_set, if_neg (by omega), List.take_set]
      rw [e1, e3, ← h, e2] at h'
      have h3 := lb_inj (by rw [List.length_set]) h'
      have h4 : (((b.drop 14).take 4).set (i - 14) c)[i - 14]? = ((b.drop 14).take 4)[i - 14]? := by rw [h3]
      have hl : ((b.drop 14).take 4).length = 4 := by rw [List.length_take, List.length_drop]; omega
      rw [List.getElem?_set_self (by omega), List.getElem?_eq_getElem (by omega), List.getElem_take, List.getElem_drop] at h4
      have h5 := Option.some.inj h4
      rw [h5]
      congr 1
      omega
    · have e1 : (b.set i c).take 14 = b.take 14 := List.take_set_of_le h1
      have e2 : ((b.set i c).drop 14).take 4 = (b.drop 14).take 4 := by
        rw [List.drop_set, if_neg (by omega), List.take_set_of_le (by omega)]
      have e3 : (b.set i c).drop 18 = (b.drop 18).set (i - 18) c := by rw [List.drop_set, if_neg (by omega)]
      rw [e1, e2, e3, h] at h'
      have h3 := BitVec.eq_of_toNat_eq h'
      unfold sumAll at h3
      have hl : i - 18 < (b.drop 18).length := by rw [List.length_drop]; omega
      have h4 := sumC_set (b.take 14 ++ [0, 0, 0, 0]) (b.drop 18) [] (i - 18) c hl (by simpa using h3.symm)
      rw [h4, List.getElem_drop]
      congr 1
      omega

theorem decB_sum {b : List UInt8} {x : Nat × List Rec} (h : decB b = .ok x) : b.length = 512 ∧ SumOk b := by
  unfold decB at h
  split at h
  · cases h
  split at h
  · cases h
  split at h
  · cases h
  rename_i h1 h2 h3
  exact ⟨by omega, Classical.not_not.1 h3⟩

/-- A BLOCK WITH ONE BYTE TURNED IS NOT TAKEN. -/
theorem dec_turned {b : List UInt8} {x : Nat × List Rec} (h : decB b = .ok x) (i : Nat) (hi : i < 512) (c : UInt8) (hc : ∀ h : i < b.length, c ≠ b[i]) : decB (b.set i c) = .error .form ∨ decB (b.set i c) = .error .sum := by
  obtain ⟨hb, hs⟩ := decB_sum h
  have hl : (b.set i c).length = 512 := by rw [List.length_set, hb]
  rcases hd : decB (b.set i c) with e | y
  · cases e with
    | short =>
      unfold decB at hd
      rw [hl, if_neg (by omega)] at hd
      split at hd
      · cases hd
      split at hd
      · cases hd
      split at hd
      · cases hd
      split at hd <;> cases hd
    | form => exact .inl rfl
    | sum => exact .inr rfl
  · exact absurd (SumOk.turned hb hi hs (decB_sum hd).2) (hc (by omega))

end Go.Proofs.YtooclofdljampaaDoor
