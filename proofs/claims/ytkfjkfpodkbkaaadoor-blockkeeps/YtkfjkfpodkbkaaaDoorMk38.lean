/- Merged: RefPut, RefRd, RefRd2, RefRd3, RefNum. -/
import Derived.Test.YtkfjkfpodkbkaaaDoorMk03
import Derived.Test.YtkfjkfpodkbkaaaDoorMk08
import Derived.Deep.QuietTactic
import Derived.BigQuiet
set_option linter.unusedVariables false
namespace Go.Proofs.YtkfjkfpodkbkaaaDoor
open Go Go.RowKit

/-- A row of n bytes at the head of block g, the first k of them those of bs. -/
def Fill (w : World) (g n k : Nat) (bs : List UInt8) : Prop := ∃ cur, w.heap[g]? = some (.cells cur 5 (0, 0)) ∧ cur.size = n ∧ cur.toList.take k = Bv (bs.take k)

theorem Fill.cell {w : World} {g n k : Nat} {bs : List UInt8} (h : Fill w g n k bs) (hk : k < n) : (∃ v, w.cell? ⟨g, k, none⟩ = some v) ∧ w.frozen? ⟨g, k, none⟩ = false := by
  obtain ⟨cur, h1, h2, _⟩ := h
  refine ⟨⟨cur[k]'(by omega), ?_⟩, by simp [World.frozen?, h1]⟩
  rw [cell_of_row w g k cur _ _ h1]
  simp [h2, hk]

theorem Fill.next {w : World} {g n k : Nat} {bs : List UInt8} (h : Fill w g n k bs) (hk : k < n) (hn : n = bs.length) : Fill (w.setCell ⟨g, k, none⟩ (B (bs[k]'(by omega)))) g n (k + 1) bs := by
  obtain ⟨cur, h1, h2, h3⟩ := h
  refine ⟨cur.setIfInBounds k (B (bs[k]'(by omega))), ?_, by simp [h2], ?_⟩
  · rw [setCell_eq_setRow w g k cur 5 (0, 0) _ h1]
    exact setRow_heap w g cur _ _ _ h1
  · have hk2 : k < bs.length := by omega
    rw [Array.toList_setIfInBounds]
    apply List.ext_getElem?
    intro i
    by_cases hi : i < k
    · have := congrArg (·[i]?) h3
      simp only [List.getElem?_take, if_pos hi] at this
      simp only [List.getElem?_take, if_pos (show i < k + 1 by omega), List.getElem?_set_ne (show k ≠ i by omega), this]
      simp [hi, show i < k + 1 by omega]
    · by_cases he : i = k
      · subst he
        simp [h2, hk, hk2]
      · simp [List.getElem?_take, show ¬ i < k + 1 by omega]

theorem Fill.own {w : World} {g n : Nat} {bs : List UInt8} (h : Fill w g n n bs) (hn : n = bs.length) (hm : n ≤ maxLen) (base : Nat) (hb : base ≤ g) : Own w 5 base (.slice (some ⟨g, 0, none⟩) n n) bs := by
  obtain ⟨cur, h1, h2, h3⟩ := h
  subst hn
  refine ⟨by simp, .inr ⟨g, bs.length, cur, rfl, hb, h1, Nat.le_refl _, hm, by simp [h2], ?_⟩⟩
  rw [List.take_length] at h3
  simpa using h3




end Go.Proofs.YtkfjkfpodkbkaaaDoor

set_option linter.unusedVariables false
namespace Go.Proofs.YtkfjkfpodkbkaaaDoor
open Go Go.RowKit



/-- The bytes of a slice lie in a block of bytes alone where its block is known: another block's turn does not touch them. -/
theorem sl_other {base : Nat} {w w' : World} {r t : Nat} {cs : Array Value} {v : Value} {bs : List UInt8} (hs : Sl base w v bs) (h : w.heap[r]? = some (.cells cs t (0, 0))) (hne : ∀ (o : Nat) (q : Int), cs[o]? = some (Value.int .u8 q) → False) (hu : But r w w') : Sl base w' v bs := by
  obtain ⟨ao, cap, rfl, hc, hn, hxx⟩ := hs
  refine ⟨ao, cap, rfl, hc, hn, fun hb => ?_⟩
  obtain ⟨b, o, rfl, hbb, ha⟩ := hxx hb
  refine ⟨b, o, rfl, hbb, ha.but hu ?_⟩
  rintro rfl
  have hl : 0 < bs.length := List.length_pos_iff.2 hb
  have := ha 0 hl
  rw [cell_of_row w b _ _ t _ h] at this
  exact hne _ _ this

theorem rrd_ne {v : Value} {c : Nat} (hv : ∀ k n, v ≠ .int k n) : ∀ (o : Nat) (q : Int), (#[v, Value.int .i64 (c : Int)] : Array Value)[o]? = some (Value.int .u8 q) → False := by
  intro o q h
  match o, h with
  | 0, h => simp at h; exact hv _ _ h
  | 1, h => simp at h
  | n + 2, h => simp at h






def endC (bs : List UInt8) (c : Nat) : Nat := if c = 0 ∧ 0 < bs.length then 3 else c
end Go.Proofs.YtkfjkfpodkbkaaaDoor

set_option linter.unusedVariables false
namespace Go.Proofs.YtkfjkfpodkbkaaaDoor
open Go Go.RowKit

def cA (n : Nat) (bs : List UInt8) (c : Nat) : Nat := if c = 0 ∧ n ≤ bs.length then unle (bs.take n) else 0
def cL (n : Nat) (bs : List UInt8) (c : Nat) : List UInt8 := if c = 0 ∧ n ≤ bs.length then bs.drop n else bs
def cF (n : Nat) (bs : List UInt8) (c : Nat) : Nat := if c = 0 then (if n ≤ bs.length then 0 else 2) else c



theorem wrap_step (X q : Nat) (hX : Hid (X < 2 ^ 56)) (hq : Hid (q < 256)) : Value.int IntKind.u64 (IntKind.u64.wrap (IntKind.u64.wrap ((X : Int) * 256) + IntKind.u64.wrap (q : Int))) = Value.int .u64 ((X * 256 + q : Nat) : Int) := by
  have h1 := hX.out
  have h2 := hq.out
  congr 1
  rw [IntKind.wrap_u64, IntKind.wrap_u64, IntKind.wrap_u64]
  omega

end Go.Proofs.YtkfjkfpodkbkaaaDoor

set_option linter.unusedVariables false
namespace Go.Proofs.YtkfjkfpodkbkaaaDoor
open Go Go.RowKit


theorem cA_lt (n : Nat) (bs : List UInt8) (c : Nat) : cA n bs c < 256 ^ n := by
  unfold cA
  split
  · have := unle_lt (bs.take n)
    rwa [show (bs.take n).length = n by simp; omega] at this
  · exact Nat.pow_pos (by omega)


/-! Text. -/
def tA (bs : List UInt8) (c : Nat) : List UInt8 := if c = 0 ∧ textOk bs then (bs.drop 2).take (unle (bs.take 2)) else []
def tL (bs : List UInt8) (c : Nat) : List UInt8 := if c = 0 ∧ textOk bs then bs.drop (2 + unle (bs.take 2)) else bs
def tF (bs : List UInt8) (c : Nat) : Nat := if c = 0 then (if textOk bs then 0 else 2) else c



theorem take2 : ∀ (bs : List UInt8) (h : 2 ≤ bs.length), bs.take 2 = [bs[0]'(by omega), bs[1]'(by omega)]
  | _ :: _ :: _, _ => rfl



/-! Number. -/
def grp : Nat → List UInt8 → Nat
  | _, [] => 0
  | i, c :: r => if i = 10 then 0 else if c.toNat < 128 then i + 1 else grp (i + 1) r

end Go.Proofs.YtkfjkfpodkbkaaaDoor

set_option linter.unusedVariables false
namespace Go.Proofs.YtkfjkfpodkbkaaaDoor
open Go Go.RowKit

def un128 : List UInt8 → Nat
  | [] => 0
  | c :: r => c.toNat % 128 + 128 * un128 r

theorem un128_lt (l : List UInt8) : un128 l < 128 ^ l.length := by
  induction l with
  | nil => simp [un128]
  | cons c r ih =>
    have : c.toNat % 128 < 128 := Nat.mod_lt _ (by omega)
    simp only [un128, List.length_cons, Nat.pow_succ]
    omega
theorem un128_snoc (l : List UInt8) (c : UInt8) : un128 (l ++ [c]) = un128 l + 128 ^ l.length * (c.toNat % 128) := by
  induction l with
  | nil => simp [un128]
  | cons d r ih => simp only [List.cons_append, un128, ih, List.length_cons, Nat.pow_succ]; rw [Nat.mul_add, Nat.add_assoc, Nat.mul_comm (128 ^ r.length) 128, Nat.mul_assoc]

theorem grp_le (bs : List UInt8) : ∀ i, i ≤ 10 → grp i bs ≤ i + bs.length ∧ grp i bs ≤ 10 := by
  induction bs with
  | nil => intro i _; simp [grp]
  | cons c r ih =>
    intro i hi
    unfold grp
    split
    · simp
    · split
      · simp only [List.length_cons]; omega
      · have := ih (i + 1) (by omega)
        simp only [List.length_cons]; omega

theorem un128_top (bs : List UInt8) (m : Nat) (hm : m < bs.length) (hm9 : m < 9 ∨ m = 9 ∧ (bs[m]'hm).toNat ≤ 1) (j : Nat) (hj : j ≤ m) : un128 ((bs.take (m + 1)).drop (j + 1)) < 2 ^ 57 := by
  rcases hm9 with h | ⟨rfl, h⟩
  · have h1 := un128_lt ((bs.take (m + 1)).drop (j + 1))
    have h2 : ((bs.take (m + 1)).drop (j + 1)).length ≤ 8 := by simp; omega
    have h3 : (128 : Nat) ^ ((bs.take (m + 1)).drop (j + 1)).length ≤ 128 ^ 8 := Nat.pow_le_pow_right (by omega) h2
    omega
  · by_cases hj9 : j = 9
    · subst hj9
      rw [List.drop_of_length_le (by simp; omega)]
      simp [un128]
    · have e : (bs.take (9 + 1)).drop (j + 1) = (bs.take 9).drop (j + 1) ++ [bs[9]'hm] := by
        rw [List.take_succ_eq_append_getElem hm, List.drop_append_of_le_length (by simp; omega)]
      rw [e, un128_snoc]
      have h1 := un128_lt ((bs.take 9).drop (j + 1))
      have h2 : ((bs.take 9).drop (j + 1)).length ≤ 8 := by simp; omega
      have h3 : (128 : Nat) ^ ((bs.take 9).drop (j + 1)).length ≤ 128 ^ 8 := Nat.pow_le_pow_right (by omega) h2
      have h4 : (bs[9]'hm).toNat % 128 ≤ 1 := by omega
      have h5 := Nat.mul_le_mul_left (128 ^ ((bs.take 9).drop (j + 1)).length) h4
      omega




end Go.Proofs.YtkfjkfpodkbkaaaDoor
