/- Merged: RefRd, RefRd2, RefRd3, RefNum, RefNum2. -/
import Derived.Test.YtcllenlpoknakaaDoorMr18
import Derived.Test.YtcllenlpoknakaaDoorMr13
import Derived.Deep.QuietTactic
import Derived.BigQuiet
set_option linter.unusedVariables false
namespace Go.Proofs.YtcllenlpoknakaaDoor
open Go Go.RowKit



/-- The bytes of a slice lie in a block of bytes alone where its block is known: another block's turn does not touch them. -/
theorem sl_other {base : Nat} {w w' : World} {r t : Nat} {cs : Array Value} {v : Value} {bs : List UInt8} (hs : Sl base w v bs) (h : w.heap[r]? = some (.cells cs t (0, 0))) (hne : ∀ (o : Nat) (q : Int), cs[o]? = some (Value.int .u8 q) → False) (hu : But r w w') : Sl base w' v bs := by
  obtain ⟨ao, cap, rfl, hc, hn, hxx⟩ := hs
  refine ⟨ao, cap, rfl, hc, hn, fun hb => ?_⟩
  obtain ⟨b, o, rfl, hbb, ha⟩ := hxx hb
  refine ⟨b, o, rfl, hbb, ha.but hu ?_⟩
  rintro rfl
  have hl : 0 < bs.length := List.length_pos_iff.2 hb
  have := ha 0 hl
  rw [cell_of_row w b _ _ t _ h] at this
  exact hne _ _ this

theorem rrd_ne {v : Value} {c : Nat} (hv : ∀ k n, v ≠ .int k n) : ∀ (o : Nat) (q : Int), (#[v, Value.int .i64 (c : Int)] : Array Value)[o]? = some (Value.int .u8 q) → False := by
  intro o q h
  match o, h with
  | 0, h => simp at h; exact hv _ _ h
  | 1, h => simp at h
  | n + 2, h => simp at h






def endC (bs : List UInt8) (c : Nat) : Nat := if c = 0 ∧ 0 < bs.length then 3 else c
end Go.Proofs.YtcllenlpoknakaaDoor

set_option linter.unusedVariables false
namespace Go.Proofs.YtcllenlpoknakaaDoor
open Go Go.RowKit

def cA (n : Nat) (bs : List UInt8) (c : Nat) : Nat := if c = 0 ∧ n ≤ bs.length then unle (bs.take n) else 0
def cL (n : Nat) (bs : List UInt8) (c : Nat) : List UInt8 := if c = 0 ∧ n ≤ bs.length then bs.drop n else bs
def cF (n : Nat) (bs : List UInt8) (c : Nat) : Nat := if c = 0 then (if n ≤ bs.length then 0 else 2) else c



theorem wrap_step (X q : Nat) (hX : Hid (X < 2 ^ 56)) (hq : Hid (q < 256)) : Value.int IntKind.u64 (IntKind.u64.wrap (IntKind.u64.wrap ((X : Int) * 256) + IntKind.u64.wrap (q : Int))) = Value.int .u64 ((X * 256 + q : Nat) : Int) := by
  have h1 := hX.out
  have h2 := hq.out
  congr 1
  rw [IntKind.wrap_u64, IntKind.wrap_u64, IntKind.wrap_u64]
  omega

end Go.Proofs.YtcllenlpoknakaaDoor

set_option linter.unusedVariables false
namespace Go.Proofs.YtcllenlpoknakaaDoor
open Go Go.RowKit


theorem cA_lt (n : Nat) (bs : List UInt8) (c : Nat) : cA n bs c < 256 ^ n := by
  unfold cA
  split
  · have := unle_lt (bs.take n)
    rwa [show (bs.take n).length = n by simp; omega] at this
  · exact Nat.pow_pos (by omega)


/-! Text. -/
def tA (bs : List UInt8) (c : Nat) : List UInt8 := if c = 0 ∧ textOk bs then (bs.drop 2).take (unle (bs.take 2)) else []
def tL (bs : List UInt8) (c : Nat) : List UInt8 := if c = 0 ∧ textOk bs then bs.drop (2 + unle (bs.take 2)) else bs
def tF (bs : List UInt8) (c : Nat) : Nat := if c = 0 then (if textOk bs then 0 else 2) else c



theorem take2 : ∀ (bs : List UInt8) (h : 2 ≤ bs.length), bs.take 2 = [bs[0]'(by omega), bs[1]'(by omega)]
  | _ :: _ :: _, _ => rfl



/-! Number. -/
def grp : Nat → List UInt8 → Nat
  | _, [] => 0
  | i, c :: r => if i = 10 then 0 else if c.toNat < 128 then i + 1 else grp (i + 1) r

end Go.Proofs.YtcllenlpoknakaaDoor

set_option linter.unusedVariables false
namespace Go.Proofs.YtcllenlpoknakaaDoor
open Go Go.RowKit

def un128 : List UInt8 → Nat
  | [] => 0
  | c :: r => c.toNat % 128 + 128 * un128 r

theorem un128_lt (l : List UInt8) : un128 l < 128 ^ l.length := by
  induction l with
  | nil => simp [un128]
  | cons c r ih =>
    have : c.toNat % 128 < 128 := Nat.mod_lt _ (by omega)
    simp only [un128, List.length_cons, Nat.pow_succ]
    omega
theorem un128_snoc (l : List UInt8) (c : UInt8) : un128 (l ++ [c]) = un128 l + 128 ^ l.length * (c.toNat % 128) := by
  induction l with
  | nil => simp [un128]
  | cons d r ih => simp only [List.cons_append, un128, ih, List.length_cons, Nat.pow_succ]; rw [Nat.mul_add, Nat.add_assoc, Nat.mul_comm (128 ^ r.length) 128, Nat.mul_assoc]

theorem grp_le (bs : List UInt8) : ∀ i, i ≤ 10 → grp i bs ≤ i + bs.length ∧ grp i bs ≤ 10 := by
  induction bs with
  | nil => intro i _; simp [grp]
  | cons c r ih =>
    intro i hi
    unfold grp
    split
    · simp
    · split
      · simp only [List.length_cons]; omega
      · have := ih (i + 1) (by omega)
        simp only [List.length_cons]; omega

theorem un128_top (bs : List UInt8) (m : Nat) (hm : m < bs.length) (hm9 : m < 9 ∨ m = 9 ∧ (bs[m]'hm).toNat ≤ 1) (j : Nat) (hj : j ≤ m) : un128 ((bs.take (m + 1)).drop (j + 1)) < 2 ^ 57 := by
  rcases hm9 with h | ⟨rfl, h⟩
  · have h1 := un128_lt ((bs.take (m + 1)).drop (j + 1))
    have h2 : ((bs.take (m + 1)).drop (j + 1)).length ≤ 8 := by simp; omega
    have h3 : (128 : Nat) ^ ((bs.take (m + 1)).drop (j + 1)).length ≤ 128 ^ 8 := Nat.pow_le_pow_right (by omega) h2
    omega
  · by_cases hj9 : j = 9
    · subst hj9
      rw [List.drop_of_length_le (by simp; omega)]
      simp [un128]
    · have e : (bs.take (9 + 1)).drop (j + 1) = (bs.take 9).drop (j + 1) ++ [bs[9]'hm] := by
        rw [List.take_succ_eq_append_getElem hm, List.drop_append_of_le_length (by simp; omega)]
      rw [e, un128_snoc]
      have h1 := un128_lt ((bs.take 9).drop (j + 1))
      have h2 : ((bs.take 9).drop (j + 1)).length ≤ 8 := by simp; omega
      have h3 : (128 : Nat) ^ ((bs.take 9).drop (j + 1)).length ≤ 128 ^ 8 := Nat.pow_le_pow_right (by omega) h2
      have h4 : (bs[9]'hm).toNat % 128 ≤ 1 := by omega
      have h5 := Nat.mul_le_mul_left (128 ^ ((bs.take 9).drop (j + 1)).length) h4
      omega




end Go.Proofs.YtcllenlpoknakaaDoor

set_option linter.unusedVariables false
namespace Go.Proofs.YtcllenlpoknakaaDoor
open Go Go.RowKit

theorem wrap_step128 (X q : Nat) (hX : Hid (X < 2 ^ 57)) : Value.int IntKind.u64 (IntKind.u64.wrap (IntKind.u64.wrap ((X : Int) * 128) + (q : Int) % 128)) = Value.int .u64 ((X * 128 + q % 128 : Nat) : Int) := by
  have h1 := hX.out
  congr 1
  rw [IntKind.wrap_u64, IntKind.wrap_u64]
  omega

/-- What the loop of the reference's Number keeps, at byte j of 0 .. m. -/
structure NumLoop (bs : List UInt8) (m j X : Nat) : Prop where
  le : j ≤ m
  eq : X = un128 ((bs.take (m + 1)).drop (j + 1))
theorem NumLoop.start (bs : List UInt8) (m : Nat) : NumLoop bs m m 0 := ⟨Nat.le_refl _, by rw [List.drop_of_length_le (by simp; omega)]; rfl⟩
theorem NumLoop.lt {bs : List UInt8} {m j X : Nat} (h : NumLoop bs m j X) : j ≤ m := h.le
theorem NumLoop.top {bs : List UInt8} {m j X : Nat} (h : NumLoop bs m j X) (ht : ∀ j, j ≤ m → un128 ((bs.take (m + 1)).drop (j + 1)) < 2 ^ 57) : X < 2 ^ 57 := by rw [h.eq]; exact ht j h.le
/-- The same with the byte j taken in: q is the byte. -/
structure NumNext (bs : List UInt8) (m j X q : Nat) : Prop where
  le : j ≤ m
  eq : X * 128 + q % 128 = un128 ((bs.take (m + 1)).drop j)
theorem NumLoop.next {bs : List UInt8} {m j X : Nat} (h : NumLoop bs m j X) (hm : m < bs.length) : NumNext bs m j X (bs[j]'(Nat.lt_of_le_of_lt h.le hm)).toNat := by
  refine ⟨h.le, ?_⟩
  have hl := h.le
  have he := h.eq
  rw [List.drop_eq_getElem_cons (by simp; omega), un128, ← he]
  simp; omega
theorem NumNext.zero {bs : List UInt8} {m X q : Nat} (h : NumNext bs m 0 X q) : X * 128 + q % 128 = un128 (bs.take (m + 1)) := h.eq
theorem NumNext.more {bs : List UInt8} {m j X q : Nat} (h : NumNext bs m (j + 1) X q) : NumLoop bs m j (X * 128 + q % 128) := ⟨by have := h.le; omega, h.eq⟩


/-- The reference's answer: the number, how many bytes it takes, the fault's number. -/
def rN (bs : List UInt8) : Nat × Nat × Nat :=
  if grp 0 bs = 0 then (0, 0, if bs.length < 10 then 2 else 3)
  else if (grp 0 bs = 10 ∧ 1 < (bs.getD 9 0).toNat) ∨ (1 < grp 0 bs ∧ (bs.getD (grp 0 bs - 1) 0).toNat = 0) then (0, 0, 3)
  else (un128 (bs.take (grp 0 bs)), grp 0 bs, 0)


def nA (bs : List UInt8) (c : Nat) : Nat := if c = 0 then (rN bs).1 else 0
def nL (bs : List UInt8) (c : Nat) : List UInt8 := if c = 0 then bs.drop (rN bs).2.1 else bs
def nF (bs : List UInt8) (c : Nat) : Nat := if c = 0 then (rN bs).2.2 else c

/-- The value of a fault's number in the program. -/
def fvOf (aS aF : Addr) (c : Nat) : Value := if c = 0 then .nilIface else if c = 2 then E aS else E aF

theorem grp_ge (bs : List UInt8) : ∀ i, grp i bs = 0 ∨ i + 1 ≤ grp i bs := by
  induction bs with
  | nil => intro i; exact .inl rfl
  | cons c r ih =>
    intro i
    unfold grp
    split
    · exact .inl rfl
    · split
      · exact .inr (by omega)
      · rcases ih (i + 1) with h | h
        · exact .inl h
        · exact .inr (by omega)

/-- The program's number and the reference's are one. -/
theorem numR_grp (aS aF : Addr) (bs : List UInt8) : ∀ i acc, i ≤ 9 → numR aS aF i acc bs =
    if grp i bs = 0 then (0, 0, if i + bs.length < 10 then E aS else E aF)
    else if (grp i bs = 10 ∧ 1 < (bs.getD (9 - i) 0).toNat) ∨ (1 < grp i bs ∧ (bs.getD (grp i bs - 1 - i) 0).toNat = 0) then (0, 0, E aF)
    else (acc + 2 ^ (7 * i) * un128 (bs.take (grp i bs - i)), grp i bs, .nilIface) := by
  induction bs with
  | nil =>
    intro i acc hi
    simp only [numR, grp, if_true, List.length_nil]
    rw [if_pos (by omega)]
  | cons c r ih =>
    intro i acc hi
    have hc := c.toNat_lt
    unfold numR grp
    rw [if_neg (show ¬ i = 10 by omega)]
    by_cases hs : c.toNat < 128
    · simp only [if_pos hs]
      rw [if_neg (show ¬ i + 1 = 0 by omega)]
      rw [show i + 1 - 1 - i = 0 by omega, show i + 1 - i = 1 by omega]
      by_cases hb : (0 < i ∧ c.toNat = 0) ∨ (i = 9 ∧ 1 < c.toNat)
      · rw [if_pos hb, if_pos]
        rcases hb with ⟨a, b⟩ | ⟨rfl, b⟩
        · exact .inr ⟨by omega, by simpa using b⟩
        · exact .inl ⟨rfl, by simpa using b⟩
      · rw [if_neg hb, if_neg]
        · simp [un128]
        · rintro (⟨a, b⟩ | ⟨a, b⟩)
          · have hi9 : i = 9 := by omega
            subst hi9
            exact hb (.inr ⟨rfl, by simpa using b⟩)
          · exact hb (.inl ⟨by omega, by simpa using b⟩)
    · simp only [if_neg hs]
      by_cases h9 : i = 9
      · subst h9
        rw [if_pos (.inr ⟨rfl, by omega⟩)]
        have hg : grp (9 + 1) r = 0 := by cases r <;> simp [grp]
        rw [hg, if_pos rfl, if_neg (by simp only [List.length_cons]; omega)]
      · rw [if_neg (by omega), ih (i + 1) _ (by omega)]
        obtain ⟨g1, g2⟩ := grp_le r (i + 1) (by omega)
        have hgi : grp (i + 1) r = 0 ∨ i + 2 ≤ grp (i + 1) r := grp_ge r (i + 1)
        rcases hgi with hg | hg
        · rw [hg, if_pos rfl, if_pos rfl]
          rw [show i + 1 + r.length = i + (c :: r).length by simp only [List.length_cons]; omega]
        · have hg0 : ¬ grp (i + 1) r = 0 := by omega
          simp only [if_neg hg0]
          have e1 : (c :: r).getD (9 - i) 0 = r.getD (9 - (i + 1)) 0 := by rw [show 9 - i = (9 - (i + 1)) + 1 by omega]; rfl
          have e2 : (c :: r).getD (grp (i + 1) r - 1 - i) 0 = r.getD (grp (i + 1) r - 1 - (i + 1)) 0 := by rw [show grp (i + 1) r - 1 - i = (grp (i + 1) r - 1 - (i + 1)) + 1 by omega]; rfl
          rw [e1, e2]
          have e3 : (c :: r).take (grp (i + 1) r - i) = c :: r.take (grp (i + 1) r - (i + 1)) := by rw [show grp (i + 1) r - i = (grp (i + 1) r - (i + 1)) + 1 by omega]; rfl
          rw [e3, un128]
          have e4 : 2 ^ (7 * (i + 1)) = 2 ^ (7 * i) * 128 := by rw [show 7 * (i + 1) = 7 * i + 7 by omega, Nat.pow_add]
          rw [e4, Nat.mul_add, Nat.mul_assoc, Nat.add_assoc]

theorem numR_rN (aS aF : Addr) (bs : List UInt8) : numR aS aF 0 0 bs = ((rN bs).1, (rN bs).2.1, fvOf aS aF (rN bs).2.2) := by
  rw [numR_grp aS aF bs 0 0 (by omega)]
  unfold rN
  by_cases h0 : grp 0 bs = 0
  · rw [if_pos h0, if_pos h0]
    simp only [Nat.zero_add]
    split <;> simp [fvOf]
  · rw [if_neg h0, if_neg h0]
    simp only [Nat.sub_zero]
    split
    · simp [fvOf]
    · simp [fvOf]
end Go.Proofs.YtcllenlpoknakaaDoor
