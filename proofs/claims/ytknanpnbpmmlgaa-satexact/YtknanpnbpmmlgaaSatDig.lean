/- sat: the reference's numbers in digits of 16 bits, without the program. -/
import Derived.Test.YtknanpnbpmmlgaaSatNum
set_option linter.unusedVariables false
namespace Go.Proofs.Ytknanpnbpmmlgaa
open Go Go.RowKit

/-- The number of digits, the lowest first. -/
def valD : List Nat → Nat
  | [] => 0
  | d :: r => d + 65536 * valD r

/-- Digits. -/
def Digs (ds : List Nat) : Prop := ∀ d ∈ ds, d < 65536

theorem digs_snoc {ds : List Nat} {x : Nat} (h : Digs ds) (hx : x < 65536) : Digs (ds ++ [x]) := by
  intro d hd
  rcases List.mem_append.1 hd with h1 | h1
  · exact h d h1
  · rw [List.mem_singleton.1 h1]; exact hx
theorem digs_set {ds : List Nat} {k x : Nat} (h : Digs ds) (hx : x < 65536) : Digs (ds.set k x) := by
  intro d hd
  rcases List.mem_or_eq_of_mem_set hd with h1 | h1
  · exact h d h1
  · rw [h1]; exact hx
theorem digs_get {ds : List Nat} (h : Digs ds) (k : Nat) (hk : k < ds.length) : ds[k] < 65536 := h _ (List.getElem_mem hk)

theorem val_append (a b : List Nat) : valD (a ++ b) = valD a + 65536 ^ a.length * valD b := by
  induction a with
  | nil => simp [valD]
  | cons d r ih =>
    simp only [List.cons_append, valD, ih, List.length_cons]
    rw [Nat.mul_add, Nat.pow_succ, ← Nat.mul_assoc, Nat.mul_comm 65536 (65536 ^ r.length)]
    omega
theorem val_one (x : Nat) : valD [x] = x := by simp [valD]
theorem val_snoc (a : List Nat) (x : Nat) : valD (a ++ [x]) = valD a + 65536 ^ a.length * x := by rw [val_append, val_one]
theorem val_take (a : List Nat) (k : Nat) (h : k < a.length) : valD (a.take (k + 1)) = valD (a.take k) + 65536 ^ k * a[k] := by
  rw [List.take_succ_eq_append_getElem h, val_snoc, List.length_take, Nat.min_eq_left (by omega)]
theorem val_lt (a : List Nat) (h : Digs a) : valD a < 65536 ^ a.length := by
  induction a with
  | nil => simp [valD]
  | cons d r ih =>
    have h1 := ih (fun x hx => h x (List.mem_cons_of_mem _ hx))
    have h2 := h d (List.mem_cons_self ..)
    simp only [valD, List.length_cons, Nat.pow_succ]
    omega
theorem val_set (a : List Nat) (k x : Nat) (h : k < a.length) : valD (a.set k x) + 65536 ^ k * a[k] = valD a + 65536 ^ k * x := by
  induction a generalizing k with
  | nil => simp at h
  | cons d r ih =>
    cases k with
    | zero => simp [valD]; omega
    | succ k =>
      have h1 := ih k (by simpa using h)
      simp only [List.set_cons_succ, valD, List.getElem_cons_succ, Nat.pow_succ]
      have e : ∀ y, 65536 ^ k * 65536 * y = 65536 * (65536 ^ k * y) := fun y => by rw [Nat.mul_comm (65536 ^ k) 65536, Nat.mul_assoc]
      rw [e, e]
      omega
theorem val_drop (a : List Nat) (k : Nat) (h : k < a.length) : valD (a.drop k) = a[k] + 65536 * valD (a.drop (k + 1)) := by
  rw [List.drop_eq_getElem_cons h]; rfl
theorem val_zeros (a : List Nat) (h : ∀ k (hk : k < a.length), a[k] = 0) : valD a = 0 := by
  induction a with
  | nil => rfl
  | cons d r ih =>
    have h0 : d = 0 := h 0 (by simp)
    have h1 := ih (fun k hk => h (k + 1) (by simpa using hk))
    simp [valD, h0, h1]
theorem val_pos (a : List Nat) (k : Nat) (h : k < a.length) (h0 : a[k] ≠ 0) : 65536 ^ k ≤ valD a := by
  have h1 : valD (a.take (k + 1)) ≤ valD a := by
    conv => rhs; rw [← List.take_append_drop (k + 1) a]
    rw [val_append]; omega
  rw [val_take a k h] at h1
  have h2 : 65536 ^ k * 1 ≤ 65536 ^ k * a[k] := Nat.mul_le_mul_left _ (by omega)
  omega

/-- The first k digits of a number. -/
def dgs (n k : Nat) : List Nat := (List.range k).map fun i => n / 65536 ^ i % 65536
theorem dgs_length (n k : Nat) : (dgs n k).length = k := by simp [dgs]
theorem dgs_succ (n k : Nat) : dgs n (k + 1) = dgs n k ++ [n / 65536 ^ k % 65536] := by simp [dgs, List.range_succ]
theorem dgs_digs (n k : Nat) : Digs (dgs n k) := by
  intro d hd
  obtain ⟨i, _, rfl⟩ := List.mem_map.1 hd
  exact Nat.mod_lt _ (by decide)
theorem val_dgs (n k : Nat) : valD (dgs n k) = n % 65536 ^ k := by
  induction k with
  | zero => simp [dgs, valD, Nat.mod_one]
  | succ k ih =>
    rw [dgs_succ, val_snoc, ih, dgs_length, Nat.pow_succ, Nat.mod_mul]

/-- The digits of a number of 128 bits, as the reference lays them. -/
def dig8 (h l : Nat) : List Nat := dgs l 4 ++ dgs h 4
theorem dig8_spec (h l : Nat) (hh : h < 18446744073709551616) (hl : l < 18446744073709551616) : (dig8 h l).length = 8 ∧ Digs (dig8 h l) ∧ valD (dig8 h l) = h * 18446744073709551616 + l := by
  refine ⟨by simp [dig8, dgs_length], ?_, ?_⟩
  · intro d hd
    rcases List.mem_append.1 hd with h1 | h1
    · exact dgs_digs _ _ d h1
    · exact dgs_digs _ _ d h1
  · rw [dig8, val_append, val_dgs, val_dgs, dgs_length]
    have e : (65536 : Nat) ^ 4 = 18446744073709551616 := by decide
    rw [e, Nat.mod_eq_of_lt hh, Nat.mod_eq_of_lt hl]
    omega
end Go.Proofs.Ytknanpnbpmmlgaa
