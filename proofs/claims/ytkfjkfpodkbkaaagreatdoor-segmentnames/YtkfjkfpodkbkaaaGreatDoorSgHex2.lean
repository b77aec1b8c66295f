/- segment: sixteen digits there and back. Numbers and lists alone. -/
import Derived.Test.YtkfjkfpodkbkaaaGreatDoorMg24
set_option linter.unusedVariables false
namespace Go.Proofs.YtkfjkfpodkbkaaaGreatDoor
open Go Go.RowKit

def D16 : Nat → Nat → List UInt8
  | 0, _ => []
  | f + 1, x => D16 f (x / 16) ++ [dig16 (x % 16)]
theorem D16_length : ∀ f x, (D16 f x).length = f
  | 0, _ => rfl
  | f + 1, x => by simp [D16, D16_length f]
theorem D16_zero : ∀ f, D16 f 0 = List.replicate f 48
  | 0 => rfl
  | f + 1 => by
    show D16 f (0 / 16) ++ [dig16 (0 % 16)] = _
    rw [show 0 / 16 = 0 from rfl, D16_zero f, List.replicate_succ']
    rfl
theorem pad_hex : ∀ f x, 0 < f → x < 16 ^ f → List.replicate (f - (hexF f x).length) 48 ++ hexF f x = D16 f x
  | 0, _, h, _ => by omega
  | f + 1, x, _, hx => by
    unfold D16
    rcases Nat.lt_or_ge x 16 with h | h
    · rw [hexF_last f x h, Nat.div_eq_of_lt h, D16_zero, Nat.mod_eq_of_lt h]
      simp
    · rw [hexF_step f x h]
      have hf : 0 < f := by
        rcases Nat.eq_zero_or_pos f with rfl | q
        · simp at hx; omega
        · exact q
      have ih := pad_hex f (x / 16) hf (by rw [Nat.pow_succ] at hx; omega)
      rw [← ih]
      simp
theorem nameB_D16 (x : Nat) (h : x < 18446744073709551616) : nameB x = [108, 111, 103, 46] ++ D16 16 x := by
  rw [← pad_hex 16 x (by omega) (by simpa using h)]
  simp [nameB, hexB]

/-- A digit, and its number. -/
def isDig (c : UInt8) : Bool := (48 ≤ c.toNat && c.toNat ≤ 57) || (97 ≤ c.toNat && c.toNat ≤ 102)
def dval (c : UInt8) : Nat := if c.toNat ≤ 57 then c.toNat - 48 else c.toNat - 87
theorem dig_fact : ∀ n, n < 16 → isDig (dig16 n) = true ∧ dval (dig16 n) = n := by decide
theorem fact_dig (c : UInt8) (h : isDig c = true) : dval c < 16 ∧ dig16 (dval c) = c := by
  have key : ∀ k : Fin 256, isDig (UInt8.ofNat k.val) = true → dval (UInt8.ofNat k.val) < 16 ∧ dig16 (dval (UInt8.ofNat k.val)) = UInt8.ofNat k.val := by decide +kernel
  have := key ⟨c.toNat, c.toNat_lt⟩
  simpa [UInt8.ofNat_toNat] using this (by simpa [UInt8.ofNat_toNat] using h)
def dvals (l : List UInt8) : Nat := l.foldl (fun a c => 16 * a + dval c) 0
theorem dvals_snoc (l : List UInt8) (c : UInt8) : dvals (l ++ [c]) = 16 * dvals l + dval c := by simp [dvals]
theorem D16_dig : ∀ f x, ∀ c ∈ D16 f x, isDig c = true
  | 0, _, c, h => by simp [D16] at h
  | f + 1, x, c, h => by
    simp only [D16, List.mem_append, List.mem_singleton] at h
    rcases h with h | rfl
    · exact D16_dig f _ c h
    · exact (dig_fact _ (Nat.mod_lt _ (by omega))).1
theorem dvals_D16 : ∀ f x, x < 16 ^ f → dvals (D16 f x) = x
  | 0, x, h => by simp at h; subst h; rfl
  | f + 1, x, h => by
    rw [D16, dvals_snoc, dvals_D16 f _ (by rw [Nat.pow_succ] at h; omega), (dig_fact _ (Nat.mod_lt _ (by omega))).2]
    omega
theorem snoc_ind {P : List UInt8 → Prop} (h0 : P []) (h1 : ∀ l c, P l → P (l ++ [c])) : ∀ l, P l := by
  have key : ∀ n (l : List UInt8), l.length = n → P l := by
    intro n
    induction n with
    | zero => intro l h; rw [List.length_eq_zero_iff.1 h]; exact h0
    | succ n ih =>
      intro l h
      rcases List.eq_nil_or_concat l with rfl | ⟨L, b, rfl⟩
      · exact h0
      · rw [List.concat_eq_append] at h ⊢; exact h1 _ _ (ih L (by simpa using h))
  exact fun l => key _ l rfl
theorem dvals_lt (l : List UInt8) (h : ∀ c ∈ l, isDig c = true) : dvals l < 16 ^ l.length := by
  revert h
  refine snoc_ind (P := fun l => (∀ c ∈ l, isDig c = true) → dvals l < 16 ^ l.length) ?_ ?_ l
  · intro _; simp [dvals]
  · intro l c ih h
    rw [dvals_snoc]
    have h1 := ih (fun c hc => h c (by simp [hc]))
    have h2 := (fact_dig c (h c (by simp))).1
    simp only [List.length_append, List.length_cons, List.length_nil, Nat.pow_succ]
    omega
theorem D16_dvals (l : List UInt8) (h : ∀ c ∈ l, isDig c = true) : D16 l.length (dvals l) = l := by
  revert h
  refine snoc_ind (P := fun l => (∀ c ∈ l, isDig c = true) → D16 l.length (dvals l) = l) ?_ ?_ l
  · intro _; simp [D16]
  · intro l c ih h
    have h1 := ih (fun c hc => h c (by simp [hc]))
    have h2 := fact_dig c (h c (by simp))
    rw [dvals_snoc]
    simp only [List.length_append, List.length_cons, List.length_nil, D16]
    rw [show (16 * dvals l + dval c) / 16 = dvals l by omega, show (16 * dvals l + dval c) % 16 = dval c by omega, h1, h2.2]
theorem dvals_take (l : List UInt8) (i : Nat) (h : i < l.length) : dvals (l.take (i + 1)) = 16 * dvals (l.take i) + dval l[i] := by
  rw [List.take_succ_eq_append_getElem h, dvals_snoc]
theorem name_unique (x y : Nat) (hx : x < 18446744073709551616) (hy : y < 18446744073709551616) (h : nameB x = nameB y) : x = y := by
  rw [nameB_D16 x hx, nameB_D16 y hy] at h
  have e := List.append_cancel_left h
  rw [← dvals_D16 16 x (by simpa using hx), ← dvals_D16 16 y (by simpa using hy), e]
end Go.Proofs.YtkfjkfpodkbkaaaGreatDoor
