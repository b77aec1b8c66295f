/- policy: how levels are ordered, which are in form, what is admitted: in numbers alone. -/
import Derived.Test.YthpcjhihifhmgaaPlNum
set_option linter.unusedVariables false
namespace Go.Proofs.Ythpcjhihifhmgaa
open Go Go.RowKit

abbrev Pol.Is (P : Pol) : Prop := P.F ∨ P.G
theorem gcov_iff {c v : Lev} : gCov c v = true ↔ v.i < c.i ∨ v.i = c.i ∧ v.c ≤ c.c := by simp [gCov]
theorem cov_f {P : Pol} {c v : Lev} (h : P.F) : pCov P c v = true ↔ v.t ≤ c.t := by rw [show pCov P c v = _ from if_pos h]; simp
theorem cov_g {P : Pol} {c v : Lev} (h : P.G) : pCov P c v = true ↔ v.i < c.i ∨ v.i = c.i ∧ v.c ≤ c.c := by
  rw [show pCov P c v = gCov c v by unfold pCov; rw [if_neg (fun k => f_not_g k h), if_pos h]]; exact gcov_iff
theorem form_f {P : Pol} {v : Lev} (h : P.F) : pForm P v = ⟨v.t, 0, 0⟩ := if_pos h
theorem form_g {P : Pol} {v : Lev} (h : P.G) : pForm P v = ⟨0, v.i, v.c⟩ := by unfold pForm; rw [if_neg (fun k => f_not_g k h), if_pos h]

theorem cov_refl {P : Pol} (h : P.Is) (v : Lev) : pCov P v v = true := by
  rcases h with h | h
  · rw [cov_f h]; omega
  · rw [cov_g h]; omega
theorem cov_total {P : Pol} (h : P.Is) (v w : Lev) : pCov P v w = true ∨ pCov P w v = true := by
  rcases h with h | h
  · rw [cov_f h, cov_f h]; omega
  · rw [cov_g h, cov_g h]; omega
theorem cov_trans {P : Pol} (h : P.Is) {v w u : Lev} (h1 : pCov P v w = true) (h2 : pCov P w u = true) : pCov P v u = true := by
  rcases h with h | h
  · rw [cov_f h] at *; omega
  · rw [cov_g h] at *; omega
theorem cov_form {P : Pol} (h : P.Is) (v w : Lev) : pCov P (pForm P v) w = pCov P v w := by
  rw [Bool.eq_iff_iff]
  rcases h with h | h
  · rw [cov_f h, cov_f h, form_f h]
  · rw [cov_g h, cov_g h, form_g h]
theorem cov_form' {P : Pol} (h : P.Is) (v w : Lev) : pCov P v (pForm P w) = pCov P v w := by
  rw [Bool.eq_iff_iff]
  rcases h with h | h
  · rw [cov_f h, cov_f h, form_f h]
  · rw [cov_g h, cov_g h, form_g h]
theorem cov_max {P : Pol} (h : P.Is) (a b : Lev) : pCov P (pMax P a b) a = true ∧ pCov P (pMax P a b) b = true := by
  unfold pMax
  split
  · rename_i hc
    rw [cov_form h, cov_form h]
    exact ⟨cov_refl h a, hc⟩
  · rename_i hc
    rw [cov_form h, cov_form h]
    exact ⟨(cov_total h a b).resolve_left hc, cov_refl h b⟩
theorem max_self {P : Pol} (a : Lev) : pMax P a a = pForm P a := by unfold pMax; split <;> rfl
theorem form_eq {P : Pol} (h : P.Is) (v w : Lev) : (pForm P v = pForm P w) ↔ (pCov P v w = true ∧ pCov P w v = true) := by
  rcases h with h | h
  · rw [cov_f h, cov_f h, form_f h, form_f h]
    simp only [Lev.mk.injEq, and_true]
    omega
  · rw [cov_g h, cov_g h, form_g h, form_g h]
    simp only [Lev.mk.injEq, true_and]
    omega
theorem cov_not {P : Pol} (h : ¬ P.Is) (v w : Lev) : pCov P v w = false := by
  unfold pCov
  rw [if_neg (fun k => h (Or.inl k)), if_neg (fun k => h (Or.inr k))]

/-- What the rule doesn't use plays no part. -/
def Alike (P : Pol) (v w : Lev) : Prop := if P.k = 1 then v.t = w.t else v.i = w.i ∧ v.c = w.c
theorem form_alike {P : Pol} {v w : Lev} (h : Alike P v w) : pForm P v = pForm P w := by
  unfold Alike at h
  unfold pForm
  by_cases hF : P.F
  · rw [if_pos hF.1] at h
    rw [if_pos hF, if_pos hF, h]
  · by_cases hG : P.G
    · have := hG.1
      rw [if_neg (by omega)] at h
      rw [if_neg hF, if_pos hG, if_neg hF, if_pos hG, h.1, h.2]
    · rw [if_neg hF, if_neg hG, if_neg hF, if_neg hG]
theorem new_form {P : Pol} (v : Lev) (now n : Nat) : pNew P (pForm P v) now n = pNew P v now n := by
  unfold pNew pForm; split <;> (try rfl); split <;> rfl
theorem ok_form {P : Pol} (v : Lev) (now n : Nat) : pOk P (pForm P v) now n = pOk P v now n := by
  unfold pOk pForm; split <;> (try rfl); split <;> rfl
theorem rule_form {P : Pol} (v : Lev) (now n : Nat) : pRule P (pForm P v) now n = pRule P v now n := by
  unfold pRule pForm; split <;> (try rfl); split <;> rfl
theorem retry_form {P : Pol} (v : Lev) (now n : Nat) : pRetry P (pForm P v) now n = pRetry P v now n := by
  unfold pRetry; rw [ok_form, rule_form]
theorem left_form {P : Pol} (v : Lev) (now : Nat) : pLeft P (pForm P v) now = pLeft P v now := by
  unfold pLeft pForm; split <;> (try rfl); split <;> rfl
theorem cov_formN {P : Pol} (v w : Lev) : pCov P (pForm P v) w = pCov P v w := by
  by_cases h : P.Is
  · exact cov_form h v w
  · rw [cov_not h, cov_not h]
theorem cov_formN' {P : Pol} (v w : Lev) : pCov P v (pForm P w) = pCov P v w := by
  by_cases h : P.Is
  · exact cov_form' h v w
  · rw [cov_not h, cov_not h]
theorem form_form {P : Pol} (v : Lev) : pForm P (pForm P v) = pForm P v := by
  unfold pForm; split <;> (try rfl); split <;> rfl
theorem max_form {P : Pol} (v w : Lev) : pMax P (pForm P v) w = pMax P v w := by
  unfold pMax; rw [cov_formN, form_form]
theorem max_form' {P : Pol} (v w : Lev) : pMax P v (pForm P w) = pMax P v w := by
  unfold pMax; rw [cov_formN', form_form]
theorem max_comm {P : Pol} (h : P.Is) (v w : Lev) : pMax P v w = pMax P w v := by
  unfold pMax
  by_cases h1 : pCov P v w = true
  · by_cases h2 : pCov P w v = true
    · rw [if_pos h1, if_pos h2]; exact (form_eq h v w).2 ⟨h1, h2⟩
    · rw [if_pos h1, if_neg h2]
  · rw [if_neg h1, if_pos ((cov_total h v w).resolve_left h1)]
theorem new_in_form {P : Pol} (v : Lev) (now n : Nat) : pForm P (pNew P v now n) = pNew P v now n := by
  unfold pForm pNew
  by_cases hF : P.F
  · simp [hF]
  · by_cases hG : P.G
    · simp [hF, hG]
    · simp [hF, hG]
theorem max_in_form {P : Pol} (v w : Lev) : pForm P (pMax P v w) = pMax P v w := by
  unfold pMax; split <;> exact form_form _
theorem fits_in_form {P : Pol} (h : P.Is) {v : Lev} (e : pForm P v = v) : pFits P v = true := decide_eq_true ⟨h, e.symm⟩

/-- Admitted just if not more than is left. -/
theorem ok_left {P : Pol} (h : P.Is) (v : Lev) (now n : Nat) : pOk P v now n = decide (1 ≤ n ∧ n ≤ pLeft P v now) := by
  rw [Bool.eq_iff_iff, decide_eq_true_iff]
  rcases h with h | h
  · rw [show pOk P v now n = _ from if_pos h, show pLeft P v now = _ from if_pos h, decide_eq_true_iff]
    exact burst_is n
  · have hF : ¬ P.F := fun k => f_not_g k h
    rw [show pOk P v now n = decide (WFits P.l P.p v.i v.c now n) by unfold pOk; rw [if_neg hF, if_pos h], show pLeft P v now = wLeft P.l P.p v.i v.c now by unfold pLeft; rw [if_neg hF, if_pos h], decide_eq_true_iff]
    exact left_most
/-- An admission's new level lies above the old one. -/
theorem new_above {P : Pol} (h : P.Is) {v : Lev} {now n : Nat} (ho : pOk P v now n = true) : pCov P (pNew P v now n) v = true ∧ pCov P v (pNew P v now n) = false := by
  rw [← Bool.not_eq_true]
  rcases h with h | h
  · rw [show pOk P v now n = _ from if_pos h, decide_eq_true_iff] at ho
    rw [cov_f h, cov_f h, show pNew P v now n = _ from if_pos h]
    have hb := gBase_max v.t now
    have hm := Nat.mul_le_mul ho.1 ho.2.1
    simp only [gTat, if_pos ho]
    omega
  · have hF : ¬ P.F := fun k => f_not_g k h
    rw [show pOk P v now n = decide (WFits P.l P.p v.i v.c now n) by unfold pOk; rw [if_neg hF, if_pos h], decide_eq_true_iff] at ho
    rw [cov_g h, cov_g h, show pNew P v now n = ⟨0, wIx P.l P.p v.i v.c now n, wCt P.l P.p v.i v.c now n⟩ by unfold pNew; rw [if_neg hF, if_pos h]]
    obtain ⟨h1, h2, h3⟩ := wfits_iff.1 ho
    simp only [wIx, wCt, if_pos ho]
    generalize now / P.p = q at *
    split <;> omega
/-- What isn't admitted leaves the level in form. -/
theorem new_not {P : Pol} {v : Lev} {now n : Nat} (ho : pOk P v now n = false) : pNew P v now n = pForm P v := by
  unfold pOk at ho
  unfold pNew pForm
  by_cases hF : P.F
  · rw [if_pos hF, decide_eq_false_iff_not] at ho
    rw [if_pos hF, if_pos hF, gTat, if_neg ho]
  · by_cases hG : P.G
    · rw [if_neg hF, if_pos hG, decide_eq_false_iff_not] at ho
      rw [if_neg hF, if_pos hG, if_neg hF, if_pos hG, wIx, if_neg ho, wCt, if_neg ho]
    · rw [if_neg hF, if_neg hG, if_neg hF, if_neg hG]
/-- Retry is the first time. -/
theorem retry_first {P : Pol} (h : P.Is) {v : Lev} {now n : Nat} (hw : now ≤ 18446744073709551615) (hi : v.i ≤ 18446744073709551615) (ho : pOk P v now n = false) :
    now ≤ pRetry P v now n ∧ (pRetry P v now n ≠ 18446744073709551615 → pOk P v (pRetry P v now n) n = true) ∧ ∀ t, now ≤ t → t < pRetry P v now n → pOk P v t n = false := by
  have e : pRetry P v now n = pRule P v now n := if_neg (by rw [ho]; decide)
  rw [e]
  rcases h with h | h
  · have eo : ∀ t, pOk P v t n = decide (GFits P.g P.s v.t t n) := fun t => if_pos h
    rw [show pRule P v now n = _ from if_pos h]
    simp only [eo, decide_eq_true_iff, decide_eq_false_iff_not] at *
    by_cases hn : n = 0 ∨ P.g = 0 ∨ P.s < (n - 1) * P.g ∨ 18446744073709551615 < gBase v.t now + n * P.g
    · have er : gRetry P.g P.s v.t now n = 18446744073709551615 := if_pos hn
      rw [er]
      exact ⟨hw, fun k => absurd rfl k, fun t h1 h2 => retry_never hn t h1⟩
    · obtain ⟨h1, h2, h3, h4⟩ := retry_least hn
      exact ⟨h1, fun _ => h3, h4⟩
  · have hF : ¬ P.F := fun k => f_not_g k h
    have eo : ∀ t, pOk P v t n = decide (WFits P.l P.p v.i v.c t n) := fun t => by unfold pOk; rw [if_neg hF, if_pos h]
    rw [show pRule P v now n = wRetry P.l P.p v.i v.c now n by unfold pRule; rw [if_neg hF, if_pos h]]
    simp only [eo, decide_eq_true_iff, decide_eq_false_iff_not] at *
    have k := wretry_least P.l P.p v.i v.c now n hw hi
    exact ⟨k.ge, k.fit, k.before⟩
end Go.Proofs.Ythpcjhihifhmgaa
