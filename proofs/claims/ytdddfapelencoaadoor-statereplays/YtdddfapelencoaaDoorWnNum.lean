/- window: the rule of layer 5 in numbers alone, without the program: windows, what is admitted, what is left, the least time. -/
import Derived.WalkKit
set_option linter.unusedVariables false
namespace Go.Proofs.YtdddfapelencoaaDoor
open Go Go.RowKit

/-- A time lies in window i just if it lies between that one's start and the next one's. -/
theorem win_iff (span t i : Nat) (hs : 1 ≤ span) : t / span = i ↔ span * i ≤ t ∧ t < span * i + span := by
  have h1 := Nat.div_add_mod t span
  have h2 := Nat.mod_lt t hs
  constructor
  · rintro rfl; omega
  · rintro ⟨a, b⟩
    exact Nat.div_eq_of_lt_le (by rw [Nat.mul_comm]; exact a) (by rw [Nat.succ_mul, Nat.mul_comm]; exact b)
theorem win_lt (span t i : Nat) (hs : 1 ≤ span) : t / span < i ↔ t < span * i := by
  rw [Nat.div_lt_iff_lt_mul hs, Nat.mul_comm]
theorem win_mono (span a b : Nat) (h : a ≤ b) : a / span ≤ b / span := Nat.div_le_div_right h

/-- The start of a window, or the greatest number. -/
def wStart (span index : Nat) : Nat := if span * index ≤ 18446744073709551615 then span * index else 18446744073709551615
/-- What is left. -/
def wLeft (limit span index count now : Nat) : Nat :=
  if span = 0 then 0 else if index < now / span then limit else if now / span < index ∨ limit ≤ count then 0 else limit - count
/-- Are n units admitted at now? -/
def WFits (limit span index count now n : Nat) : Prop := 1 ≤ n ∧ n ≤ wLeft limit span index count now
instance (limit span index count now n : Nat) : Decidable (WFits limit span index count now n) := inferInstanceAs (Decidable (_ ∧ _))
theorem wfits_iff {limit span index count now n : Nat} : WFits limit span index count now n ↔ 1 ≤ n ∧ 1 ≤ span ∧ (index < now / span ∧ n ≤ limit ∨ now / span = index ∧ count + n ≤ limit) := by
  unfold WFits wLeft
  generalize now / span = w
  by_cases hs : span = 0
  · rw [if_pos hs]; omega
  · rw [if_neg hs]
    by_cases h1 : index < w
    · rw [if_pos h1]; omega
    · rw [if_neg h1]
      by_cases h2 : w < index ∨ limit ≤ count
      · rw [if_pos h2]; omega
      · rw [if_neg h2]; omega
/-- The index and the count behind them. -/
def wIx (limit span index count now n : Nat) : Nat := if WFits limit span index count now n then now / span else index
def wCt (limit span index count now n : Nat) : Nat := if WFits limit span index count now n then (if now / span = index then count + n else n) else count

/-- The least time from now on at which n units are admitted, or the greatest number. -/
def wRetry (limit span index count now n : Nat) : Nat :=
  if n = 0 ∨ limit < n ∨ span = 0 then 18446744073709551615
  else if WFits limit span index count now n then now
  else if now / span < index ∧ count + n ≤ limit then wStart span index
  else if index = 18446744073709551615 then 18446744073709551615
  else wStart span (index + 1)

/-- What the least time is, for whatever number: no earlier one is a time, and it is one, or it is the greatest number. -/
structure WLeast (limit span index count now n R : Nat) : Prop where
  ge : now ≤ R
  le : R ≤ 18446744073709551615
  before : ∀ t, now ≤ t → t < R → ¬ WFits limit span index count t n
  fit : R ≠ 18446744073709551615 → WFits limit span index count R n
theorem least_one {limit span index count now n R S : Nat} (h : WLeast limit span index count now n R) (k : WLeast limit span index count now n S) : R = S := by
  have a := h.le
  have b := k.le
  rcases Nat.lt_trichotomy R S with d | d | d
  · exact absurd (h.fit (by omega)) (k.before R h.ge d)
  · exact d
  · exact absurd (k.fit (by omega)) (h.before S k.ge d)

theorem wretry_least (limit span index count now n : Nat) (hw : now ≤ 18446744073709551615) (hi : index ≤ 18446744073709551615) : WLeast limit span index count now n (wRetry limit span index count now n) := by
  unfold wRetry
  by_cases h0 : n = 0 ∨ limit < n ∨ span = 0
  · rw [if_pos h0]
    refine ⟨hw, Nat.le_refl _, fun t _ _ hf => ?_, fun h => absurd rfl h⟩
    rw [wfits_iff] at hf
    omega
  · rw [if_neg h0]
    by_cases h1 : WFits limit span index count now n
    · rw [if_pos h1]
      exact ⟨Nat.le_refl _, hw, fun t a b => by omega, fun _ => h1⟩
    · rw [if_neg h1]
      have hs : 1 ≤ span := by omega
      have h1' := fun x => h1 (wfits_iff.2 x)
      have hle : now / span ≤ index := by
        rcases Nat.lt_or_ge index (now / span) with d | d
        · exact absurd ⟨by omega, hs, Or.inl ⟨d, by omega⟩⟩ h1'
        · exact d
      by_cases h2 : now / span < index ∧ count + n ≤ limit
      · rw [if_pos h2]
        have hlt := (win_lt span now index hs).1 h2.1
        have bef : ∀ t, now ≤ t → t < span * index → ¬ WFits limit span index count t n := fun t _ ht hf => by
          have a := (win_lt span t index hs).2 ht
          rw [wfits_iff] at hf
          omega
        unfold wStart
        split
        · rename_i hm
          refine ⟨by omega, hm, bef, fun _ => wfits_iff.2 ⟨by omega, hs, Or.inr ⟨(win_iff span _ index hs).2 ⟨Nat.le_refl _, by omega⟩, h2.2⟩⟩⟩
        · rename_i hm
          exact ⟨hw, Nat.le_refl _, fun t a b => bef t a (by omega), fun h => absurd rfl h⟩
      · rw [if_neg h2]
        have hnot : ∀ t, now ≤ t → t / span ≤ index → ¬ WFits limit span index count t n := fun t ht hti hf => by
          have hm := win_mono span now t ht
          rw [wfits_iff] at hf
          rcases hf with ⟨a, b, ⟨c, d⟩ | ⟨c, d⟩⟩
          · omega
          · rcases Nat.lt_or_ge (now / span) index with e | e
            · exact h2 ⟨e, d⟩
            · exact h1' ⟨a, b, Or.inr ⟨by omega, d⟩⟩
        by_cases h3 : index = 18446744073709551615
        · rw [if_pos h3]
          refine ⟨hw, Nat.le_refl _, fun t a b => hnot t a ?_, fun h => absurd rfl h⟩
          have := Nat.div_le_self t span
          omega
        · rw [if_neg h3]
          have bef : ∀ t, now ≤ t → t < span * (index + 1) → ¬ WFits limit span index count t n := fun t a b => hnot t a (by have := (win_lt span t (index + 1) hs).2 b; omega)
          have hlt : now < span * (index + 1) := (win_lt span now (index + 1) hs).1 (by omega)
          unfold wStart
          split
          · rename_i hm
            refine ⟨by omega, hm, bef, fun _ => wfits_iff.2 ⟨by omega, hs, Or.inl ⟨?_, by omega⟩⟩⟩
            have := (win_iff span (span * (index + 1)) (index + 1) hs).2 ⟨Nat.le_refl _, by omega⟩
            omega
          · rename_i hm
            exact ⟨hw, Nat.le_refl _, fun t a b => bef t a (by omega), fun h => absurd rfl h⟩

/-- So many units as are left are admitted, and no more. -/
theorem left_most {limit span index count now n : Nat} : WFits limit span index count now n ↔ 1 ≤ n ∧ n ≤ wLeft limit span index count now := Iff.rfl
/-- Two parts at one time are one. -/
theorem left_parts {limit span index count now most a : Nat} (h : wLeft limit span index count now = most) (h1 : 1 ≤ a) (h2 : a < most) :
    wLeft limit span (wIx limit span index count now a) (wCt limit span index count now a) now = most - a ∧
    wIx limit span (wIx limit span index count now a) (wCt limit span index count now a) now (most - a) = wIx limit span index count now most ∧
    wCt limit span (wIx limit span index count now a) (wCt limit span index count now a) now (most - a) = wCt limit span index count now most := by
  have f1 : WFits limit span index count now a := ⟨h1, by omega⟩
  have f2 : WFits limit span index count now most := ⟨by omega, by omega⟩
  have g1 := wfits_iff.1 f1
  have e1 : wIx limit span index count now a = now / span := if_pos f1
  have e2 : wCt limit span index count now a = if now / span = index then count + a else a := if_pos f1
  have e3 : wIx limit span index count now most = now / span := if_pos f2
  have e4 : wCt limit span index count now most = if now / span = index then count + most else most := if_pos f2
  have hL : ∀ c, wLeft limit span (now / span) c now = if limit ≤ c then 0 else limit - c := fun c => by
    unfold wLeft
    rw [if_neg (by omega), if_neg (by omega)]
    by_cases hc : limit ≤ c
    · rw [if_pos (Or.inr hc), if_pos hc]
    · rw [if_neg (by omega), if_neg hc]
  have hm : most = if now / span = index then limit - count else limit := by
    rw [← h]
    unfold wLeft
    rw [if_neg (by omega)]
    rcases g1.2.2 with ⟨p, q⟩ | ⟨p, q⟩
    · rw [if_pos p, if_neg (by omega)]
    · rw [if_neg (by omega), if_neg (by omega), if_pos p]
  rw [e1, e2, e3, e4]
  have eL : wLeft limit span (now / span) (if now / span = index then count + a else a) now = most - a := by
    rw [hL, hm]
    by_cases p : now / span = index
    · rw [if_pos p, if_pos p]; rw [if_pos p] at hm; split <;> omega
    · rw [if_neg p, if_neg p]; rw [if_neg p] at hm; split <;> omega
  have f3 : WFits limit span (now / span) (if now / span = index then count + a else a) now (most - a) := ⟨by omega, by omega⟩
  refine ⟨eL, if_pos f3, ?_⟩
  rw [wCt, if_pos f3, if_pos rfl]
  split <;> omega
end Go.Proofs.YtdddfapelencoaaDoor
