/- gcra: the rule of layer 4 in numbers alone, without the program: what is admitted, the least time, the greatest number, and the laws on them. -/
import Derived.WalkKit
set_option linter.unusedVariables false
namespace Go.Proofs.YtdddfapelencoaaDoor
open Go Go.RowKit

/-- Where units start: the greater of tat and now. -/
def gBase (tat now : Nat) : Nat := if now < tat then tat else now
theorem gBase_max (tat now : Nat) : tat ≤ gBase tat now ∧ now ≤ gBase tat now ∧ (gBase tat now = tat ∨ gBase tat now = now) := by
  unfold gBase; split <;> omega
/-- Are n units admitted at now? -/
def GFits (gap slack tat now n : Nat) : Prop := 1 ≤ n ∧ 1 ≤ gap ∧ gBase tat now + (n - 1) * gap ≤ now + slack ∧ gBase tat now + n * gap ≤ 18446744073709551615
instance (gap slack tat now n : Nat) : Decidable (GFits gap slack tat now n) := inferInstanceAs (Decidable (_ ∧ _ ∧ _ ∧ _))
/-- The tat behind them. -/
def gTat (gap slack tat now n : Nat) : Nat := if GFits gap slack tat now n then gBase tat now + n * gap else tat

theorem pred_mul (n gap : Nat) (hn : 1 ≤ n) : n * gap = (n - 1) * gap + gap := by
  obtain ⟨m, rfl⟩ : ∃ m, n = m + 1 := ⟨n - 1, by omega⟩
  rw [Nat.add_mul, Nat.one_mul]; rfl

/-- Fewer units are admitted too. -/
theorem fits_fewer {gap slack tat now n m : Nat} (h : GFits gap slack tat now n) (hm : 1 ≤ m) (hmn : m ≤ n) : GFits gap slack tat now m := by
  obtain ⟨h1, h2, h3, h4⟩ := h
  have a := Nat.mul_le_mul_right gap (show m - 1 ≤ n - 1 by omega)
  have b := Nat.mul_le_mul_right gap hmn
  exact ⟨hm, h2, by omega, by omega⟩

/-- The least time at which n units are admitted, or the greatest number. -/
def gRetry (gap slack tat now n : Nat) : Nat :=
  if n = 0 ∨ gap = 0 ∨ slack < (n - 1) * gap ∨ 18446744073709551615 < gBase tat now + n * gap then 18446744073709551615
  else if now + slack < tat + (n - 1) * gap then tat + (n - 1) * gap - slack else now

theorem retry_never {gap slack tat now n : Nat} (h : n = 0 ∨ gap = 0 ∨ slack < (n - 1) * gap ∨ 18446744073709551615 < gBase tat now + n * gap) : ∀ t, now ≤ t → ¬ GFits gap slack tat t n := by
  intro t ht hf
  obtain ⟨h1, h2, h3, h4⟩ := hf
  have b1 := gBase_max tat t
  have b2 := gBase_max tat now
  rcases h with h | h | h | h <;> omega
theorem retry_least {gap slack tat now n : Nat} (h : ¬ (n = 0 ∨ gap = 0 ∨ slack < (n - 1) * gap ∨ 18446744073709551615 < gBase tat now + n * gap)) :
    now ≤ gRetry gap slack tat now n ∧ gRetry gap slack tat now n < 18446744073709551615 ∧ GFits gap slack tat (gRetry gap slack tat now n) n ∧ ∀ t, now ≤ t → t < gRetry gap slack tat now n → ¬ GFits gap slack tat t n := by
  have e : gRetry gap slack tat now n = if now + slack < tat + (n - 1) * gap then tat + (n - 1) * gap - slack else now := if_neg h
  have hn : 1 ≤ n := by omega
  have hp := pred_mul n gap hn
  have b2 := gBase_max tat now
  rw [e]
  split
  · rename_i hlt
    have b1 := gBase_max tat (tat + (n - 1) * gap - slack)
    refine ⟨by omega, by omega, ⟨hn, by omega, by omega, by omega⟩, fun t h1 h2 hf => ?_⟩
    obtain ⟨_, _, h3, _⟩ := hf
    have b3 := gBase_max tat t
    omega
  · refine ⟨Nat.le_refl _, by omega, ⟨hn, by omega, by omega, by omega⟩, fun t h1 h2 => by omega⟩
/-- The other times: behind the least one the units are admitted as long as the new tat fits; never ones stay never. -/
theorem retry_is {gap slack tat now n : Nat} : (gRetry gap slack tat now n = 18446744073709551615 ↔ ∀ t, now ≤ t → ¬ GFits gap slack tat t n) := by
  by_cases h : n = 0 ∨ gap = 0 ∨ slack < (n - 1) * gap ∨ 18446744073709551615 < gBase tat now + n * gap
  · exact ⟨fun _ => retry_never h, fun _ => if_pos h⟩
  · obtain ⟨h1, h2, h3, _⟩ := retry_least h
    exact ⟨fun e => by omega, fun hall => absurd h3 (hall _ h1)⟩

/-- The greatest number of units that are admitted at now. -/
def gBurst (gap slack tat now : Nat) : Nat :=
  if GFits gap slack tat now 1 then (if (now + slack - gBase tat now) / gap + 1 < (18446744073709551615 - gBase tat now) / gap then (now + slack - gBase tat now) / gap + 1 else (18446744073709551615 - gBase tat now) / gap) else 0
theorem burst_is {gap slack tat now : Nat} (n : Nat) : GFits gap slack tat now n ↔ 1 ≤ n ∧ n ≤ gBurst gap slack tat now := by
  by_cases h1 : GFits gap slack tat now 1
  · obtain ⟨_, hg, h3, h4⟩ := h1
    have e : gBurst gap slack tat now = if (now + slack - gBase tat now) / gap + 1 < (18446744073709551615 - gBase tat now) / gap then (now + slack - gBase tat now) / gap + 1 else (18446744073709551615 - gBase tat now) / gap := if_pos ⟨by omega, hg, h3, h4⟩
    have d1 : n - 1 ≤ (now + slack - gBase tat now) / gap ↔ (n - 1) * gap ≤ now + slack - gBase tat now := Nat.le_div_iff_mul_le (by omega)
    have d2 : n ≤ (18446744073709551615 - gBase tat now) / gap ↔ n * gap ≤ 18446744073709551615 - gBase tat now := Nat.le_div_iff_mul_le (by omega)
    rw [e]
    simp only [Nat.sub_self, Nat.zero_mul, Nat.one_mul, Nat.add_zero] at h3 h4
    constructor
    · intro hf
      obtain ⟨f1, _, f3, f4⟩ := hf
      have x := d1.2 (by omega)
      have y := d2.2 (by omega)
      refine ⟨f1, ?_⟩
      split <;> omega
    · rintro ⟨f1, f2⟩
      have x : n - 1 ≤ (now + slack - gBase tat now) / gap ∧ n ≤ (18446744073709551615 - gBase tat now) / gap := by
        split at f2 <;> omega
      have x1 := d1.1 x.1
      have y1 := d2.1 x.2
      exact ⟨f1, hg, by omega, by omega⟩
  · have e : gBurst gap slack tat now = 0 := if_neg h1
    rw [e]
    constructor
    · intro hf; exact absurd (fits_fewer hf (Nat.le_refl _) hf.1) h1
    · rintro ⟨f1, f2⟩; omega
theorem burst_lt (gap slack tat now : Nat) : gBurst gap slack tat now ≤ 18446744073709551615 := by
  unfold gBurst
  have h := Nat.div_le_self (18446744073709551615 - gBase tat now) gap
  split
  · split <;> omega
  · omega

/-- n units and then m at one time are n + m. -/
theorem fits_splits {gap slack tat now n m : Nat} (hn : 1 ≤ n) (hm : 1 ≤ m) : GFits gap slack tat now (n + m) ↔ GFits gap slack tat now n ∧ GFits gap slack (gBase tat now + n * gap) now m := by
  have b1 := gBase_max tat now
  have b2 := gBase_max (gBase tat now + n * gap) now
  have e1 : (n + m) * gap = n * gap + m * gap := Nat.add_mul ..
  have e2 := pred_mul m gap hm
  have e3 := pred_mul n gap hn
  have e4 : (n + m - 1) * gap = n * gap + (m - 1) * gap := by rw [show n + m - 1 = n + (m - 1) by omega, Nat.add_mul]
  have hb : gBase (gBase tat now + n * gap) now = gBase tat now + n * gap := by
    unfold gBase at b1 ⊢; split <;> split <;> first | omega | (rename_i h1 h2; omega)
  unfold GFits
  rw [hb, e1, e4]
  constructor
  · rintro ⟨h1, h2, h3, h4⟩
    exact ⟨⟨hn, h2, by omega, by omega⟩, hm, h2, by omega, by omega⟩
  · rintro ⟨⟨h1, h2, h3, h4⟩, h5, _, h6, h7⟩
    exact ⟨by omega, h2, by omega, by omega⟩
theorem base_again (tat now x : Nat) : gBase (gBase tat now + x) now = gBase tat now + x := by
  have b1 := gBase_max tat now
  have b2 := gBase_max (gBase tat now + x) now
  omega

/-- Over a lesser tat the same units are admitted, and the tat behind them is no greater. -/
theorem fits_lesser {gap slack tat less now n : Nat} (h : GFits gap slack tat now n) (hl : less ≤ tat) : GFits gap slack less now n ∧ gBase less now ≤ gBase tat now := by
  have b1 := gBase_max tat now
  have b2 := gBase_max less now
  obtain ⟨h1, h2, h3, h4⟩ := h
  exact ⟨⟨h1, h2, by omega, by omega⟩, by omega⟩
/-- At a later time the units are admitted as long as the new tat fits. -/
theorem fits_later {gap slack tat now t n : Nat} (h : GFits gap slack tat now n) (ht : now ≤ t) : GFits gap slack tat t n ↔ gBase tat t + n * gap ≤ 18446744073709551615 := by
  have b1 := gBase_max tat now
  have b2 := gBase_max tat t
  obtain ⟨h1, h2, h3, h4⟩ := h
  have hp := pred_mul n gap h1
  exact ⟨fun hf => hf.2.2.2, fun hf => ⟨h1, h2, by omega, hf⟩⟩

/-- The tat behind units that were admitted, the newest first: (time, units). -/
def gRun (gap : Nat) : List (Nat × Nat) → Nat
  | [] => 0
  | (t, u) :: r => gBase (gRun gap r) t + u * gap
/-- The greatest, over all beginnings, of the beginning and gap times the units since, and s. -/
def gTop (gap : Nat) : Nat → List (Nat × Nat) → Nat
  | _, [] => 0
  | s, (t, u) :: r => if t + (s + u * gap) < gTop gap (s + u * gap) r then gTop gap (s + u * gap) r else t + (s + u * gap)
theorem top_run (gap : Nat) : ∀ (r : List (Nat × Nat)) (s : Nat), r ≠ [] → gTop gap s r = gRun gap r + s
  | [], _, h => absurd rfl h
  | (t, u) :: r, s, _ => by
    have b := gBase_max (gRun gap r) t
    cases r with
    | nil =>
      have e : gRun gap [(t, u)] = gBase 0 t + u * gap := rfl
      have e2 : gRun gap ([] : List (Nat × Nat)) = 0 := rfl
      have e3 : gTop gap s [(t, u)] = if t + (s + u * gap) < 0 then 0 else t + (s + u * gap) := rfl
      rw [e2] at b
      rw [e, e3, if_neg (by omega)]
      omega
    | cons p r =>
      have ih := top_run gap (p :: r) (s + u * gap) (by simp)
      have e : gRun gap ((t, u) :: p :: r) = gBase (gRun gap (p :: r)) t + u * gap := rfl
      have e3 : gTop gap s ((t, u) :: p :: r) = if t + (s + u * gap) < gTop gap (s + u * gap) (p :: r) then gTop gap (s + u * gap) (p :: r) else t + (s + u * gap) := rfl
      rw [e, e3, ih]
      split <;> omega
end Go.Proofs.YtdddfapelencoaaDoor
