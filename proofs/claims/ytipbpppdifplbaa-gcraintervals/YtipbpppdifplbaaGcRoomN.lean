/- gcra: what the law's room reckons, in numbers alone: from the newest arrival back to the oldest. -/
import Derived.Test.YtipbpppdifplbaaGcNum
set_option linter.unusedVariables false
namespace Go.Proofs.Ytipbpppdifplbaa
open Go Go.RowKit

/-- The tat behind the first m arrivals: times T, units U. -/
def gRunI (gap : Nat) (T U : Nat → Nat) : Nat → Nat
  | 0 => 0
  | m + 1 => gBase (gRunI gap T U m) (T m) + U m * gap
/-- The greatest, over all beginnings among the first m, of the beginning and gap times the units since, and s. -/
def gTopI (gap : Nat) (T U : Nat → Nat) : Nat → Nat → Nat
  | _, 0 => 0
  | s, m + 1 => if T m + (s + U m * gap) < gTopI gap T U (s + U m * gap) m then gTopI gap T U (s + U m * gap) m else T m + (s + U m * gap)
theorem top_runI (gap : Nat) (T U : Nat → Nat) : ∀ (m s : Nat), m ≠ 0 → gTopI gap T U s m = gRunI gap T U m + s
  | 0, s, h => absurd rfl h
  | m + 1, s, _ => by
    have b := gBase_max (gRunI gap T U m) (T m)
    have e : gRunI gap T U (m + 1) = gBase (gRunI gap T U m) (T m) + U m * gap := rfl
    have e3 : gTopI gap T U s (m + 1) = if T m + (s + U m * gap) < gTopI gap T U (s + U m * gap) m then gTopI gap T U (s + U m * gap) m else T m + (s + U m * gap) := rfl
    rw [e, e3]
    by_cases hm : m = 0
    · subst hm
      have e2 : gRunI gap T U 0 = 0 := rfl
      have e4 : gTopI gap T U (s + U 0 * gap) 0 = 0 := rfl
      rw [e2] at b ⊢
      rw [e4, if_neg (by omega)]
      omega
    · rw [top_runI gap T U m _ hm]
      split <;> omega
/-- Does it fit: from f on, over the first m. -/
def gFI (gap lim p : Nat) (T U : Nat → Nat) : Bool → Nat → Nat → Bool
  | f, _, 0 => f
  | f, s, m + 1 => gFI gap lim p T U (if lim < T m + (s + U m * gap) + p then false else f) (s + U m * gap) m
theorem fI_is (gap lim p : Nat) (T U : Nat → Nat) : ∀ (m : Nat) (f : Bool) (s : Nat), gFI gap lim p T U f s m = true ↔ f = true ∧ (m = 0 ∨ gTopI gap T U s m + p ≤ lim)
  | 0, f, s => by simp [gFI]
  | m + 1, f, s => by
    have e3 : gTopI gap T U s (m + 1) = if T m + (s + U m * gap) < gTopI gap T U (s + U m * gap) m then gTopI gap T U (s + U m * gap) m else T m + (s + U m * gap) := rfl
    have e4 : gTopI gap T U (s + U m * gap) 0 = 0 := rfl
    have ih := fI_is gap lim p T U m (if lim < T m + (s + U m * gap) + p then false else f) (s + U m * gap)
    show gFI gap lim p T U (if lim < T m + (s + U m * gap) + p then false else f) (s + U m * gap) m = true ↔ _
    rw [ih, e3]
    by_cases hl : lim < T m + (s + U m * gap) + p
    · rw [if_pos hl]
      constructor
      · rintro ⟨h, _⟩; cases h
      · rintro ⟨_, h | h⟩
        · omega
        · split at h <;> omega
    · rw [if_neg hl]
      constructor
      · rintro ⟨h1, h2⟩
        refine ⟨h1, Or.inr ?_⟩
        rcases h2 with h2 | h2
        · subst h2; rw [e4, if_neg (by omega)]; omega
        · split <;> omega
      · rintro ⟨h1, h2 | h2⟩
        · omega
        · refine ⟨h1, ?_⟩
          by_cases hm : m = 0
          · exact Or.inl hm
          · right; split at h2 <;> omega
/-- Where the next one would come: from x on, over the first m. -/
def gXI (gap q : Nat) (T U : Nat → Nat) : Nat → Nat → Nat → Nat
  | x, _, 0 => x
  | x, s, m + 1 => gXI gap q T U (if x < T m + (s + U m * gap) + q then T m + (s + U m * gap) + q else x) (s + U m * gap) m
theorem xI_is (gap q : Nat) (T U : Nat → Nat) : ∀ (m x s : Nat), gXI gap q T U x s m = if m = 0 ∨ gTopI gap T U s m + q ≤ x then x else gTopI gap T U s m + q
  | 0, x, s => by simp [gXI]
  | m + 1, x, s => by
    have e3 : gTopI gap T U s (m + 1) = if T m + (s + U m * gap) < gTopI gap T U (s + U m * gap) m then gTopI gap T U (s + U m * gap) m else T m + (s + U m * gap) := rfl
    have e4 : gTopI gap T U (s + U m * gap) 0 = 0 := rfl
    have ih := xI_is gap q T U m (if x < T m + (s + U m * gap) + q then T m + (s + U m * gap) + q else x) (s + U m * gap)
    show gXI gap q T U (if x < T m + (s + U m * gap) + q then T m + (s + U m * gap) + q else x) (s + U m * gap) m = _
    rw [ih, e3]
    by_cases hm : m = 0
    · subst hm
      rw [e4, if_pos (Or.inl rfl)]
      split <;> split <;> split <;> omega
    · have hm1 : ¬ m + 1 = 0 := by omega
      simp only [hm, hm1, false_or]
      split <;> split <;> split <;> (try split) <;> omega

/-- All in all: whether n units fit behind the arrivals, and the new tat. -/
theorem room_is (gap slack now n : Nat) (T U : Nat → Nat) (L : Nat) (h : 1 ≤ n ∧ 1 ≤ gap) :
    gXI gap (n * gap) T U (now + n * gap) 0 L = gBase (gRunI gap T U L) now + n * gap ∧
    ((gFI gap (now + slack) ((n - 1) * gap) T U (decide (now + (n - 1) * gap ≤ now + slack)) 0 L && decide (gXI gap (n * gap) T U (now + n * gap) 0 L < 18446744073709551616)) = decide (GFits gap slack (gRunI gap T U L) now n)) := by
  have hx := xI_is gap (n * gap) T U L (now + n * gap) 0
  have hf := fI_is gap (now + slack) ((n - 1) * gap) T U L (decide (now + (n - 1) * gap ≤ now + slack)) 0
  have b := gBase_max (gRunI gap T U L) now
  have ht : L ≠ 0 → gTopI gap T U 0 L = gRunI gap T U L := fun h => by rw [top_runI gap T U L 0 h]; rfl
  have h0 : L = 0 → gRunI gap T U L = 0 := fun h => by rw [h]; rfl
  have e1 : gXI gap (n * gap) T U (now + n * gap) 0 L = gBase (gRunI gap T U L) now + n * gap := by
    rw [hx]
    by_cases hL : L = 0
    · rw [if_pos (Or.inl hL)]; have := h0 hL; omega
    · rw [ht hL]; simp only [hL, false_or]; split <;> omega
  refine ⟨e1, ?_⟩
  rw [e1, Bool.eq_iff_iff, Bool.and_eq_true, hf, decide_eq_true_iff, decide_eq_true_iff, decide_eq_true_iff]
  unfold GFits
  by_cases hL : L = 0
  · have := h0 hL
    constructor
    · rintro ⟨⟨a1, _⟩, a2⟩; exact ⟨h.1, h.2, by omega, by omega⟩
    · rintro ⟨_, _, a1, a2⟩; exact ⟨⟨by omega, Or.inl hL⟩, by omega⟩
  · rw [ht hL]
    constructor
    · rintro ⟨⟨a1, a3 | a3⟩, a2⟩
      · exact absurd a3 hL
      · exact ⟨h.1, h.2, by omega, by omega⟩
    · rintro ⟨_, _, a1, a2⟩; exact ⟨⟨by omega, Or.inr (by omega)⟩, by omega⟩

/-- What is behind bounds what is ahead. -/
theorem run_step (gap : Nat) (T U : Nat → Nat) (m s : Nat) (h : gRunI gap T U (m + 1) + s ≤ 18446744073709551615) : gRunI gap T U m + (s + U m * gap) ≤ 18446744073709551615 ∧ T m + (s + U m * gap) ≤ 18446744073709551615 := by
  have b := gBase_max (gRunI gap T U m) (T m)
  have e : gRunI gap T U (m + 1) = gBase (gRunI gap T U m) (T m) + U m * gap := rfl
  omega
theorem run_same (gap : Nat) (T U T' U' : Nat → Nat) : ∀ (m : Nat), (∀ i, i < m → T i = T' i ∧ U i = U' i) → gRunI gap T U m = gRunI gap T' U' m
  | 0, _ => rfl
  | m + 1, h => by
    have ih := run_same gap T U T' U' m (fun i hi => h i (by omega))
    obtain ⟨h1, h2⟩ := h m (by omega)
    show gBase (gRunI gap T U m) (T m) + U m * gap = gBase (gRunI gap T' U' m) (T' m) + U' m * gap
    rw [ih, h1, h2]
end Go.Proofs.Ytipbpppdifplbaa
