/- The reference's put calls of layer 1: what they answer. -/
import Derived.Test.YtcllenlpoknakaaDoorNumber
set_option linter.unusedVariables false
namespace Go.Proofs.YtcllenlpoknakaaDoor
open Go Go.RowKit

/-- A row of n bytes at the head of block g, the first k of them those of bs. -/
def Fill (w : World) (g n k : Nat) (bs : List UInt8) : Prop := ∃ cur, w.heap[g]? = some (.cells cur 5 (0, 0)) ∧ cur.size = n ∧ cur.toList.take k = Bv (bs.take k)

theorem Fill.cell {w : World} {g n k : Nat} {bs : List UInt8} (h : Fill w g n k bs) (hk : k < n) : (∃ v, w.cell? ⟨g, k, none⟩ = some v) ∧ w.frozen? ⟨g, k, none⟩ = false := by
  obtain ⟨cur, h1, h2, _⟩ := h
  refine ⟨⟨cur[k]'(by omega), ?_⟩, by simp [World.frozen?, h1]⟩
  rw [cell_of_row w g k cur _ _ h1]
  simp [h2, hk]

theorem Fill.next {w : World} {g n k : Nat} {bs : List UInt8} (h : Fill w g n k bs) (hk : k < n) (hn : n = bs.length) : Fill (w.setCell ⟨g, k, none⟩ (B (bs[k]'(by omega)))) g n (k + 1) bs := by
  obtain ⟨cur, h1, h2, h3⟩ := h
  refine ⟨cur.setIfInBounds k (B (bs[k]'(by omega))), ?_, by simp [h2], ?_⟩
  · rw [setCell_eq_setRow w g k cur 5 (0, 0) _ h1]
    exact setRow_heap w g cur _ _ _ h1
  · have hk2 : k < bs.length := by omega
    rw [Array.toList_setIfInBounds]
    apply List.ext_getElem?
    intro i
    by_cases hi : i < k
    · have := congrArg (·[i]?) h3
      simp only [List.getElem?_take, if_pos hi] at this
      simp only [List.getElem?_take, if_pos (show i < k + 1 by omega), List.getElem?_set_ne (show k ≠ i by omega), this]
      simp [hi, show i < k + 1 by omega]
    · by_cases he : i = k
      · subst he
        simp [h2, hk, hk2]
      · simp [List.getElem?_take, show ¬ i < k + 1 by omega]

theorem Fill.own {w : World} {g n : Nat} {bs : List UInt8} (h : Fill w g n n bs) (hn : n = bs.length) (hm : n ≤ maxLen) (base : Nat) (hb : base ≤ g) : Own w 5 base (.slice (some ⟨g, 0, none⟩) n n) bs := by
  obtain ⟨cur, h1, h2, h3⟩ := h
  subst hn
  refine ⟨by simp, .inr ⟨g, bs.length, cur, rfl, hb, h1, Nat.le_refl _, hm, by simp [h2], ?_⟩⟩
  rw [List.take_length] at h3
  simpa using h3




end Go.Proofs.YtcllenlpoknakaaDoor
