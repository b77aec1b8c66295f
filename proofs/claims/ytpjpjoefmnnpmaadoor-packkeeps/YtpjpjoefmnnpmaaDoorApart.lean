/- For the law apart: lists of own rows whose blocks are unlike; what a byte written in one of them leaves. -/
import Derived.Test.YtpjpjoefmnnpmaaDoorKeeps
set_option linter.unusedVariables false
namespace Go.Proofs.YtpjpjoefmnnpmaaDoor
open Go Go.RowKit

/-- The marks of list i, n of them. -/
def marks (i n : Nat) : List UInt8 := (List.range n).map (markB i)
theorem marks_length (i n : Nat) : (marks i n).length = n := by simp [marks]
theorem marks_succ (i n : Nat) : marks i (n + 1) = marks i n ++ [markB i n] := by simp [marks, List.range_succ]
theorem marks_take (i n k : Nat) (h : n ≤ k) : (marks i k).take n = marks i n := by
  unfold marks
  rw [← List.map_take, List.take_range, Nat.min_eq_left h]
theorem marks_get (i n t : Nat) (h : t < (marks i n).length) : (marks i n)[t] = markB i t := by simp [marks]
theorem marks_eq {i n : Nat} {bs : List UInt8} (hl : bs.length = n) (h : ∀ t, (ht : t < bs.length) → bs[t] = markB i t) : bs = marks i n := by
  apply List.ext_getElem
  · rw [hl, marks_length]
  · intro t h1 h2
    rw [h t h1, marks_get]

/-- An own row of slices. -/
def OwnB (w : World) (base : Nat) (v : Value) (n : Nat) (V : Nat → Value) : Prop := w.ownsRow base 25 1 v n ((List.range n).map V)
/-- n lists of bytes, each an own row. -/
def Lists (w : World) (base n : Nat) (V : Nat → Value) (L : Nat → List UInt8) : Prop := ∀ j, j < n → Own w 5 base (V j) (L j)
/-- No two of them in one block. -/
def Dis (n : Nat) (V : Nat → Value) : Prop := ∀ i j g, i < n → j < n → (V i).ownBlock = some g → (V j).ownBlock = some g → i = j

/-- A row whose block a change leaves alone stays. -/
theorem ownsRow_kept {w w' : World} {base n size : Nat} {e : TypeId} {v : Value} {xs : List Value} (h : w.ownsRow base e size v n xs) (hk : ∀ g, v.ownBlock = some g → w'.heap[g]? = w.heap[g]?) : w'.ownsRow base e size v n xs := by
  obtain ⟨hl, ⟨rfl, hn⟩ | ⟨g, cap, cur, rfl, hb, hg, hnc, hcm, hcs, ht⟩⟩ := h
  · exact ⟨hl, .inl ⟨rfl, hn⟩⟩
  · exact ⟨hl, .inr ⟨g, cap, cur, rfl, hb, by rw [hk g rfl]; exact hg, hnc, hcm, hcs, ht⟩⟩
theorem ownsRow_up {w w' : World} {base n size : Nat} {e : TypeId} {v : Value} {xs : List Value} (h : w.ownsRow base e size v n xs) (hu : Up w w') : w'.ownsRow base e size v n xs :=
  ownsRow_kept h fun g hg => hu.block g (World.ownsRow.lt h g hg).2
theorem ownsRow_but {w w' : World} {r base n size : Nat} {e : TypeId} {v : Value} {xs : List Value} (h : w.ownsRow base e size v n xs) (hu : But r w w') (hne : v.ownBlock ≠ some r) : w'.ownsRow base e size v n xs :=
  ownsRow_kept h fun g hg => hu.block g (World.ownsRow.lt h g hg).2 (by intro e; apply hne; rw [hg, e])

/-- A row of slices is no row of bytes. -/
theorem rows_apart {w : World} {base base' n m : Nat} {v u : Value} {xs ys : List Value} {g : Nat} (h : w.ownsRow base 25 1 v n xs) (k : w.ownsRow base' 5 1 u m ys) (hv : v.ownBlock = some g) : u.ownBlock ≠ some g := by
  intro hu
  obtain ⟨_, ⟨rfl, _⟩ | ⟨g1, cap, cur, rfl, hb, hg, _⟩⟩ := h
  · cases hv
  · obtain ⟨_, ⟨rfl, _⟩ | ⟨g2, cap2, cur2, rfl, hb2, hg2, _⟩⟩ := k
    · cases hu
    · cases hv
      cases hu
      rw [hg] at hg2
      simp at hg2

/-- The row's element i. -/
theorem OwnB.cell {w : World} {base n : Nat} {v : Value} {V : Nat → Value} (h : OwnB w base v n V) (i : Nat) (hi : i < n) : ∃ g cap, v = .slice (some ⟨g, 0, none⟩) n cap ∧ w.cell? ⟨g, i, none⟩ = some (V i) := by
  obtain ⟨hl, ⟨rfl, hn⟩ | ⟨g, cap, cur, rfl, hb, hg, hnc, hcm, hcs, ht⟩⟩ := h
  · omega
  · refine ⟨g, cap, rfl, ?_⟩
    rw [cell_of_row w g _ cur _ (0, 0) hg]
    have : ((List.range n).map V)[i]? = some (V i) := by simp [hi]
    rw [← ht, List.getElem?_take] at this
    split at this
    · simpa using this
    · cases this

/-- One byte of an own row is written. -/
theorem Own.set {w : World} {base g n cap : Nat} {bs : List UInt8} (h : Own w 5 base (.slice (some ⟨g, 0, none⟩) n cap) bs) (k : Nat) (hk : k < bs.length) (c : UInt8) :
    Own (w.setCell ⟨g, k, none⟩ (B c)) 5 base (.slice (some ⟨g, 0, none⟩) n cap) (bs.set k c) := by
  obtain ⟨hl, ⟨hv, hn⟩ | ⟨g', cap', cur, hv, hb, hg, hnc, hcm, hcs, ht⟩⟩ := h
  · cases hv
  · cases hv
    refine ⟨by simp, .inr ⟨g, cap, cur.setIfInBounds k (B c), by simp, hb, ?_, by simpa using hnc, hcm, by simpa using hcs, ?_⟩⟩
    · exact heap_setCell2 w g _ k cur _ hg
    · rw [Array.toList_setIfInBounds, List.length_set, List.take_set, ht]
      exact (List.map_set ..).symm
end Go.Proofs.YtpjpjoefmnnpmaaDoor
