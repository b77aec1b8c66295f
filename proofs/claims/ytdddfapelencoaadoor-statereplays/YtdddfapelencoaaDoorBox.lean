/- A block of cells (a box) that a call made: what it holds, and that it holds still. Own work; imports nothing of the program. -/
import Derived.Test.YtdddfapelencoaaDoorLib
set_option linter.unusedVariables false
namespace Go.Proofs.YtdddfapelencoaaDoor
open Go Go.RowKit

/-- The block k holds just these cells. -/
def Box (w : World) (k : Nat) (cs : Array Value) : Prop := ∃ t, w.heap[k]? = some (.cells cs t (0, 0))

theorem Box.lt {w : World} {k : Nat} {cs : Array Value} (h : Box w k cs) : k < w.heap.size := by
  obtain ⟨t, h⟩ := h
  exact (Array.getElem?_eq_some_iff.1 h).1
theorem Box.cell {w : World} {k : Nat} {cs : Array Value} (h : Box w k cs) (i : Nat) : w.cell? ⟨k, i, none⟩ = cs[i]? := by
  obtain ⟨t, h⟩ := h
  exact cell_of_row _ _ _ _ _ _ h
theorem Box.frozen {w : World} {k : Nat} {cs : Array Value} (h : Box w k cs) (i : Nat) : w.frozen? ⟨k, i, none⟩ = false := by
  obtain ⟨t, h⟩ := h
  simp [World.frozen?, h]
theorem Box.up {w w' : World} {k : Nat} {cs : Array Value} (h : Box w k cs) (u : Up w w') : Box w' k cs := by
  have hl := h.lt
  obtain ⟨t, h⟩ := h
  exact ⟨t, by rw [u.block k hl]; exact h⟩
theorem Box.new (w : World) (cs : Array Value) (t : TypeId) : Box (w.alloc (.cells cs t)) w.heap.size cs := ⟨t, heap_alloc_new _ _⟩
theorem Box.newAt {w : World} {cs : Array Value} {t : TypeId} {k : Nat} (e : w.heap.size = k) : Box (w.alloc (.cells cs t)) k cs := by subst e; exact Box.new _ _ _
theorem Box.alloc {w : World} {k : Nat} {cs : Array Value} (h : Box w k cs) (o : Obj) : Box (w.alloc o) k cs := h.up (Up.alloc _ _)
theorem Box.drew {w : World} {k : Nat} {cs : Array Value} (h : Box w k cs) : Box w.drew k cs := h
theorem Box.set {w : World} {k : Nat} {cs : Array Value} (h : Box w k cs) (i : Nat) (v : Value) : Box (w.setCell ⟨k, i, none⟩ v) k (cs.setIfInBounds i v) := by
  obtain ⟨t, h⟩ := h
  exact ⟨t, heap_setCell_same _ _ _ _ _ _ h⟩
theorem Box.other {w : World} {k g : Nat} {cs : Array Value} (h : Box w k cs) (hne : k ≠ g) (i : Nat) (v : Value) : Box (w.setCell ⟨g, i, none⟩ v) k cs := by
  obtain ⟨t, h⟩ := h
  refine ⟨t, ?_⟩
  rw [heap_setCell_other _ ⟨g, i, none⟩ _ _ hne]
  exact h
theorem Box.setRow {w : World} {k : Nat} {cs : Array Value} (h : Box w k cs) (ds : Array Value) : Box (w.setRow k ds) k ds := by
  obtain ⟨t, h⟩ := h
  exact ⟨t, setRow_heap _ _ _ _ _ _ h⟩
theorem Box.otherRow {w : World} {k g : Nat} {cs : Array Value} (h : Box w k cs) (hne : k ≠ g) (ds : Array Value) : Box (w.setRow g ds) k cs := by
  obtain ⟨t, h⟩ := h
  exact ⟨t, by rw [setRow_other _ _ _ _ hne]; exact h⟩
theorem Up.setRow {w w' : World} {k : Nat} (h : Up w w') (hk : w.heap.size ≤ k) (ds : Array Value) : Up w (w'.setRow k ds) :=
  Below.trans h (⟨rfl, rfl, rfl, by simp, fun g hg => setRow_other _ _ _ _ (by omega)⟩ : Below w.heap.size w' (w'.setRow k ds))
theorem up_drewN (w : World) (n : Nat) : Up w (w.drewN n) := ⟨rfl, rfl, rfl, Nat.le_refl _, fun _ _ => rfl⟩
/-- A box that was made ahead of a draw. -/
theorem box_al {w w' : World} {cs : Array Value} {t : TypeId} (u : Up (w.alloc (.cells cs t)).drew w') : Box w' w.heap.size cs := Box.up (Box.new w cs t).drew u
theorem up_al {w w' : World} {o : Obj} (h : Up w w') : Up w (w'.alloc o).drew := (h.trans (Up.alloc _ _)).trans (Up.drew _)

/-- Boxes of two, three, six cells for the walk. -/
theorem Box.c2 {w : World} {k : Nat} {a b : Value} (h : Box w k #[a, b]) : w.cell? ⟨k, 0, none⟩ = some a ∧ w.cell? ⟨k, 1, none⟩ = some b := ⟨h.cell 0, h.cell 1⟩
theorem Box.c3 {w : World} {k : Nat} {a b c : Value} (h : Box w k #[a, b, c]) : w.cell? ⟨k, 0, none⟩ = some a ∧ w.cell? ⟨k, 1, none⟩ = some b ∧ w.cell? ⟨k, 2, none⟩ = some c := ⟨h.cell 0, h.cell 1, h.cell 2⟩
theorem Box.c5 {w : World} {k : Nat} {a b c d e : Value} (h : Box w k #[a, b, c, d, e]) : w.cell? ⟨k, 0, none⟩ = some a ∧ w.cell? ⟨k, 1, none⟩ = some b ∧ w.cell? ⟨k, 2, none⟩ = some c ∧ w.cell? ⟨k, 3, none⟩ = some d ∧ w.cell? ⟨k, 4, none⟩ = some e :=
  ⟨h.cell 0, h.cell 1, h.cell 2, h.cell 3, h.cell 4⟩
theorem Box.c6 {w : World} {k : Nat} {a b c d e f : Value} (h : Box w k #[a, b, c, d, e, f]) : w.cell? ⟨k, 0, none⟩ = some a ∧ w.cell? ⟨k, 1, none⟩ = some b ∧ w.cell? ⟨k, 2, none⟩ = some c ∧ w.cell? ⟨k, 3, none⟩ = some d ∧ w.cell? ⟨k, 4, none⟩ = some e ∧ w.cell? ⟨k, 5, none⟩ = some f :=
  ⟨h.cell 0, h.cell 1, h.cell 2, h.cell 3, h.cell 4, h.cell 5⟩
theorem Box.c13 {w : World} {k : Nat} {a0 a1 a2 a3 a4 a5 a6 a7 a8 a9 a10 a11 a12 : Value} (h : Box w k #[a0, a1, a2, a3, a4, a5, a6, a7, a8, a9, a10, a11, a12]) : w.cell? ⟨k, 0, none⟩ = some a0 ∧ w.cell? ⟨k, 1, none⟩ = some a1 ∧ w.cell? ⟨k, 2, none⟩ = some a2 ∧ w.cell? ⟨k, 3, none⟩ = some a3 ∧ w.cell? ⟨k, 4, none⟩ = some a4 ∧ w.cell? ⟨k, 5, none⟩ = some a5 ∧ w.cell? ⟨k, 6, none⟩ = some a6 ∧ w.cell? ⟨k, 7, none⟩ = some a7 ∧ w.cell? ⟨k, 8, none⟩ = some a8 ∧ w.cell? ⟨k, 9, none⟩ = some a9 ∧ w.cell? ⟨k, 10, none⟩ = some a10 ∧ w.cell? ⟨k, 11, none⟩ = some a11 ∧ w.cell? ⟨k, 12, none⟩ = some a12 :=
  ⟨h.cell 0, h.cell 1, h.cell 2, h.cell 3, h.cell 4, h.cell 5, h.cell 6, h.cell 7, h.cell 8, h.cell 9, h.cell 10, h.cell 11, h.cell 12⟩
theorem Box.c13e {w : World} {k : Nat} {a0 a1 a2 a3 a4 a5 a6 a7 a8 a9 a10 a11 a12 : Value} (h : Box w k #[a0, a1, a2, a3, a4, a5, a6, a7, a8, a9, a10, a11, a12]) : w.cell? ⟨k, 11, none⟩ = some a11 ∧ w.cell? ⟨k, 12, none⟩ = some a12 := ⟨h.cell 11, h.cell 12⟩
/-- Three cells written. -/
theorem Box.set3 {w : World} {k : Nat} {a b c x y z : Value} (h : Box w k #[a, b, c]) : Box (((w.setCell ⟨k, 0, none⟩ x).setCell ⟨k, 1, none⟩ y).setCell ⟨k, 2, none⟩ z) k #[x, y, z] := ((h.set 0 x).set 1 y).set 2 z
theorem Box.set6 {w : World} {k : Nat} {a b c d e f x y z x' y' z' : Value} (h : Box w k #[a, b, c, d, e, f]) :
    Box ((((((w.setCell ⟨k, 0, none⟩ x).setCell ⟨k, 1, none⟩ y).setCell ⟨k, 2, none⟩ z).setCell ⟨k, 3, none⟩ x').setCell ⟨k, 4, none⟩ y').setCell ⟨k, 5, none⟩ z') k #[x, y, z, x', y', z'] := (((((h.set 0 x).set 1 y).set 2 z).set 3 x').set 4 y').set 5 z'
/-- Blocks that are new since w. -/
theorem Up.set3 {w w' : World} {k : Nat} (h : Up w w') (hk : w.heap.size ≤ k) (x y z : Value) : Up w (((w'.setCell ⟨k, 0, none⟩ x).setCell ⟨k, 1, none⟩ y).setCell ⟨k, 2, none⟩ z) := ((h.setCell hk x).setCell hk y).setCell hk z
theorem Up.set6 {w w' : World} {k : Nat} (h : Up w w') (hk : w.heap.size ≤ k) (x y z x' y' z' : Value) :
    Up w ((((((w'.setCell ⟨k, 0, none⟩ x).setCell ⟨k, 1, none⟩ y).setCell ⟨k, 2, none⟩ z).setCell ⟨k, 3, none⟩ x').setCell ⟨k, 4, none⟩ y').setCell ⟨k, 5, none⟩ z') := (((((h.setCell hk x).setCell hk y).setCell hk z).setCell hk x').setCell hk y').setCell hk z'
end Go.Proofs.YtdddfapelencoaaDoor
