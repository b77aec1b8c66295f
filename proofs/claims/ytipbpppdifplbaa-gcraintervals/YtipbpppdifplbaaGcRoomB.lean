/- gcra: boxes of the law's room: the limit, the top and the sum; rows of numbers that are read. -/
import Derived.Test.YtipbpppdifplbaaGcFits
import Derived.Test.YtipbpppdifplbaaGcRoomN
set_option linter.unusedVariables false
namespace Go.Proofs.Ytipbpppdifplbaa
open Go Go.RowKit

/-- The first L cells of the slice v read as T 0, T 1 .. -/
def SlF (w : World) (v : Value) (T : Nat → Nat) (L : Nat) : Prop := ∃ ao cap, v = .slice ao L cap ∧ (L ≠ 0 → ∃ b o, ao = some ⟨b, o, none⟩ ∧ ∀ i, i < L → w.cell? ⟨b, o + i, none⟩ = some (V (T i)))

theorem addr_ne {k g o o' : Nat} (h : k ≠ g) : (⟨k, o, none⟩ : Addr) ≠ ⟨g, o', none⟩ := fun e => h (congrArg Addr.block e)

/-- A box of the call's own with a number of 128 bits. -/
structure Box1 (w0 w : World) (g a : Nat) : Prop where
  own : w0.heap.size ≤ g
  c0 : w.cell? ⟨g, 0, none⟩ = some (V (hiN a))
  c1 : w.cell? ⟨g, 1, none⟩ = some (V (loN a))
  fz : ∀ o, w.frozen? ⟨g, o, none⟩ = false
theorem Box1.lt {w0 w : World} {g a : Nat} (h : Box1 w0 w g a) : g < w.heap.size := World.block_lt_of_cell? w _ h.c0
theorem Box1.grow {w0 w w' : World} {g a : Nat} (h : Box1 w0 w g a) (hu : Up w w') : Box1 w0 w' g a := by
  have hl := h.lt
  have hc := bcell hu
  exact ⟨h.own, by rw [hc.1 _ _ hl]; exact h.c0, by rw [hc.1 _ _ hl]; exact h.c1, fun o => by rw [hc.2 _ _ hl]; exact h.fz o⟩
theorem Box1.new {w0 w : World} (h : w0.heap.size ≤ w.heap.size) (a : Nat) (t : TypeId) : Box1 w0 (w.alloc (.cells #[V (hiN a), V (loN a)] t)) w.heap.size a :=
  ⟨h, by rw [cell_of_row _ _ _ _ _ _ (heap_alloc_new _ _)]; rfl, by rw [cell_of_row _ _ _ _ _ _ (heap_alloc_new _ _)]; rfl, fun o => World.frozen?_alloc_new (w := w) _ _ _⟩
theorem Box1.set {w0 w : World} {g a : Nat} (h : Box1 w0 w g a) (b : Nat) : Box1 w0 ((w.setCell ⟨g, 0, none⟩ (V (hiN b))).setCell ⟨g, 1, none⟩ (V (loN b))) g b := by
  refine ⟨h.own, ?_, ?_, fun o => ?_⟩
  · rw [World.cell?_setCell_other _ _ _ _ (by simp)]; exact World.cell?_setCell_same _ _ _ h.c0
  · exact World.cell?_setCell_same _ _ _ (by rw [World.cell?_setCell_other _ _ _ _ (by simp)]; exact h.c1)
  · simp only [World.frozen?_setCell]; exact h.fz o
theorem Box1.put {w0 w : World} {g : Nat} {u0 u1 : Value} (h : w0.heap.size ≤ g) (c0 : w.cell? ⟨g, 0, none⟩ = some u0) (c1 : w.cell? ⟨g, 1, none⟩ = some u1) (fz : ∀ o, w.frozen? ⟨g, o, none⟩ = false) (b : Nat) : Box1 w0 ((w.setCell ⟨g, 0, none⟩ (V (hiN b))).setCell ⟨g, 1, none⟩ (V (loN b))) g b := by
  refine ⟨h, ?_, ?_, fun o => ?_⟩
  · rw [World.cell?_setCell_other _ _ _ _ (by simp)]; exact World.cell?_setCell_same _ _ _ c0
  · exact World.cell?_setCell_same _ _ _ (by rw [World.cell?_setCell_other _ _ _ _ (by simp)]; exact c1)
  · simp only [World.frozen?_setCell]; exact fz o
theorem Box1.other {w0 w : World} {g a k : Nat} (h : Box1 w0 w g a) (hk : k ≠ g) (u v : Value) : Box1 w0 ((w.setCell ⟨k, 0, none⟩ u).setCell ⟨k, 1, none⟩ v) g a := by
  refine ⟨h.own, ?_, ?_, fun o => ?_⟩
  · rw [World.cell?_setCell_other _ _ _ _ (addr_ne hk), World.cell?_setCell_other _ _ _ _ (addr_ne hk)]; exact h.c0
  · rw [World.cell?_setCell_other _ _ _ _ (addr_ne hk), World.cell?_setCell_other _ _ _ _ (addr_ne hk)]; exact h.c1
  · simp only [World.frozen?_setCell]; exact h.fz o

/-- The three boxes. -/
structure Rm (w0 w : World) (g1 g2 g3 a b c : Nat) : Prop where
  o12 : g1 < g2
  o23 : g2 < g3
  b1 : Box1 w0 w g1 a
  b2 : Box1 w0 w g2 b
  b3 : Box1 w0 w g3 c
  upw : Up w0 w
theorem Rm.grow {w0 w w' : World} {g1 g2 g3 a b c : Nat} (h : Rm w0 w g1 g2 g3 a b c) (hu : Up w w') : Rm w0 w' g1 g2 g3 a b c :=
  ⟨h.o12, h.o23, h.b1.grow hu, h.b2.grow hu, h.b3.grow hu, h.upw.trans hu⟩
theorem Rm.set3 {w0 w : World} {g1 g2 g3 a b c : Nat} (h : Rm w0 w g1 g2 g3 a b c) (d : Nat) : Rm w0 ((w.setCell ⟨g3, 0, none⟩ (V (hiN d))).setCell ⟨g3, 1, none⟩ (V (loN d))) g1 g2 g3 a b d := by
  have h12 := h.o12
  have h23 := h.o23
  exact ⟨h12, h23, h.b1.other (by omega) _ _, h.b2.other (by omega) _ _, h.b3.set d, (h.upw.setCell h.b3.own _).setCell h.b3.own _⟩
theorem Rm.set2 {w0 w : World} {g1 g2 g3 a b c : Nat} (h : Rm w0 w g1 g2 g3 a b c) (d : Nat) : Rm w0 ((w.setCell ⟨g2, 0, none⟩ (V (hiN d))).setCell ⟨g2, 1, none⟩ (V (loN d))) g1 g2 g3 a d c := by
  have h12 := h.o12
  have h23 := h.o23
  exact ⟨h12, h23, h.b1.other (by omega) _ _, h.b2.set d, h.b3.other (by omega) _ _, (h.upw.setCell h.b2.own _).setCell h.b2.own _⟩

theorem cell_up {w w' : World} {b o : Nat} {v : Value} (h : w.cell? ⟨b, o, none⟩ = some v) (hu : Up w w') : w'.cell? ⟨b, o, none⟩ = some v := by
  rw [(bcell hu).1 _ _ (World.block_lt_of_cell? w _ h)]; exact h
end Go.Proofs.Ytipbpppdifplbaa
