/- A box with a number of 128 bits holds still. -/
import Derived.Test.YtdddfapelencoaaDoorGcCalls
import Derived.Deep.RegionHeld3
import Derived.BigQuiet
import Derived.Deep.QuietTactic
set_option linter.unusedVariables false
namespace Go.Proofs.YtdddfapelencoaaDoor
open Go Go.RowKit

/-- The box with the number alone. -/
abbrev S2 (w : World) (k N : Nat) (w' : World) : Prop := w'.cell? ⟨k, 0, none⟩ = some (V (hiN N)) ∧ w'.cell? ⟨k, 1, none⟩ = some (V (loN N)) ∧ Up w w'
theorem s2_grow {w : World} {k N : Nat} {w' w'' : World} (h : S2 w k N w') (hu : Up w' w'') : S2 w k N w'' := by
  obtain ⟨h0, h1, h2⟩ := h
  have hc := (bcell hu).1
  exact ⟨by rw [hc _ _ (World.block_lt_of_cell? w' _ h0)]; exact h0, by rw [hc _ _ (World.block_lt_of_cell? w' _ h1)]; exact h1, h2.trans hu⟩
end Go.Proofs.YtdddfapelencoaaDoor
