/- Merged: CardSickF. -/
import Derived.Test.YtfhcnciimnhnlaaGreatDoorCards
import Derived.Test.YtfhcnciimnhnlaaGreatDoorTie
import Derived.OpenShut
import Derived.Deep.DeepHandedRow
import Derived.Deep.DeepWitnessRowRef
import Derived.LaidMore
import Derived.LaidHandle
set_option linter.unusedVariables false
namespace Go.Proofs.YtfhcnciimnhnlaaGreatDoor.segmentSick
open Go Go.RowKit Go.ChangeShapes Go.WideShapes Go.ChangeAt

set_option maxRecDepth 100000 in
set_option maxHeartbeats 0 in
theorem closed : joinedFacts Tryz.pinned.checked.prog 7 Tryz.f7 (OpenSpec.ofChange Rows.segmentSickSpec).bare Rows.segmentSickRow = true := by
  simp only [joinedFacts, Bool.and_eq_true]
  repeat' (refine And.intro ?_ ?_)
  all_goals (as_aux_lemma => kernel_rfl)
end Go.Proofs.YtfhcnciimnhnlaaGreatDoor.segmentSick
