/- The closed facts of the row of SegmentMemoryUpto, each in a declaration of its own (on this dump they are too great for one). -/
import Derived.Test.YtkfjkfpodkbkaaaGreatDoorCards
import Derived.Test.YtkfjkfpodkbkaaaGreatDoorTie
import Derived.OpenShut
import Derived.Deep.DeepHandedRow
import Derived.Deep.DeepWitnessRowRef
import Derived.LaidMore
import Derived.LaidHandle
set_option linter.unusedVariables false
namespace Go.Proofs.YtkfjkfpodkbkaaaGreatDoor.segmentMemory
open Go Go.RowKit Go.ChangeShapes Go.WideShapes Go.ChangeAt

set_option maxRecDepth 100000 in
set_option maxHeartbeats 0 in
theorem closed : joinedFacts Tryz.pinned.checked.prog 7 Tryz.f7 (Rows.OpenSpec.upto Rows.segmentMemorySpec).bare Rows.segmentMemoryUptoRow = true := by
  simp only [joinedFacts, Bool.and_eq_true]
  repeat' (refine And.intro ?_ ?_)
  all_goals (as_aux_lemma => kernel_rfl)
end Go.Proofs.YtkfjkfpodkbkaaaGreatDoor.segmentMemory
