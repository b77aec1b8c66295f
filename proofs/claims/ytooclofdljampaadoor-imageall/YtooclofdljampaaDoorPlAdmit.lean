/- policy: the face's Admit, over whatever rule the policy goes by. -/
import Derived.Test.YtooclofdljampaaDoorPlFn2
import Derived.Test.YtooclofdljampaaDoorMiE
set_option linter.unusedVariables false
namespace Go.Proofs.YtooclofdljampaaDoor
open Go Go.RowKit

theorem Tryd.infoLevel : (Tryd.prog.info? 48).map (·.size) = some 3 := by kernel_rfl


end Go.Proofs.YtooclofdljampaaDoor
