/- policy: the face's Admit, over whatever rule the policy goes by. -/
import Derived.Test.YtdddfapelencoaaDoorPlFn2
import Derived.Test.YtdddfapelencoaaDoorLkD
set_option linter.unusedVariables false
namespace Go.Proofs.YtdddfapelencoaaDoor
open Go Go.RowKit

theorem Tryd.infoLevel : (Tryd.prog.info? 37).map (·.size) = some 3 := by kernel_rfl


end Go.Proofs.YtdddfapelencoaaDoor
