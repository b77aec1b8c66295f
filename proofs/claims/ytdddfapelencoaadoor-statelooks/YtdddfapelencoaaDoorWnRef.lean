/- window: the reference's answers are the same numbers. -/
import Derived.Test.YtdddfapelencoaaDoorWnCalls
set_option linter.unusedVariables false
namespace Go.Proofs.YtdddfapelencoaaDoor
open Go Go.RowKit










end Go.Proofs.YtdddfapelencoaaDoor
