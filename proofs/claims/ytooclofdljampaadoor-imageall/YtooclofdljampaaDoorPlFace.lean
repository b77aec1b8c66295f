/- policy: the face's calls, over whatever rule the policy goes by. -/
import Derived.Test.YtooclofdljampaaDoorPlFn2
import Derived.Test.YtooclofdljampaaDoorMiE
set_option linter.unusedVariables false
namespace Go.Proofs.YtooclofdljampaaDoor
open Go Go.RowKit



end Go.Proofs.YtooclofdljampaaDoor
