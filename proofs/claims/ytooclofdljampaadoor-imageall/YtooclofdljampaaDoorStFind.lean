/- state: Find, by the library's search over entries. Own work. -/
import Derived.Test.YtooclofdljampaaDoorStRow
import Derived.Test.YtooclofdljampaaDoorShelf
import Derived.Test.YtooclofdljampaaDoorMiE
import Derived.Deep.LoopGhost
import Derived.BigQuiet
import Derived.Deep.QuietTactic
set_option linter.unusedVariables false
set_option linter.unusedSimpArgs false
namespace Go.Proofs.YtooclofdljampaaDoor
open Go Go.RowKit

end Go.Proofs.YtooclofdljampaaDoor
