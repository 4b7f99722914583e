
/- Contract of package classic's Wire. Condition: the tables of kinds and of longer sizes hold what the program's text lays there. -/
import Derived.Test.YtaaphbneidmciaaDoorClaE
namespace Go.Proofs.YtaaphbneidmciaaDoor
set_option linter.unusedVariables false
set_option linter.unusedSimpArgs false
open Go.RowKit

end Go.Proofs.YtaaphbneidmciaaDoor
