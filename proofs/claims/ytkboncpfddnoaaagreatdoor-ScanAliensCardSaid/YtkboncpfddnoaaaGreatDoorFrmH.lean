
/- Contract of the document Check, a Classic frame. No conditions. -/
import Derived.Test.YtkboncpfddnoaaaGreatDoorFrmG
namespace Go.Proofs.YtkboncpfddnoaaaGreatDoor
set_option linter.unusedVariables false
set_option linter.unusedSimpArgs false
open Go.RowKit

end Go.Proofs.YtkboncpfddnoaaaGreatDoor
