
/- Contracts of Get, Bytes and Pack. Condition: at most a million bytes. -/
import Derived.Test.YtaiplhlcldbnkaaDoorPackP
import Derived.Test.YtaiplhlcldbnkaaDoorFre
import Derived.RegionTactic
/-
  Get, Bytes, Pack.
-/
namespace Go.Proofs.YtaiplhlcldbnkaaDoor
set_option linter.unusedVariables false
set_option linter.unusedSimpArgs false
open Go.RowKit

def getOk (l : List Nat) : Bool := decide (l.length ≤ 64) && chk l

end Go.Proofs.YtaiplhlcldbnkaaDoor
