
/- The document's own Body, Wire and Most of a Classic frame. No conditions but sizes. -/
import Derived.Test.YtaaphbneidmciaaDoorClaR
import Derived.Test.YtaaphbneidmciaaDoorGb
import Derived.Test.YtaaphbneidmciaaDoorClaW
import Derived.Test.YtaaphbneidmciaaDoorFrmH
import Derived.Deep.RegionHeld3
namespace Go.Proofs.YtaaphbneidmciaaDoor
set_option linter.unusedVariables false
set_option linter.unusedSimpArgs false
open Go.RowKit

/-- An answer of a frame on the wire and an error. -/
def AnsV (l : List Nat) (arb ack er : Nat) (e : Ending) (w' : World) : Prop := ∃ a c, e = .returned (.tuple #[.agg #[.slice a l.length c, .int .i64 arb, .int .i64 ack], .int .i64 er]) ∧ Bs w' a c l

end Go.Proofs.YtaaphbneidmciaaDoor
