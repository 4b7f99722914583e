
/- What a frame's fields are by their widths. No conditions. -/
import Derived.Test.YtlmbggmamemmjaaDoorFrmE
namespace Go.Proofs.YtlmbggmamemmjaaDoor
set_option linter.unusedVariables false
set_option linter.unusedSimpArgs false
open Go.RowKit

/-- The fields' own widths. -/
def WdX (f : Hd) : Prop := 0 ≤ f.I ∧ 0 ≤ f.D ∧ f.D < 256 ∧ 0 ≤ f.V ∧ f.V < 256 ∧ 0 ≤ f.A ∧ f.A < 4294967296
end Go.Proofs.YtlmbggmamemmjaaDoor
