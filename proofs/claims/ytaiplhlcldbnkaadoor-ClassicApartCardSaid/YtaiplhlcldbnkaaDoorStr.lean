
/- Contracts of each over a text, of Text, and what a list of bytes is as a string. No conditions but those of sizes. -/
import Derived.Test.YtaiplhlcldbnkaaDoorGet
import Derived.Test.YtaiplhlcldbnkaaDoorByt
/-
  Texts.
-/
namespace Go.Proofs.YtaiplhlcldbnkaaDoor
set_option linter.unusedVariables false
set_option linter.unusedSimpArgs false
open Go.RowKit

end Go.Proofs.YtaiplhlcldbnkaaDoor
