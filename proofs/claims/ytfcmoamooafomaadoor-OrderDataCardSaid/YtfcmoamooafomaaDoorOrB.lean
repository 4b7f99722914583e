
/- Frames that differ in what doesn't arbitrate, compared. No program here. No conditions. -/
import Derived.Test.YtfcmoamooafomaaDoorOrC
namespace Go.Proofs.YtfcmoamooafomaaDoor
set_option linter.unusedVariables false
set_option linter.unusedSimpArgs false
open Go.RowKit

theorem data_c {f g c : Hd} {l m n : List Nat} (hf : okF f l = true) (hg : okF g m = true) (hc : okF c n = true) (hk : keyF c = keyF f) :
    cmpV c g n m = cmpV f g l m ∧ cmpE c g n m = 0 ∧ cmpV f c l n = 0 ∧ cmpE f c l n = 0 ∧ cmpE f g l m = 0 := by
  unfold cmpV cmpE cmpN
  simp [hf, hg, hc, hk]
end Go.Proofs.YtfcmoamooafomaaDoor
