
/- Contracts of package classic's plain, Body and Most. Condition: the tables of kinds and of longer sizes hold what the program's text lays there. -/
import Derived.Test.YtaaphbneidmciaaDoorClaD
import Derived.Test.YtaaphbneidmciaaDoorFrmH
namespace Go.Proofs.YtaaphbneidmciaaDoor
set_option linter.unusedVariables false
set_option linter.unusedSimpArgs false
open Go.RowKit

/-! Most. -/
def mostV (s : Int) : Nat := if 0 ≤ s ∧ s ≤ 8 then 54 + 8 * s.toNat + (54 + 8 * s.toNat - 1) / 4 + 10 else 0
def mostE (s : Int) : Nat := if 0 ≤ s ∧ s ≤ 8 then 0 else 2
theorem code1_bad {s : Int} (h : ¬ (0 ≤ s ∧ s ≤ 8)) : codeE 1 s = 2 := by
  have hh : hasF 1 s = false := by
    cases hh : hasF 1 s with
    | false => rfl
    | true =>
      obtain ⟨h1, h2⟩ := (hasF_iff 1 s).1 hh
      have h3 : fitF 1 s < 9 := h1
      rw [at1 _ h3] at h2
      omega
  simp [codeE, hh]
end Go.Proofs.YtaaphbneidmciaaDoor
