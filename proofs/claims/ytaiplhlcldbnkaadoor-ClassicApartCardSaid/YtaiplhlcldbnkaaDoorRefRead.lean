
/- Contract of the document's Read. Condition: a text below 2 to the 46. -/
import Derived.Test.YtaiplhlcldbnkaaDoorRef
namespace Go.Proofs.YtaiplhlcldbnkaaDoor
set_option linter.unusedVariables false
set_option linter.unusedSimpArgs false
open Go.RowKit

theorem rdBits_length_le (s : List Nat) : (rdBits s).length ≤ s.length := by
  unfold rdBits
  rw [List.length_map]
  exact List.length_filter_le _ _
theorem rdOk_false_of (s : List Nat) (k c : Nat) (hc : s[k]? = some c) (h : okLetter c = false) : rdOk s = false := by
  cases hh : rdOk s with
  | false => rfl
  | true =>
    simp only [rdOk, Bool.and_eq_true] at hh
    have := List.all_eq_true.1 hh.1 c (List.mem_of_getElem? hc)
    rw [h] at this
    cases this

end Go.Proofs.YtaiplhlcldbnkaaDoor
