
/- Contracts of Run and of the document's Run. No conditions. -/
import Derived.Test.YtjccmnmjbffikaaVoc
namespace Go.Proofs.Ytjccmnmjbffikaa
open Go.RowKit

/-- k is how many at the end are alike. -/
def IsRun (l : List Nat) (k : Nat) : Prop :=
  k ≤ l.length ∧ (∀ j, j < k → l.getD (l.length - 1 - j) 0 = l.getD (l.length - 1) 0) ∧ (k < l.length → l.getD (l.length - 1 - k) 0 ≠ l.getD (l.length - 1) 0)

theorem IsRun.uniq {l : List Nat} {j k : Nat} (h : IsRun l j) (h' : IsRun l k) : j = k := by
  obtain ⟨a1, a2, a3⟩ := h
  obtain ⟨b1, b2, b3⟩ := h'
  rcases Nat.lt_trichotomy j k with h | h | h
  · exact absurd (b2 j h) (a3 (by omega))
  · exact h
  · exact absurd (a2 k h) (b3 (by omega))

end Go.Proofs.Ytjccmnmjbffikaa
