
/- Contract of the document's Check. No conditions. -/
import Derived.Test.YtkboncpfddnoaaaGreatDoorFrmK
import Derived.Test.YtkboncpfddnoaaaGreatDoorGf
namespace Go.Proofs.YtkboncpfddnoaaaGreatDoor
set_option linter.unusedVariables false
set_option linter.unusedSimpArgs false
open Go.RowKit

/-- May a frame of this kind be, field by field? -/
def okCl (I : Int) (X R B E S : Bool) (D V A : Int) (z : Bool) : Bool := (!R || z) && ((X || decide (I < 2048)) && (decide (I < 536870912) && (!B && (!E && (!S && (D == 0 && (V == 0 && A == 0)))))))
def okFd (I : Int) (X R S : Bool) (D V A : Int) : Bool := decide (I < 2048) && (!X && (!R && (!S && (D == 0 && (V == 0 && A == 0)))))
def okXl (I : Int) (X R B E : Bool) : Bool := decide (I < 2048) && (!X && (!R && (!B && !E)))
theorem okF_cl (I : Int) (X R B E S : Bool) (D V A : Int) (l : List Nat) : okF ⟨1, I, X, R, B, E, S, D, V, A⟩ l = (hasF 1 (l.length : Int) && okCl I X R B E S D V A (decide (l.length = 0))) := by
  have hl : (l.length = 0) = (l = []) := propext List.length_eq_zero_iff
  cases X <;> cases R <;> by_cases hz : l = [] <;> by_cases h1 : I < 2048 <;> by_cases h2 : I < 536870912 <;> first
    | (exfalso; omega)
    | simp [okF, okCl, idsF, sameF, Hd.eqb, toldH, toldL, hl, hz, h1, h2]
theorem okF_fd (I : Int) (X R B E S : Bool) (D V A : Int) (l : List Nat) : okF ⟨2, I, X, R, B, E, S, D, V, A⟩ l = (hasF 2 (l.length : Int) && okFd I X R S D V A) := by
  cases X <;> simp [okF, okFd, idsF, sameF, Hd.eqb, toldH, toldL]
theorem okF_xl (I : Int) (X R B E S : Bool) (D V A : Int) (l : List Nat) : okF ⟨3, I, X, R, B, E, S, D, V, A⟩ l = (hasF 3 (l.length : Int) && okXl I X R B E) := by
  cases X <;> simp [okF, okXl, idsF, sameF, Hd.eqb, toldH, toldL]
theorem hasF_kind {k s : Int} (h : hasF k s = true) : k = 1 ∨ k = 2 ∨ k = 3 := by
  rcases kind_cases k with h1 | ⟨h1, h2, h3⟩
  · exact h1
  · have := ((hasF_iff k s).1 h).1
    simp [cntF, h1, h2, h3] at this
theorem Nb.s1 {w w1 : World} (h : Nb w w1) {b : Nat} (hb : w.heap.size ≤ b) (i : Nat) (u : Value) : Nb w (w1.setCell ⟨b, i, none⟩ u) := h.st hb u
theorem Nb.s2 {w w1 : World} (h : Nb w w1) {b : Nat} (hb : w.heap.size ≤ b) (i i2 : Nat) (u u2 : Value) : Nb w ((w1.setCell ⟨b, i, none⟩ u).setCell ⟨b, i2, none⟩ u2) := (h.s1 hb i u).s1 hb i2 u2
theorem Nb.s4 {w w1 : World} (h : Nb w w1) {b : Nat} (hb : w.heap.size ≤ b) (i i2 i3 i4 : Nat) (u u2 u3 u4 : Value) : Nb w ((((w1.setCell ⟨b, i, none⟩ u).setCell ⟨b, i2, none⟩ u2).setCell ⟨b, i3, none⟩ u3).setCell ⟨b, i4, none⟩ u4) := (h.s2 hb i i2 u u2).s2 hb i3 i4 u3 u4

end Go.Proofs.YtkboncpfddnoaaaGreatDoor
