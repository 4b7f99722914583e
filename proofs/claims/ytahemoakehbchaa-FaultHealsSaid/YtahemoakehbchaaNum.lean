
/- Contracts of newRow, number, octet, each over bytes, and Put. Conditions: sizes below 2 to the 46. -/
import Derived.Test.YtahemoakehbchaaRow
/-
  A number's bits appended to a row; a byte's; all bytes handed on ('each').
-/
namespace Go.Proofs.Ytahemoakehbchaa
set_option linter.unusedVariables false
set_option linter.unusedSimpArgs false
open Go.RowKit

/-- A number's bits, the highest first. -/
def bitsN (n size : Nat) : List Nat := (List.range size).map fun i => n / 2 ^ (size - 1 - i) % 2
theorem bitsN_length (n size : Nat) : (bitsN n size).length = size := by simp [bitsN]
theorem bitsN_take_succ (n size k : Nat) (h : k < size) : (bitsN n size).take (k + 1) = (bitsN n size).take k ++ [n / 2 ^ (size - 1 - k) % 2] := by
  rw [List.take_add_one, List.getElem?_eq_getElem (by rw [bitsN_length]; exact h)]
  simp [bitsN]
theorem bitsN_lt (n size : Nat) : ∀ x ∈ bitsN n size, x < 2 := by
  intro x hx
  obtain ⟨i, _, rfl⟩ := List.mem_map.1 hx
  omega

theorem RowStep.size {w : World} {t : TypeId} {R : Nat} {v : Value} {l : List Nat} {w' : World} (h : RowStep w t R v l w') : w.heap.size ≤ w'.heap.size := by
  obtain ⟨_, _, h, _⟩ := h
  exact h.size

theorem OwnB.made (w : World) (n : Nat) (hn : n ≤ 140737488355328) : OwnB (w.alloc (.cells (madeCells #[.int .u8 0] n) 5)) (.slice (some ⟨w.heap.size, 0, none⟩) 0 n) [] :=
  ⟨World.ownsRow_made w _ n (Nat.zero_le _) (by unfold maxLen; omega) (by simp [size_madeCells]), by simp⟩

/-- Whether the bits of n fit into so many. -/
def PutOk (n : Nat) (size : Int) : Prop := 0 ≤ size ∧ size ≤ 64 ∧ n < 2 ^ size.toNat

end Go.Proofs.Ytahemoakehbchaa
