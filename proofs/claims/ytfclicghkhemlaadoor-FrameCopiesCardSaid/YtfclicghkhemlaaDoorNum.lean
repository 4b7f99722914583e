
/- Contracts of newRow, number, octet, each over bytes, and Put. Conditions: sizes below 2 to the 46. -/
import Derived.Test.YtfclicghkhemlaaDoorRow
/-
  A number's bits appended to a row; a byte's; all bytes handed on ('each').
-/
namespace Go.Proofs.YtfclicghkhemlaaDoor
open Go.RowKit

/-- A number's bits, the highest first. -/
def bitsN (n size : Nat) : List Nat := (List.range size).map fun i => n / 2 ^ (size - 1 - i) % 2
theorem bitsN_length (n size : Nat) : (bitsN n size).length = size := by simp [bitsN]
theorem bitsN_take_succ (n size k : Nat) (h : k < size) : (bitsN n size).take (k + 1) = (bitsN n size).take k ++ [n / 2 ^ (size - 1 - k) % 2] := by
  rw [List.take_add_one, List.getElem?_eq_getElem (by rw [bitsN_length]; exact h)]
  simp [bitsN]
theorem bitsN_lt (n size : Nat) : ∀ x ∈ bitsN n size, x < 2 := by
  intro x hx
  obtain ⟨i, _, rfl⟩ := List.mem_map.1 hx
  omega

theorem RowStep.size {w : World} {t : TypeId} {R : Nat} {v : Value} {l : List Nat} {w' : World} (h : RowStep w t R v l w') : w.heap.size ≤ w'.heap.size := by
  obtain ⟨_, _, h, _⟩ := h
  exact h.size

set_option maxHeartbeats 800000 in
set_option maxRecDepth 100000 in
theorem run_makeB (w : World) (n : Nat) (hn : n ≤ 140737488355328) : (Instr.makeSlice 23 (.int .i64 0) (.int .i64 (n : Int))).run Tryd.prog w = .ok (.slice (some ⟨w.heap.size, 0, none⟩) 0 n) (w.alloc (.cells (madeCells #[.int .u8 0] n) 5)) := by
  obtain ⟨i0, hi, hz0, hz1, hz2⟩ := info_parts infoU8
  have h := run_make w 23 5 i0 (.int .u8 0) Tryd.underlying23 hi hz0 .i64 .i64 0 n (by omega) (by omega) (by rw [hz2]; omega) (by omega)
  rw [hz1] at h
  simpa [Value.cells] using h

theorem OwnB.made (w : World) (n : Nat) (hn : n ≤ 140737488355328) : OwnB (w.alloc (.cells (madeCells #[.int .u8 0] n) 5)) (.slice (some ⟨w.heap.size, 0, none⟩) 0 n) [] :=
  ⟨World.ownsRow_made w _ n (Nat.zero_le _) (by unfold maxLen; omega) (by simp [size_madeCells]), by simp⟩

/-- Whether the bits of n fit into so many. -/
def PutOk (n : Nat) (size : Int) : Prop := 0 ≤ size ∧ size ≤ 64 ∧ n < 2 ^ size.toNat

end Go.Proofs.YtfclicghkhemlaaDoor
