
/- Contracts of Check, of the document's Check, Same and Num, and of a number's step. No conditions but those of bits. -/
import Derived.Test.YtahemoakehbchaaNum
/-
  Check (the program's and the document's), Same, Num, Get.
-/
namespace Go.Proofs.Ytahemoakehbchaa
set_option linter.unusedVariables false
set_option linter.unusedSimpArgs false
open Go.RowKit

/-- Whether all are bits, and not too many. -/
def chk (l : List Nat) : Bool := decide (l.length ≤ 65536) && l.all (fun x => decide (x ≤ 1))
theorem chk_len {l : List Nat} (h : chk l = true) : l.length ≤ 65536 := by simp [chk] at h; exact h.1
theorem chk_bit {l : List Nat} (h : chk l = true) : ∀ x ∈ l, x ≤ 1 := by simp [chk] at h; exact h.2

/-- Bits' number. -/
def numN (l : List Nat) : Nat := l.foldl (fun n b => n * 2 + b) 0
theorem numN_snoc (l : List Nat) (b : Nat) : numN (l ++ [b]) = numN l * 2 + b := by simp [numN]
theorem numN_lt (l : List Nat) (h : ∀ x ∈ l, x ≤ 1) : numN l < 2 ^ l.length := by
  have key : ∀ (l : List Nat) (n : Nat), (∀ x ∈ l, x ≤ 1) → l.foldl (fun n b => n * 2 + b) n < (n + 1) * 2 ^ l.length := by
    intro l
    induction l with
    | nil => intro n _; simp
    | cons b l ih =>
      intro n hl
      have h1 := ih (n * 2 + b) (fun x hx => hl x (by simp [hx]))
      have h2 := hl b (by simp)
      rw [List.foldl_cons, List.length_cons, Nat.pow_succ]
      refine Nat.lt_of_lt_of_le h1 ?_
      rw [Nat.mul_comm (2 ^ l.length) 2, ← Nat.mul_assoc]
      exact Nat.mul_le_mul_right _ (by omega)
  have := key l 0 h
  simpa [numN] using this
theorem take_snoc' {l : List Nat} {k x : Nat} (h : l[k]? = some x) : l.take (k + 1) = l.take k ++ [x] := by rw [List.take_add_one, h]; rfl

end Go.Proofs.Ytahemoakehbchaa
