
/- What a check sum is, as a number: a kind's rule, a step, a run; and what follows from that. No program here. No conditions. -/
import Derived.Test.YtaiplhlcldbnkaaDoorUni
namespace Go.Proofs.YtaiplhlcldbnkaaDoor
set_option linter.unusedVariables false
set_option linter.unusedSimpArgs false
open Go.RowKit

/-- A kind's size, polynomial and start. -/
def ruleK (k : Int) : Nat × Nat × Nat :=
  if k = 1 then (15, 17817, 0) else if k = 2 then (17, 92251, 65536) else if k = 3 then (21, 1058969, 1048576) else if k = 4 then (13, 6631, 1) else if k = 5 then (32, 4104977171, 1) else (0, 0, 0)
def szK (k : Int) : Nat := (ruleK k).1
def polyK (k : Int) : Nat := (ruleK k).2.1
def startK (k : Int) : Nat := (ruleK k).2.2

theorem ruleK_cases (k : Int) : (k = 1 ∨ k = 2 ∨ k = 3 ∨ k = 4 ∨ k = 5) ∨ (ruleK k = (0, 0, 0) ∧ k ≠ 1 ∧ k ≠ 2 ∧ k ≠ 3 ∧ k ≠ 4 ∧ k ≠ 5) := by
  unfold ruleK
  by_cases h1 : k = 1; · exact .inl (.inl h1)
  by_cases h2 : k = 2; · exact .inl (.inr (.inl h2))
  by_cases h3 : k = 3; · exact .inl (.inr (.inr (.inl h3)))
  by_cases h4 : k = 4; · exact .inl (.inr (.inr (.inr (.inl h4))))
  by_cases h5 : k = 5; · exact .inl (.inr (.inr (.inr (.inr h5))))
  exact .inr ⟨by simp [h1, h2, h3, h4, h5], h1, h2, h3, h4, h5⟩

/-- What holds of a kind that is one. -/
structure KindOk (n p s : Nat) : Prop where
  pos : 13 ≤ n
  le : n ≤ 32
  poly : p < 2 ^ n
  odd : p % 2 = 1
  start : s < 2 ^ n
theorem kindOk (k : Int) (h : szK k ≠ 0) : KindOk (szK k) (polyK k) (startK k) := by
  rcases ruleK_cases k with (rfl | rfl | rfl | rfl | rfl) | ⟨h1, _⟩
  · exact ⟨by decide, by decide, by decide, by decide, by decide⟩
  · exact ⟨by decide, by decide, by decide, by decide, by decide⟩
  · exact ⟨by decide, by decide, by decide, by decide, by decide⟩
  · exact ⟨by decide, by decide, by decide, by decide, by decide⟩
  · exact ⟨by decide, by decide, by decide, by decide, by decide⟩
  · simp [szK, h1] at h

/-- One bit goes into a sum. -/
def stepC (n p s b : Nat) : Nat := if s / 2 ^ (n - 1) = b then s * 2 % 2 ^ n else (s * 2 % 2 ^ n) ^^^ p
def runC (n p s : Nat) (l : List Nat) : Nat := l.foldl (stepC n p) s
theorem runC_nil (n p s : Nat) : runC n p s [] = s := rfl
theorem runC_append (n p s : Nat) (l m : List Nat) : runC n p s (l ++ m) = runC n p (runC n p s l) m := by simp [runC]
theorem runC_snoc (n p s : Nat) (l : List Nat) (b : Nat) : runC n p s (l ++ [b]) = stepC n p (runC n p s l) b := by simp [runC]
theorem runC_cons (n p s : Nat) (l : List Nat) (b : Nat) : runC n p s (b :: l) = runC n p (stepC n p s b) l := by simp [runC]
theorem stepC_lt {n p s b : Nat} (hp : p < 2 ^ n) : stepC n p s b < 2 ^ n := by
  have h : s * 2 % 2 ^ n < 2 ^ n := Nat.mod_lt _ (Nat.two_pow_pos n)
  unfold stepC
  split
  · exact h
  · exact Nat.xor_lt_two_pow h hp
theorem runC_lt {n p : Nat} (hp : p < 2 ^ n) : ∀ (l : List Nat) (s : Nat), s < 2 ^ n → runC n p s l < 2 ^ n := by
  intro l
  induction l with
  | nil => intro s h; exact h
  | cons b l ih => intro s _; rw [runC_cons]; exact ih _ (stepC_lt hp)

/-- The sum's bits, read as the document does: the highest one is whether it reaches half. -/
theorem top_le {n s : Nat} (hn : 1 ≤ n) (hs : s < 2 ^ n) : s / 2 ^ (n - 1) ≤ 1 := by
  have : 2 ^ n = 2 ^ (n - 1) * 2 := by rw [← Nat.pow_succ]; congr 1; omega
  have h2 : s / 2 ^ (n - 1) < 2 := Nat.div_lt_of_lt_mul (by omega)
  omega
end Go.Proofs.YtaiplhlcldbnkaaDoor
