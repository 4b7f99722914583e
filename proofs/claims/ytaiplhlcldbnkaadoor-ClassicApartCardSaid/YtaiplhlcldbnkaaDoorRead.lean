
/- Contracts of the reader and of Read. Condition: a text below 2 to the 47. -/
import Derived.Test.YtaiplhlcldbnkaaDoorStr
/-
  Read.
-/
namespace Go.Proofs.YtaiplhlcldbnkaaDoor
set_option linter.unusedVariables false
set_option linter.unusedSimpArgs false
open Go.RowKit

def okLetter (c : Nat) : Bool := decide (c = 32) || decide (c = 48) || decide (c = 49)
def rdBits (s : List Nat) : List Nat := (s.filter fun c => decide (c ≠ 32)).map (· - 48)
def rdOk (s : List Nat) : Bool := s.all okLetter && decide ((rdBits s).length ≤ 65536)
theorem rdBits_snoc (s : List Nat) (c : Nat) : rdBits (s ++ [c]) = if c = 32 then rdBits s else rdBits s ++ [c - 48] := by
  by_cases h : c = 32 <;> simp [rdBits, h]
theorem rdOk_snoc (s : List Nat) (c : Nat) (h : rdOk s = true) : rdOk (s ++ [c]) = (okLetter c && (decide (c = 32) || decide ((rdBits s).length < 65536))) := by
  simp only [rdOk, Bool.and_eq_true, decide_eq_true_eq] at h
  obtain ⟨h1, h2⟩ := h
  simp only [rdOk, List.all_append, h1, Bool.true_and, List.all_cons, List.all_nil, Bool.and_true]
  rw [rdBits_snoc]
  by_cases h : c = 32
  · simp [h, h2]
  · simp only [h, if_false, decide_false, Bool.false_or, List.length_append, List.length_singleton]
    congr 1
theorem rdOk_snoc_bad (s : List Nat) (c : Nat) (h : rdOk s = false) : rdOk (s ++ [c]) = false := by
  cases hh : rdOk (s ++ [c]) with
  | false => rfl
  | true =>
    simp only [rdOk, Bool.and_eq_true, decide_eq_true_eq, List.all_append] at hh
    rw [rdBits_snoc] at hh
    have : rdOk s = true := by
      simp only [rdOk, Bool.and_eq_true, decide_eq_true_eq]
      refine ⟨hh.1.1, ?_⟩
      have h2 := hh.2
      by_cases h : c = 32
      · rwa [if_pos h] at h2
      · rw [if_neg h, List.length_append] at h2; omega
    rw [this] at h
    cases h
theorem rdBits_le (s : List Nat) (h : s.all okLetter = true) : ∀ x ∈ rdBits s, x ≤ 1 := by
  intro x hx
  obtain ⟨c, hc, rfl⟩ := List.mem_map.1 hx
  obtain ⟨h1, h2⟩ := List.mem_filter.1 hc
  have := List.all_eq_true.1 h c h1
  simp only [okLetter, Bool.or_eq_true, decide_eq_true_eq] at this
  simp only [decide_eq_true_eq] at h2
  omega

/-- What Read answers. -/
def ReadPost (s : List Nat) (e : Ending) (w' : World) : Prop :=
  (rdOk s = true ∧ ∃ a c, e = .returned (.tuple #[.slice a (rdBits s).length c, .int .i64 0]) ∧ Bs w' a c (rdBits s)) ∨ (rdOk s = false ∧ e = .returned (.tuple #[.slice none 0 0, .int .i64 2]))

end Go.Proofs.YtaiplhlcldbnkaaDoor
