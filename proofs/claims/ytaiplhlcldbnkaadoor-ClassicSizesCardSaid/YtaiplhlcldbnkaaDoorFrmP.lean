
/- The sizes of a kind's data, their codes, and what of them follows. No program here. No conditions. -/
import Derived.Test.YtaiplhlcldbnkaaDoorFre
namespace Go.Proofs.YtaiplhlcldbnkaaDoor
set_option linter.unusedVariables false
set_option linter.unusedSimpArgs false
open Go.RowKit

/-- How many sizes a kind has; the size at a code; the least code whose size is so much or more. -/
def cntF (k : Int) : Nat := if k = 1 then 9 else if k = 2 then 16 else if k = 3 then 2048 else 0
def longF (c : Nat) : Nat := if c = 0 then 12 else if c = 1 then 16 else if c = 2 then 20 else if c = 3 then 24 else if c = 4 then 32 else if c = 5 then 48 else 64
def atF (k : Int) (c : Nat) : Nat := if k = 3 then c + 1 else if c < 9 then c else longF (c - 9)
def fitF (k s : Int) : Nat :=
  if k = 1 then (if s ≤ 0 then 0 else if s ≤ 8 then s.toNat else 9)
  else if k = 2 then (if s ≤ 0 then 0 else if s ≤ 8 then s.toNat else if s ≤ 12 then 9 else if s ≤ 16 then 10 else if s ≤ 20 then 11 else if s ≤ 24 then 12 else if s ≤ 32 then 13 else if s ≤ 48 then 14 else if s ≤ 64 then 15 else 16)
  else if k = 3 then (if s ≤ 1 then 0 else if s ≤ 2048 then (s - 1).toNat else 2048)
  else 0

theorem kind_cases (k : Int) : (k = 1 ∨ k = 2 ∨ k = 3) ∨ (k ≠ 1 ∧ k ≠ 2 ∧ k ≠ 3) := by omega
theorem cntF_le (k : Int) : cntF k ≤ 2048 := by unfold cntF; (repeat' split) <;> omega
theorem at1 (c : Nat) (h : c < 9) : atF 1 c = c := by simp [atF, h]
theorem at3 (c : Nat) : atF 3 c = c + 1 := by simp [atF]
theorem at2 (c : Nat) (h : c < 16) : (c < 9 ∧ atF 2 c = c) ∨ (c = 9 ∧ atF 2 c = 12) ∨ (c = 10 ∧ atF 2 c = 16) ∨ (c = 11 ∧ atF 2 c = 20) ∨ (c = 12 ∧ atF 2 c = 24) ∨ (c = 13 ∧ atF 2 c = 32) ∨ (c = 14 ∧ atF 2 c = 48) ∨ (c = 15 ∧ atF 2 c = 64) := by
  by_cases h9 : c < 9
  · exact .inl ⟨h9, by simp [atF, h9]⟩
  · rcases (by omega : c = 9 ∨ c = 10 ∨ c = 11 ∨ c = 12 ∨ c = 13 ∨ c = 14 ∨ c = 15) with rfl | rfl | rfl | rfl | rfl | rfl | rfl <;> decide
set_option maxHeartbeats 1000000 in
theorem fit1 (s : Int) : (s ≤ 0 ∧ fitF 1 s = 0) ∨ (0 < s ∧ s ≤ 8 ∧ (fitF 1 s : Int) = s) ∨ (8 < s ∧ fitF 1 s = 9) := by
  rcases (by omega : s ≤ 0 ∨ (0 < s ∧ s ≤ 8) ∨ 8 < s) with h | h | h
  · exact .inl ⟨h, by simp [fitF, h]⟩
  · exact .inr (.inl ⟨h.1, h.2, by have h0 : ¬ s ≤ 0 := by omega
                                   have h1 := h.2
                                   simp only [fitF, if_true, if_neg h0, if_pos h1]; omega⟩)
  · exact .inr (.inr ⟨h, by have h0 : ¬ s ≤ 0 := by omega
                            have h1 : ¬ s ≤ 8 := by omega
                            simp only [fitF, if_true, if_neg h0, if_neg h1]⟩)
set_option maxHeartbeats 1000000 in
theorem fit2 (s : Int) : (s ≤ 0 ∧ fitF 2 s = 0) ∨ (0 < s ∧ s ≤ 8 ∧ (fitF 2 s : Int) = s) ∨ (8 < s ∧ s ≤ 12 ∧ fitF 2 s = 9) ∨ (12 < s ∧ s ≤ 16 ∧ fitF 2 s = 10) ∨ (16 < s ∧ s ≤ 20 ∧ fitF 2 s = 11) ∨ (20 < s ∧ s ≤ 24 ∧ fitF 2 s = 12) ∨ (24 < s ∧ s ≤ 32 ∧ fitF 2 s = 13) ∨ (32 < s ∧ s ≤ 48 ∧ fitF 2 s = 14) ∨ (48 < s ∧ s ≤ 64 ∧ fitF 2 s = 15) ∨ (64 < s ∧ fitF 2 s = 16) := by
  have e : (2 : Int) = 1 ↔ False := by decide
  rcases (by omega : s ≤ 0 ∨ (0 < s ∧ s ≤ 8) ∨ (8 < s ∧ s ≤ 12) ∨ (12 < s ∧ s ≤ 16) ∨ (16 < s ∧ s ≤ 20) ∨ (20 < s ∧ s ≤ 24) ∨ (24 < s ∧ s ≤ 32) ∨ (32 < s ∧ s ≤ 48) ∨ (48 < s ∧ s ≤ 64) ∨ 64 < s) with h | h | h | h | h | h | h | h | h | h
  · have k0 : s ≤ 0 := by omega
    have hf : fitF 2 s = 0 := by simp only [fitF, e, if_false, if_true, if_pos k0]
    omega
  · have k0 : ¬ s ≤ 0 := by omega
    have k1 : s ≤ 8 := by omega
    have hf : (fitF 2 s : Int) = s := by simp only [fitF, e, if_false, if_true, if_neg k0, if_pos k1]; omega
    omega
  · have k0 : ¬ s ≤ 0 := by omega
    have k1 : ¬ s ≤ 8 := by omega
    have k2 : s ≤ 12 := by omega
    have hf : fitF 2 s = 9 := by simp only [fitF, e, if_false, if_true, if_neg k0, if_neg k1, if_pos k2]
    omega
  · have k0 : ¬ s ≤ 0 := by omega
    have k1 : ¬ s ≤ 8 := by omega
    have k2 : ¬ s ≤ 12 := by omega
    have k3 : s ≤ 16 := by omega
    have hf : fitF 2 s = 10 := by simp only [fitF, e, if_false, if_true, if_neg k0, if_neg k1, if_neg k2, if_pos k3]
    omega
  · have k0 : ¬ s ≤ 0 := by omega
    have k1 : ¬ s ≤ 8 := by omega
    have k2 : ¬ s ≤ 12 := by omega
    have k3 : ¬ s ≤ 16 := by omega
    have k4 : s ≤ 20 := by omega
    have hf : fitF 2 s = 11 := by simp only [fitF, e, if_false, if_true, if_neg k0, if_neg k1, if_neg k2, if_neg k3, if_pos k4]
    omega
  · have k0 : ¬ s ≤ 0 := by omega
    have k1 : ¬ s ≤ 8 := by omega
    have k2 : ¬ s ≤ 12 := by omega
    have k3 : ¬ s ≤ 16 := by omega
    have k4 : ¬ s ≤ 20 := by omega
    have k5 : s ≤ 24 := by omega
    have hf : fitF 2 s = 12 := by simp only [fitF, e, if_false, if_true, if_neg k0, if_neg k1, if_neg k2, if_neg k3, if_neg k4, if_pos k5]
    omega
  · have k0 : ¬ s ≤ 0 := by omega
    have k1 : ¬ s ≤ 8 := by omega
    have k2 : ¬ s ≤ 12 := by omega
    have k3 : ¬ s ≤ 16 := by omega
    have k4 : ¬ s ≤ 20 := by omega
    have k5 : ¬ s ≤ 24 := by omega
    have k6 : s ≤ 32 := by omega
    have hf : fitF 2 s = 13 := by simp only [fitF, e, if_false, if_true, if_neg k0, if_neg k1, if_neg k2, if_neg k3, if_neg k4, if_neg k5, if_pos k6]
    omega
  · have k0 : ¬ s ≤ 0 := by omega
    have k1 : ¬ s ≤ 8 := by omega
    have k2 : ¬ s ≤ 12 := by omega
    have k3 : ¬ s ≤ 16 := by omega
    have k4 : ¬ s ≤ 20 := by omega
    have k5 : ¬ s ≤ 24 := by omega
    have k6 : ¬ s ≤ 32 := by omega
    have k7 : s ≤ 48 := by omega
    have hf : fitF 2 s = 14 := by simp only [fitF, e, if_false, if_true, if_neg k0, if_neg k1, if_neg k2, if_neg k3, if_neg k4, if_neg k5, if_neg k6, if_pos k7]
    omega
  · have k0 : ¬ s ≤ 0 := by omega
    have k1 : ¬ s ≤ 8 := by omega
    have k2 : ¬ s ≤ 12 := by omega
    have k3 : ¬ s ≤ 16 := by omega
    have k4 : ¬ s ≤ 20 := by omega
    have k5 : ¬ s ≤ 24 := by omega
    have k6 : ¬ s ≤ 32 := by omega
    have k7 : ¬ s ≤ 48 := by omega
    have k8 : s ≤ 64 := by omega
    have hf : fitF 2 s = 15 := by simp only [fitF, e, if_false, if_true, if_neg k0, if_neg k1, if_neg k2, if_neg k3, if_neg k4, if_neg k5, if_neg k6, if_neg k7, if_pos k8]
    omega
  · have k0 : ¬ s ≤ 0 := by omega
    have k1 : ¬ s ≤ 8 := by omega
    have k2 : ¬ s ≤ 12 := by omega
    have k3 : ¬ s ≤ 16 := by omega
    have k4 : ¬ s ≤ 20 := by omega
    have k5 : ¬ s ≤ 24 := by omega
    have k6 : ¬ s ≤ 32 := by omega
    have k7 : ¬ s ≤ 48 := by omega
    have k8 : ¬ s ≤ 64 := by omega
    have hf : fitF 2 s = 16 := by simp only [fitF, e, if_false, if_true, if_neg k0, if_neg k1, if_neg k2, if_neg k3, if_neg k4, if_neg k5, if_neg k6, if_neg k7, if_neg k8]
    omega
theorem fit3 (s : Int) : (s ≤ 1 ∧ fitF 3 s = 0) ∨ (1 < s ∧ s ≤ 2048 ∧ (fitF 3 s : Int) = s - 1) ∨ (2048 < s ∧ fitF 3 s = 2048) := by
  have e : (3 : Int) = 1 ↔ False := by decide
  have e2 : (3 : Int) = 2 ↔ False := by decide
  rcases (by omega : s ≤ 1 ∨ (1 < s ∧ s ≤ 2048) ∨ 2048 < s) with h | h | h
  · have hf : fitF 3 s = 0 := by simp only [fitF, e, e2, if_false, if_true, if_pos h]
    omega
  · have k0 : ¬ s ≤ 1 := by omega
    have hf : (fitF 3 s : Int) = s - 1 := by simp only [fitF, e, e2, if_false, if_true, if_neg k0, if_pos h.2]; omega
    omega
  · have k0 : ¬ s ≤ 1 := by omega
    have k1 : ¬ s ≤ 2048 := by omega
    have hf : fitF 3 s = 2048 := by simp only [fitF, e, e2, if_false, if_true, if_neg k0, if_neg k1]
    omega
theorem fitF_le (k s : Int) : fitF k s ≤ cntF k := by
  rcases kind_cases k with (rfl | rfl | rfl) | ⟨h1, h2, h3⟩
  · have := fit1 s
    show fitF 1 s ≤ 9
    omega
  · have := fit2 s
    show fitF 2 s ≤ 16
    omega
  · have := fit3 s
    show fitF 3 s ≤ 2048
    omega
  · simp [fitF, h1, h2, h3]
/-- The code that fits, told by each size. -/
theorem fit_iff (k s : Int) (c : Nat) (h : c < cntF k) : s ≤ (atF k c : Int) ↔ fitF k s ≤ c := by
  rcases kind_cases k with (rfl | rfl | rfl) | ⟨h1, h2, h3⟩
  · have hc : c < 9 := h
    have := at1 c hc
    have := fit1 s
    omega
  · have hc : c < 16 := h
    have := at2 c hc
    have := fit2 s
    omega
  · have hc : c < 2048 := h
    have := at3 c
    have := fit3 s
    omega
  · simp [cntF, h1, h2, h3] at h
theorem fit_dec (k s : Int) (c : Nat) (h : c < cntF k) : decide (s ≤ (atF k c : Int)) = decide (fitF k s ≤ c) := by
  have := fit_iff k s c h
  by_cases h1 : fitF k s ≤ c
  · simp [h1, this.2 h1]
  · have h2 : ¬ s ≤ (atF k c : Int) := fun h2 => h1 (this.1 h2)
    rw [decide_eq_false h1, decide_eq_false h2]
theorem atF_lt (k : Int) (c : Nat) (h : c < cntF k) : atF k c ≤ 2048 := by
  rcases kind_cases k with (rfl | rfl | rfl) | ⟨h1, h2, h3⟩
  · have hc : c < 9 := h
    have := at1 c hc
    omega
  · have hc : c < 16 := h
    have := at2 c hc
    omega
  · have hc : c < 2048 := h
    have := at3 c
    omega
  · simp [cntF, h1, h2, h3] at h

/-- Has a kind a size? -/
def hasF (k s : Int) : Bool := decide (fitF k s < cntF k) && decide ((atF k (fitF k s) : Int) = s)
def codeV (k s : Int) : Nat := if hasF k s then fitF k s else 0
def codeE (k s : Int) : Nat := if hasF k s then 0 else 2
def isC (k c : Int) : Bool := decide (0 ≤ c) && decide (c < (cntF k : Int))
def sizeV (k c : Int) : Nat := if isC k c then atF k c.toNat else 0
def sizeE (k c : Int) : Nat := if isC k c then 0 else 2
def fitsF (k s : Int) : Bool := decide (0 ≤ s) && decide (fitF k s < cntF k)
def fitV (k s : Int) : Nat := if fitsF k s then atF k (fitF k s) else 0
def fitE (k s : Int) : Nat := if fitsF k s then 0 else 2

theorem hasF_iff (k s : Int) : hasF k s = true ↔ fitF k s < cntF k ∧ (atF k (fitF k s) : Int) = s := by simp [hasF]
theorem isC_iff (k c : Int) : isC k c = true ↔ 0 ≤ c ∧ c < (cntF k : Int) := by simp [isC]
theorem fitsF_iff (k s : Int) : fitsF k s = true ↔ 0 ≤ s ∧ fitF k s < cntF k := by simp [fitsF]
theorem isC_nat (k : Int) (c : Nat) : isC k c = true ↔ c < cntF k := by rw [isC_iff]; omega

/-- A size at a code is one, and has that code. -/
theorem code_at (k : Int) (c : Nat) (h : c < cntF k) : fitF k (atF k c) = c := by
  have h1 := (fit_iff k (atF k c) c h).1 (Int.le_refl _)
  rcases Nat.lt_or_eq_of_le h1 with h2 | h2
  · exfalso
    have h3 : fitF k (atF k c) < cntF k := by omega
    have h4 := (fit_iff k (atF k c) _ h3).2 (Nat.le_refl _)
    rcases kind_cases k with (rfl | rfl | rfl) | ⟨h1, h2, h3⟩
    · have := at1 c h; have := at1 _ h3; omega
    · have := at2 c h; have := at2 _ h3; omega
    · have := at3 c; have := at3 (fitF 3 (atF 3 c)); omega
    · simp [cntF, h1, h2, h3] at h
  · exact h2
theorem has_at (k : Int) (c : Nat) (h : c < cntF k) : hasF k (atF k c) = true := by
  rw [hasF_iff, code_at k c h]; exact ⟨h, rfl⟩
/-- The document's search of a size: where it strikes, and where it doesn't. -/
theorem code_hit (k s : Int) (c : Nat) (h : isC k c = true) (hs : (sizeV k c : Int) = s) : codeV k s = c ∧ codeE k s = 0 := by
  have hc := (isC_nat k c).1 h
  simp only [sizeV, h, if_true, Int.toNat_natCast] at hs
  subst hs
  simp [codeV, codeE, has_at k c hc, code_at k c hc]
theorem code_none (k s : Int) (h : ∀ c : Nat, c < 2048 → ¬ (isC k c = true ∧ (sizeV k c : Int) = s)) : codeV k s = 0 ∧ codeE k s = 2 := by
  cases hh : hasF k s with
  | false => simp [codeV, codeE, hh]
  | true =>
    obtain ⟨h1, h2⟩ := (hasF_iff k s).1 hh
    have := cntF_le k
    exact absurd ⟨(isC_nat k _).2 h1, by simp only [sizeV, (isC_nat k _).2 h1, if_true, Int.toNat_natCast]; exact h2⟩ (h _ (by omega))
theorem fit_hit (k s : Int) (c : Nat) (h0 : 0 ≤ s) (h : isC k c = true) (hs : s ≤ (sizeV k c : Int)) (hn : ∀ j : Nat, j < c → ¬ (isC k j = true ∧ s ≤ (sizeV k j : Int))) : fitV k s = sizeV k c ∧ fitE k s = 0 := by
  have hc := (isC_nat k c).1 h
  have e1 : sizeV k c = atF k c := by simp only [sizeV, h, if_true, Int.toNat_natCast]
  rw [e1] at hs ⊢
  have h1 := (fit_iff k s c hc).1 hs
  have h2 : fitF k s = c := by
    rcases Nat.lt_or_eq_of_le h1 with h2 | h2
    · have h3 : fitF k s < cntF k := by omega
      refine absurd ⟨(isC_nat k _).2 h3, ?_⟩ (hn _ h2)
      simp only [sizeV, (isC_nat k _).2 h3, if_true, Int.toNat_natCast]
      exact (fit_iff k s _ h3).2 (Nat.le_refl _)
    · exact h2
  have h3 : fitsF k s = true := (fitsF_iff k s).2 ⟨h0, by omega⟩
  simp [fitV, fitE, h3, h2]
theorem fit_none (k s : Int) (h : ∀ c : Nat, c < 2048 → ¬ (isC k c = true ∧ s ≤ (sizeV k c : Int))) : fitV k s = 0 ∧ fitE k s = 2 := by
  cases hh : fitsF k s with
  | false => simp [fitV, fitE, hh]
  | true =>
    obtain ⟨_, h1⟩ := (fitsF_iff k s).1 hh
    have := cntF_le k
    refine absurd ⟨(isC_nat k _).2 h1, ?_⟩ (h _ (by omega))
    simp only [sizeV, (isC_nat k _).2 h1, if_true, Int.toNat_natCast]
    exact (fit_iff k s _ h1).2 (Nat.le_refl _)
end Go.Proofs.YtaiplhlcldbnkaaDoor
