
/- What follows of the sizes and their codes: what the laws on them ask. No program here. No conditions. -/
import Derived.Test.YtfclicghkhemlaaDoorFrmR
namespace Go.Proofs.YtfclicghkhemlaaDoor
open Go.RowKit

theorem back_size {k : Int} {d : Nat} (h : isC k d = true) : codeV k (sizeV k d : Int) = d ∧ codeE k (sizeV k d : Int) = 0 := code_hit k _ d h rfl
theorem back_code {k n : Int} (h : hasF k n = true) : (sizeV k (codeV k n : Int) : Int) = n ∧ sizeE k (codeV k n : Int) = 0 := by
  obtain ⟨h1, h2⟩ := (hasF_iff k n).1 h
  rw [show codeV k n = fitF k n by simp [codeV, h], (size_good h1).1, (size_good h1).2]
  exact ⟨h2, rfl⟩
theorem back_fit {k n : Int} (h : fitsF k n = true) : codeE k (fitV k n : Int) = 0 ∧ n ≤ (fitV k n : Int) ∧ ((fitV k n : Int) = n ↔ hasF k n = true) := by
  obtain ⟨h1, h2⟩ := (fitsF_iff k n).1 h
  rw [show fitV k n = atF k (fitF k n) by simp [fitV, h]]
  refine ⟨by simp [codeE, has_at k _ h2], (fit_iff k n _ h2).2 (Nat.le_refl _), ?_⟩
  rw [hasF_iff]
  exact ⟨fun h => ⟨h2, h⟩, fun h => h.2⟩
theorem has_fits {k n : Int} (h : hasF k n = true) : fitsF k n = true := by
  obtain ⟨h1, h2⟩ := (hasF_iff k n).1 h
  exact (fitsF_iff k n).2 ⟨by omega, h1⟩
theorem at_mono {k : Int} {c d : Nat} (h : c ≤ d) (hd : d < cntF k) : atF k c ≤ atF k d := by
  have h1 := (fit_iff k (atF k c) d hd).2 (by rw [code_at k c (by omega)]; exact h)
  omega
theorem fit_mono {k p q : Int} (h : p ≤ q) (hq : fitF k q < cntF k) : fitF k p ≤ fitF k q := by
  have h1 := (fit_iff k q _ hq).2 (Nat.le_refl _)
  exact (fit_iff k p _ hq).1 (by omega)
theorem rise_fit {k p q : Int} (h : p ≤ q) (h0 : 0 ≤ p) (hq : fitsF k q = true) : fitsF k p = true ∧ fitV k p ≤ fitV k q := by
  obtain ⟨_, h2⟩ := (fitsF_iff k q).1 hq
  have h3 := fit_mono h h2
  have hp : fitsF k p = true := (fitsF_iff k p).2 ⟨h0, by omega⟩
  refine ⟨hp, ?_⟩
  rw [show fitV k p = atF k (fitF k p) by simp [fitV, hp], show fitV k q = atF k (fitF k q) by simp [fitV, hq]]
  exact at_mono h3 h2
theorem rise_code {k p q : Int} (hp : hasF k p = true) (hq : hasF k q = true) : decide (p < q) = decide ((codeV k p : Int) < (codeV k q : Int)) := by
  obtain ⟨h1, h2⟩ := (hasF_iff k p).1 hp
  obtain ⟨h3, h4⟩ := (hasF_iff k q).1 hq
  rw [show codeV k p = fitF k p by simp [codeV, hp], show codeV k q = fitF k q by simp [codeV, hq]]
  congr 1
  refine propext ⟨fun h => ?_, fun h => ?_⟩
  · have h5 := fit_mono (k := k) (Int.le_of_lt h) h3
    rcases Nat.lt_or_eq_of_le h5 with h6 | h6
    · omega
    · rw [h6] at h2; omega
  · have h5 : fitF k p < fitF k q := by omega
    by_cases h6 : p < q
    · exact h6
    · have := fit_mono (k := k) (by omega : q ≤ p) h1
      omega
theorem run_max2 (w : World) (ts : Array TypeId) (t : TypeId) (k k' : IntKind) (x y : Int) :
    (Builtin.max_ ts t #[.int k x, .int k' y]).run Tryd.prog w = .ok (.int k (max x y)) w := by
  have e : (if x < y then y else x) = max x y := by
    rw [Int.max_def]
    split <;> split <;> omega
  simp [Builtin.max_, Builtin.max2, e]
end Go.Proofs.YtfclicghkhemlaaDoor
