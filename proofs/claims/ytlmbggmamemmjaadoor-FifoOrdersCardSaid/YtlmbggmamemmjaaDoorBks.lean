
/- Several cells stored into one block. No conditions. -/
import Derived.Test.YtlmbggmamemmjaaDoorOwnN
import Derived.Deep.MidRow
namespace Go.Proofs.YtlmbggmamemmjaaDoor
set_option linter.unusedVariables false
set_option linter.unusedSimpArgs false
open Go.RowKit

/-- A store of some cells into a block. -/
theorem Blk.sets {t : TypeId} {g : Nat} : ∀ (vs : List Value) (o : Nat) (w : World) (cs : Array Value), Blk w g cs t → ∃ cs', Blk (w.setCells g o vs) g cs' t ∧ cs'.size = cs.size ∧ (∀ i, i < vs.length → o + i < cs.size → cs'[o + i]? = vs[i]?) ∧ ∀ k, (k < o ∨ o + vs.length ≤ k) → cs'[k]? = cs[k]? := by
  intro vs
  induction vs with
  | nil => intro o w cs h; exact ⟨cs, h, rfl, fun i hi => by simp at hi, fun k _ => rfl⟩
  | cons v vs ih =>
    intro o w cs h
    obtain ⟨cs', h1, h2, h3, h4⟩ := ih (o + 1) _ _ (h.set o v)
    rw [Array.size_setIfInBounds] at h2 h3
    refine ⟨cs', h1, h2, fun i hi ho => ?_, fun k hk => ?_⟩
    · cases i with
      | zero =>
        rw [h4 (o + 0) (by omega), Nat.add_zero, Array.getElem?_setIfInBounds_self_of_lt (by omega)]
        rfl
      | succ i =>
        have := h3 i (by simpa using hi) (by omega)
        rw [show o + (i + 1) = o + 1 + i by omega, this]
        rfl
    · rw [List.length_cons] at hk
      rw [h4 k (by omega), Array.getElem?_setIfInBounds_ne (by omega)]
theorem Kp.sets {F : Nat → Prop} {g : Nat} (hg : F g) : ∀ (vs : List Value) (o : Nat) (w : World), Kp F w (w.setCells g o vs) := by
  intro vs
  induction vs with
  | nil => intro o w; exact Kp.ofNb Nb.rfl
  | cons v vs ih => intro o w; exact (Kp.set hg).tr (ih (o + 1) _) (fun k hk => .inl hk)
end Go.Proofs.YtlmbggmamemmjaaDoor
