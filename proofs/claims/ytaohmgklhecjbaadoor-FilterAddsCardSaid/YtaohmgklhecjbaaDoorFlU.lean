
/- The cells of one rule of a row of the own call; a row of one. No conditions. -/
import Derived.Test.YtaohmgklhecjbaaDoorFlV
namespace Go.Proofs.YtaohmgklhecjbaaDoor
set_option linter.unusedVariables false
set_option linter.unusedSimpArgs false
open Go.RowKit

theorem RwR.at {w : World} {g cap : Nat} {L : List Rl} (h : RwR w g cap L) {j : Nat} (hj : j < L.length) {r : Rl} (hr : L.getD j dRl = r) :
    w.cell? ⟨g, j * 10, none⟩ = some (.int .i64 r.K) ∧ w.cell? ⟨g, j * 10 + 1, none⟩ = some (.int .u32 r.I) ∧ w.cell? ⟨g, j * 10 + 2, none⟩ = some (.int .u32 r.IM) ∧ w.cell? ⟨g, j * 10 + 3, none⟩ = some (.int .u8 r.S) ∧ w.cell? ⟨g, j * 10 + 4, none⟩ = some (.int .u8 r.SM) ∧
    w.cell? ⟨g, j * 10 + 5, none⟩ = some (.int .u8 r.V) ∧ w.cell? ⟨g, j * 10 + 6, none⟩ = some (.int .u8 r.VM) ∧ w.cell? ⟨g, j * 10 + 7, none⟩ = some (.int .u32 r.A) ∧ w.cell? ⟨g, j * 10 + 8, none⟩ = some (.int .u32 r.AM) ∧ w.cell? ⟨g, j * 10 + 9, none⟩ = some (.bool r.N) := by
  have c : ∀ i u, r.cs[i]? = some u → w.cell? ⟨g, j * 10 + i, none⟩ = some u := fun i u hu => (h.cell hj (by rw [hr]; exact hu)).1
  exact ⟨c 0 _ rfl, c 1 _ rfl, c 2 _ rfl, c 3 _ rfl, c 4 _ rfl, c 5 _ rfl, c 6 _ rfl, c 7 _ rfl, c 8 _ rfl, c 9 _ rfl⟩
theorem OwnR.lit {w : World} {g : Nat} {r : Rl} (hw : WdR r) (h : Blk w g r.ca 44) : OwnR w (.slice (some ⟨g, 0, none⟩) 1 1) [r] := by
  have h1 : RwR w g 1 [r] := ⟨⟨r.ca, h, rfl, Nat.le_refl _, by simp [maxLen], fun j hj i hi => by
    have hj0 : j = 0 := by simp at hj; omega
    subst hj0
    rw [Nat.zero_mul, Nat.zero_add]
    simp [Rl.ca, Rl.cs]⟩, by simpa using hw⟩
  exact h1.own
theorem RwG.at {w : World} {g cap : Nat} {L : List Rl} (h : RwG w g cap L) {j : Nat} (hj : j < L.length) {r : Rl} (hr : L.getD j dRl = r) :
    w.cell? ⟨g, j * 10, none⟩ = some (.int .i64 r.K) ∧ w.cell? ⟨g, j * 10 + 1, none⟩ = some (.int .u32 r.I) ∧ w.cell? ⟨g, j * 10 + 2, none⟩ = some (.int .u32 r.IM) ∧ w.cell? ⟨g, j * 10 + 3, none⟩ = some (.int .u8 r.S) ∧ w.cell? ⟨g, j * 10 + 4, none⟩ = some (.int .u8 r.SM) ∧
    w.cell? ⟨g, j * 10 + 5, none⟩ = some (.int .u8 r.V) ∧ w.cell? ⟨g, j * 10 + 6, none⟩ = some (.int .u8 r.VM) ∧ w.cell? ⟨g, j * 10 + 7, none⟩ = some (.int .u32 r.A) ∧ w.cell? ⟨g, j * 10 + 8, none⟩ = some (.int .u32 r.AM) ∧ w.cell? ⟨g, j * 10 + 9, none⟩ = some (.bool r.N) := by
  have c : ∀ i u, r.cs[i]? = some u → w.cell? ⟨g, j * 10 + i, none⟩ = some u := fun i u hu => (h.cell hj (by rw [hr]; exact hu)).1
  exact ⟨c 0 _ rfl, c 1 _ rfl, c 2 _ rfl, c 3 _ rfl, c 4 _ rfl, c 5 _ rfl, c 6 _ rfl, c 7 _ rfl, c 8 _ rfl, c 9 _ rfl⟩
theorem OwnG.lit {w : World} {g : Nat} {r : Rl} (hw : WdR r) (h : Blk w g r.ca 42) : OwnG w (.slice (some ⟨g, 0, none⟩) 1 1) [r] := by
  have h1 : RwG w g 1 [r] := ⟨⟨r.ca, h, rfl, Nat.le_refl _, by simp [maxLen], fun j hj i hi => by
    have hj0 : j = 0 := by simp at hj; omega
    subst hj0
    rw [Nat.zero_mul, Nat.zero_add]
    simp [Rl.ca, Rl.cs]⟩, by simpa using hw⟩
  exact h1.own
end Go.Proofs.YtaohmgklhecjbaaDoor
