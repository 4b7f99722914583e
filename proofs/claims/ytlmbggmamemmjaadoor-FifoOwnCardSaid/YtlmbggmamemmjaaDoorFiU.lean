
/- Rows of frames whose bytes are stored into one by one (FifoOwn). No conditions. -/
import Derived.Test.YtlmbggmamemmjaaDoorFiX
namespace Go.Proofs.YtlmbggmamemmjaaDoor
set_option linter.unusedVariables false
set_option linter.unusedSimpArgs false
open Go.RowKit

theorem Kp.cell {F : Nat → Prop} {w w' : World} {b i : Nat} {u : Value} (hk : Kp F w w') (hn : ¬ F b) (h : w.cell? ⟨b, i, none⟩ = some u) : w'.cell? ⟨b, i, none⟩ = some u := by
  have e := hk.block b (World.block_lt_of_cell? _ _ h) hn
  rw [← h]
  simp only [World.cell?, e]
/-- A byte is stored somewhere where a byte is. -/
theorem MutS.store {w : World} {a : Option Addr} {c n : Nat} {X : Nat → Prop} (h : MutS w a c n X) {b o : Nat} {x y : Nat} (hc : w.cell? ⟨b, o, none⟩ = some (.int .u8 (x : Nat))) (hy : y < 256) : MutS (w.setCell ⟨b, o, none⟩ (.int .u8 (y : Nat))) a c n X := by
  by_cases h0 : 0 < n
  · obtain ⟨b', o', z, rfl, hX, hnc, hcm, _⟩ := h.at h0
    by_cases hh : b' = b ∧ o' ≤ o ∧ o < o' + n
    · obtain ⟨rfl, h1, h2⟩ := hh
      obtain ⟨b2, o2, z2, e, _, _, _, _, _, _, _, hput⟩ := h.at (k := o - o') (by omega)
      simp only [Option.some.injEq, Addr.mk.injEq, and_true] at e
      obtain ⟨rfl, rfl⟩ := e
      have := hput y hy
      rwa [show o' + (o - o') = o by omega] at this
    · obtain ⟨m, rfl, hb, hf⟩ := h
      refine ⟨m, rfl, ⟨hb.hcap, hb.hmax, hb.hbyte, fun hl => ?_⟩, fun b1 o1 t e hl => ⟨(hf b1 o1 t e hl).1, fun i => by rw [World.frozen?_setCell]; exact (hf b1 o1 t e hl).2 i⟩⟩
      obtain ⟨b1, o1, e, hcl⟩ := hb.hcells hl
      simp only [Option.some.injEq, Addr.mk.injEq, and_true] at e
      obtain ⟨rfl, rfl⟩ := e
      refine ⟨b', o', rfl, fun j hj => ?_⟩
      rw [World.cell?_setCell_other _ _ _ _ (fun e => by (simp at e) <;> omega)]
      exact hcl j hj
  · obtain ⟨m, rfl, hb, hf⟩ := h
    exact ⟨m, rfl, ⟨hb.hcap, hb.hmax, hb.hbyte, fun hl => (h0 hl).elim⟩, fun b1 o1 t e hl => (h0 hl).elim⟩
/-- Rows of frames, their bytes whatever they are. -/
def FrM (w : World) (b o : Nat) (fs : List (Hd × List Nat)) (P : Nat → Prop) : Prop := ∀ j, j < fs.length → ∃ a' c', (∀ i, i < 11 → w.cell? ⟨b, o + j * 11 + i, none⟩ = (csL (fs.getD j dF).1 (.slice a' (fs.getD j dF).2.length c'))[i]?) ∧ MutS w a' c' (fs.getD j dF).2.length P
theorem FrP2.mut {w : World} {a : Option Addr} {cap : Nat} {fs : List (Hd × List Nat)} {B P : Nat → Prop} (h : FrP2 w a cap fs B P) (h0 : 0 < fs.length) : ∃ b o, a = some ⟨b, o, none⟩ ∧ B b ∧ FrM w b o fs P := by
  obtain ⟨b, o, rfl, hb, hc⟩ := h.hcells h0
  refine ⟨b, o, rfl, hb, fun j hj => ?_⟩
  obtain ⟨a', c', h1, h2⟩ := hc j hj
  exact ⟨a', c', h1, h2.mut⟩
theorem FrM.keep {F P : Nat → Prop} {w w' : World} {b o : Nat} {fs : List (Hd × List Nat)} (h : FrM w b o fs P) (hk : Kp F w w') (hb : ¬ F b) (hn : ∀ k, P k → ¬ F k) : FrM w' b o fs P := fun j hj => by
  obtain ⟨a', c', h1, h2⟩ := h j hj
  refine ⟨a', c', fun i hi => ?_, h2.keep hk hn⟩
  have q := h1 i hi
  have hl : i < (csL (fs.getD j dF).1 (.slice a' (fs.getD j dF).2.length c')).length := hi
  rw [List.getElem?_eq_getElem hl] at q ⊢
  have e := hk.block b (World.block_lt_of_cell? _ _ q) hb
  rw [← q]
  simp only [World.cell?, e]
theorem FrM.store {P : Nat → Prop} {w : World} {b o : Nat} {fs : List (Hd × List Nat)} (h : FrM w b o fs P) {b' o' x y : Nat} (hc : w.cell? ⟨b', o', none⟩ = some (.int .u8 (x : Nat))) (hb : b ≠ b') (hy : y < 256) : FrM (w.setCell ⟨b', o', none⟩ (.int .u8 (y : Nat))) b o fs P := fun j hj => by
  obtain ⟨a', c', h1, h2⟩ := h j hj
  refine ⟨a', c', fun i hi => ?_, h2.store hc hy⟩
  rw [World.cell?_setCell_other _ _ _ _ (fun e => by (simp at e) <;> omega)]
  exact h1 i hi
/-- The cells of one. -/
theorem FrM.at {w : World} {b o : Nat} {fs : List (Hd × List Nat)} {P : Nat → Prop} (h : FrM w b o fs P) {j : Nat} (hj : j < fs.length) {K I : Int} {X R B E S : Bool} {D V A : Int} {l : List Nat} (hf : fs.getD j dF = (⟨K, I, X, R, B, E, S, D, V, A⟩, l)) :
    ∃ a' c', (w.cell? ⟨b, o + j * 11, none⟩ = some (.int .i64 K) ∧ w.cell? ⟨b, o + j * 11 + 1, none⟩ = some (.int .u32 I) ∧ w.cell? ⟨b, o + j * 11 + 2, none⟩ = some (.bool X) ∧ w.cell? ⟨b, o + j * 11 + 3, none⟩ = some (.bool R) ∧ w.cell? ⟨b, o + j * 11 + 4, none⟩ = some (.bool B) ∧ w.cell? ⟨b, o + j * 11 + 5, none⟩ = some (.bool E) ∧ w.cell? ⟨b, o + j * 11 + 6, none⟩ = some (.bool S) ∧ w.cell? ⟨b, o + j * 11 + 7, none⟩ = some (.int .u8 D) ∧ w.cell? ⟨b, o + j * 11 + 8, none⟩ = some (.int .u8 V) ∧ w.cell? ⟨b, o + j * 11 + 9, none⟩ = some (.int .u32 A) ∧ w.cell? ⟨b, o + j * 11 + 10, none⟩ = some (.slice a' l.length c')) ∧ MutS w a' c' l.length P := by
  obtain ⟨a', c', h1, h2⟩ := h j hj
  rw [hf] at h1 h2
  exact ⟨a', c', ⟨h1 0 (by omega), h1 1 (by omega), h1 2 (by omega), h1 3 (by omega), h1 4 (by omega), h1 5 (by omega), h1 6 (by omega), h1 7 (by omega), h1 8 (by omega), h1 9 (by omega), h1 10 (by omega)⟩, h2⟩
end Go.Proofs.YtlmbggmamemmjaaDoor
