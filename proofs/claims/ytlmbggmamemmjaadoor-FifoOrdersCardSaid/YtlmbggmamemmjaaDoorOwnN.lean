
/- Slices of ints and of 64-bit numbers of the own call, as lists of numbers: an append of one, a cell stored. Conditions: sizes below 2 to the 44. -/
import Derived.Test.YtlmbggmamemmjaaDoorGa
namespace Go.Proofs.YtlmbggmamemmjaaDoor
set_option linter.unusedVariables false
set_option linter.unusedSimpArgs false
open Go.RowKit

theorem infoN : (Tryd.prog.info? 3).map (fun i => (i.zero, i.size, i.bytes)) = some (some (.int .i64 0), 1, 8) := by kernel_rfl
def OwnN (w : World) (v : Value) (l : List Nat) : Prop := w.ownsRow 0 3 1 v l.length (l.map fun x : Nat => Value.int .i64 (x : Int))
theorem OwnN.nil (w : World) : OwnN w (.slice none 0 0) [] := World.ownsRow_nil _ _ _ _
theorem OwnN.keep {F : Nat → Prop} {w w' : World} {v : Value} {l : List Nat} (h : OwnN w v l) (hk : Kp F w w') (hn : ∀ g, v.ownBlock = some g → ¬ F g) : OwnN w' v l := by
  obtain ⟨h1, h2⟩ := h
  refine ⟨h1, ?_⟩
  rcases h2 with h2 | ⟨g, cap, cur, rfl, hb, hg, r⟩
  · exact .inl h2
  · exact .inr ⟨g, cap, cur, rfl, hb, (hk.block g (Array.getElem?_eq_some_iff.1 hg).1 (hn g rfl)).trans hg, r⟩
theorem OwnN.nb {w w' : World} {v : Value} {l : List Nat} (h : OwnN w v l) (hb : Nb w w') : OwnN w' v l := h.keep (F := fun _ => False) (Kp.ofNb hb) (by simp)
theorem OwnN.lt {w : World} {v : Value} {l : List Nat} (h : OwnN w v l) {g : Nat} (hg : v.ownBlock = some g) : g < w.heap.size := (World.ownsRow.lt h g hg).2
theorem OwnN.shape {w : World} {v : Value} {l : List Nat} (h : OwnN w v l) : ∃ a c, v = .slice a l.length c ∧ (0 < l.length → ∃ g, a = some ⟨g, 0, none⟩) ∧ l.length ≤ c ∧ c ≤ maxLen := by
  rcases h.2 with ⟨rfl, h2⟩ | ⟨g, cap, cur, rfl, hb, hg, hn, hc, r⟩
  · exact ⟨none, 0, by rw [h2], fun h => by omega, by omega, by simp [maxLen]⟩
  · exact ⟨_, cap, rfl, fun _ => ⟨g, rfl⟩, hn, hc⟩
theorem OwnN.cell {w : World} {g n cap : Nat} {l : List Nat} (h : OwnN w (.slice (some ⟨g, 0, none⟩) n cap) l) (k : Nat) (hk : k < l.length) : w.cell? ⟨g, k, none⟩ = some (.int .i64 ((l.getD k 0 : Nat) : Int)) := by
  have hc := World.ownsRow.cells h (g := g) rfl k (.int .i64 ((l.getD k 0 : Nat) : Int)) (by simp [List.getD, hk])
  rwa [Addr.add_lit, Nat.zero_add] at hc
theorem OwnN.frozen {w : World} {v : Value} {l : List Nat} (h : OwnN w v l) {g : Nat} (hg : v.ownBlock = some g) (j : Nat) : w.frozen? ⟨g, j, none⟩ = false := by
  rcases h.2 with ⟨rfl, h2⟩ | ⟨g', cap, cur, rfl, hb, hh, r⟩
  · simp [Value.ownBlock] at hg
  · simp [Value.ownBlock] at hg
    subst hg
    simp [World.frozen?, hh]
theorem OwnN.set {w : World} {g n cap : Nat} {l : List Nat} (h : OwnN w (.slice (some ⟨g, 0, none⟩) n cap) l) (j : Nat) (hj : j < l.length) (y : Nat) : OwnN (w.setCell ⟨g, j, none⟩ (.int .i64 (y : Int))) (.slice (some ⟨g, 0, none⟩) n cap) (l.set j y) := by
  obtain ⟨h1, h2⟩ := h
  refine ⟨by simp, ?_⟩
  rcases h2 with ⟨h2, _⟩ | ⟨g', cap', cur, hv, hb, hh, hn, hm, hs, ht⟩
  · cases h2
  · simp only [Value.slice.injEq, Option.some.injEq, Addr.mk.injEq, and_true] at hv
    obtain ⟨rfl, rfl, rfl⟩ := hv
    refine .inr ⟨g, cap, cur.setIfInBounds j (.int .i64 (y : Int)), by simp, hb, by simp [World.setCell, Array.getElem?_modify, hh], by simpa using hn, hm, by simpa using hs, ?_⟩
    rw [Nat.mul_one] at ht
    rw [List.length_set, Nat.mul_one, Array.toList_setIfInBounds, List.take_set, ht, List.map_set]
def lenS : Value → Nat
  | .slice _ n _ => n
  | _ => 0
/-- Places as an answer. -/
def AnsN (w : World) (l : List Nat) (er : Nat) (e : Ending) (w' : World) : Prop := ∃ v, e = .returned (.tuple #[v, .int .i64 (er : Nat)]) ∧ OwnN w' v l ∧ ∀ g, v.ownBlock = some g → w.heap.size ≤ g
end Go.Proofs.YtlmbggmamemmjaaDoor
