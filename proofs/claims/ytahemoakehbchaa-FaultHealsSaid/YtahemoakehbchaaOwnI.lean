
/- Slices of ints of the call's own: an append of one. Conditions: sizes below 2 to the 44. -/
import Derived.Test.YtahemoakehbchaaFre
namespace Go.Proofs.Ytahemoakehbchaa
set_option linter.unusedVariables false
set_option linter.unusedSimpArgs false
open Go.RowKit

theorem infoI64 : (Try.prog.info? 3).map (fun i => (i.zero, i.size, i.bytes)) = some (some (.int .i64 0), 1, 8) := by kernel_rfl
/-- A slice of ints that is the call's own. -/
def OwnI (w : World) (v : Value) (l : List Int) : Prop := w.ownsRow 0 3 1 v l.length (l.map fun x : Int => Value.int .i64 x)
theorem OwnI.nil (w : World) : OwnI w (.slice none 0 0) [] := World.ownsRow_nil _ _ _ _
theorem OwnI.keep {F : Nat → Prop} {w w' : World} {v : Value} {l : List Int} (h : OwnI w v l) (hk : Kp F w w') (hn : ∀ g, v.ownBlock = some g → ¬ F g) : OwnI w' v l := by
  obtain ⟨h1, h2⟩ := h
  refine ⟨h1, ?_⟩
  rcases h2 with h2 | ⟨g, cap, cur, rfl, hb, hg, r⟩
  · exact .inl h2
  · exact .inr ⟨g, cap, cur, rfl, hb, (hk.block g (Array.getElem?_eq_some_iff.1 hg).1 (hn g rfl)).trans hg, r⟩
theorem OwnI.lt {w : World} {v : Value} {l : List Int} (h : OwnI w v l) {g : Nat} (hg : v.ownBlock = some g) : g < w.heap.size := (World.ownsRow.lt h g hg).2
theorem OwnI.shape {w : World} {v : Value} {l : List Int} (h : OwnI w v l) : ∃ a c, v = .slice a l.length c ∧ (0 < l.length → ∃ g, a = some ⟨g, 0, none⟩) ∧ l.length ≤ c ∧ c ≤ maxLen := by
  rcases h.2 with ⟨rfl, h2⟩ | ⟨g, cap, cur, rfl, hb, hg, hn, hc, r⟩
  · exact ⟨none, 0, by rw [h2], fun h => by omega, by omega, by simp [maxLen]⟩
  · exact ⟨_, cap, rfl, fun _ => ⟨g, rfl⟩, hn, hc⟩
theorem OwnI.cell {w : World} {g n cap : Nat} {l : List Int} (h : OwnI w (.slice (some ⟨g, 0, none⟩) n cap) l) (k : Nat) (hk : k < l.length) : w.cell? ⟨g, k, none⟩ = some (.int .i64 (l.getD k 0)) := by
  have hc := World.ownsRow.cells h (g := g) rfl k (.int .i64 (l.getD k 0)) (by simp [List.getD, hk])
  rwa [Addr.add_lit, Nat.zero_add] at hc

theorem getD_cast (ps : List Nat) (j : Nat) : (ps.map fun z : Nat => (z : Int)).getD j 0 = ((ps.getD j 0 : Nat) : Int) := by
  simp only [List.getD, List.getElem?_map]
  cases ps[j]? <;> rfl
/-- One int onto a slice of ints of the call's own. -/
theorem wpList_appI (w : World) {ops : Array Oper} {rest : List Oper} {o : Oper} {a : Act} {Q : Exit → Act → World → Prop}
    (hg : o.guard = none) (s x : Operand) (hop : o.op = Op.call { callee := Callee.builtin Builtin.append, args := #[s, x], argTypes := #[37, 37] })
    (v : Value) (l : List Int) (hs : a.eval s = v) (hown : OwnI w v l)
    (b : Nat) (y : Int) (hx : a.eval x = .slice (some ⟨b, 0, none⟩) 1 1) (hb : w.cell? ⟨b, 0, none⟩ = some (.int .i64 y))
    (b1 : l.length + 1 ≤ 17592186044416)
    (hK : ∀ v' w', OwnI w' v' (l ++ [y]) → Kp (fun k => v.ownBlock = some k) w w' → (∀ g, v'.ownBlock = some g → v.ownBlock = some g ∨ w.heap.size ≤ g) → wpList Try.prog ops Q rest (a.put o.dst v') w') :
    wpList Try.prog ops Q (o :: rest) a w := by
  obtain ⟨i0, hi, hz0, hz1, hz2⟩ := info_parts infoI64
  refine wpList_app w hg s x 37 hop 3 i0 (.int .i64 0) 1 8 Try.underlying37 hi hz0 hz1 hz2 rfl (by decide) v l.length _ hs hown (some ⟨b, 0, none⟩) 1 1 [.int .i64 y] hx rfl (fun h => by cases h) ?_ ?_ (by unfold maxLen; omega) (by omega) ?_
  · intro ad had j u hu
    obtain rfl := Option.some.inj had
    cases j with
    | zero => simp at hu; subst hu; simpa [Addr.add] using hb
    | succ j => simp at hu
  · intro u hu
    simp at hu
    subst hu
    rfl
  · intro v' w' ho hgr hbl
    exact hK v' w' (by simpa [OwnI] using ho) (Kp.grown hgr (fun k hk => hk)) hbl
end Go.Proofs.Ytahemoakehbchaa
