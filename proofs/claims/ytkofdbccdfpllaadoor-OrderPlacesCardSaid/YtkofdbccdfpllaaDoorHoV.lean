
/- Rows of what waits in a heap, in memory: appended to, read, stored into. No conditions. -/
import Derived.Test.YtkofdbccdfpllaaDoorGha
import Derived.Test.YtkofdbccdfpllaaDoorBks
import Derived.Deep.MidRow
namespace Go.Proofs.YtkofdbccdfpllaaDoor
set_option linter.unusedVariables false
set_option linter.unusedSimpArgs false
open Go.RowKit

/-- One that waits: its key, and its place. -/
def enP (p : Nat × Nat) : List Value := [.int .u64 (p.1 : Nat), .int .i64 (p.2 : Nat)]
theorem enP_one (p : Nat × Nat) (u : Value) (hu : u ∈ enP p) : u.oneCell' = true := by
  simp [enP] at hu
  rcases hu with rfl | rfl <;> rfl
theorem enP_len (p : Nat × Nat) : (enP p).length = 2 := rfl
def cellsP (l : List (Nat × Nat)) : List Value := l.flatMap enP
theorem cellsP_len (l : List (Nat × Nat)) : (cellsP l).length = l.length * 2 := by
  induction l with
  | nil => rfl
  | cons p l ih =>
    show (enP p ++ cellsP l).length = _
    rw [List.length_append, enP_len, ih, List.length_cons]
    omega
theorem cellsP_app (l m : List (Nat × Nat)) : cellsP (l ++ m) = cellsP l ++ cellsP m := by simp [cellsP]
theorem cellsP_get (l : List (Nat × Nat)) : ∀ j, j < l.length → ∀ i, i < 2 → (cellsP l)[j * 2 + i]? = (enP (l.getD j d0))[i]? := by
  induction l with
  | nil => intro j h; simp at h
  | cons p l ih =>
    intro j h i hi
    have e : cellsP (p :: l) = enP p ++ cellsP l := rfl
    rw [e]
    cases j with
    | zero =>
      rw [List.getElem?_append_left (by rw [enP_len]; omega), Nat.zero_mul, Nat.zero_add]
      rfl
    | succ j =>
      rw [List.getElem?_append_right (by rw [enP_len]; omega), enP_len, show (j + 1) * 2 + i - 2 = j * 2 + i by omega]
      exact ih j (by simpa using h) i hi
theorem cellsP_one (l : List (Nat × Nat)) (u : Value) (hu : u ∈ cellsP l) : u.oneCell' = true := by
  obtain ⟨p, hp, hm⟩ := List.mem_flatMap.1 hu
  exact enP_one p u hm
theorem infoHP : (Tryd.prog.info? 48).map (fun i => (i.zero, i.size, i.bytes)) = some (some (.agg #[.int .u64 0, .int .i64 0]), 2, 16) := by kernel_rfl
def OwnP (w : World) (v : Value) (l : List (Nat × Nat)) : Prop := w.ownsRow 0 48 2 v l.length (cellsP l)
theorem OwnP.nil (w : World) : OwnP w (.slice none 0 0) [] := World.ownsRow_nil _ _ _ _
theorem OwnP.keep {F : Nat → Prop} {w w' : World} {v : Value} {l : List (Nat × Nat)} (h : OwnP w v l) (hk : Kp F w w') (hn : ∀ g, v.ownBlock = some g → ¬ F g) : OwnP w' v l := by
  obtain ⟨h1, h2⟩ := h
  refine ⟨h1, ?_⟩
  rcases h2 with h2 | ⟨g, cap, cur, rfl, hb, hg, r⟩
  · exact .inl h2
  · exact .inr ⟨g, cap, cur, rfl, hb, (hk.block g (Array.getElem?_eq_some_iff.1 hg).1 (hn g rfl)).trans hg, r⟩
theorem OwnP.nb {w w' : World} {v : Value} {l : List (Nat × Nat)} (h : OwnP w v l) (hb : Nb w w') : OwnP w' v l := h.keep (F := fun _ => False) (Kp.ofNb hb) (by simp)
theorem OwnP.lt {w : World} {v : Value} {l : List (Nat × Nat)} (h : OwnP w v l) {g : Nat} (hg : v.ownBlock = some g) : g < w.heap.size := (World.ownsRow.lt h g hg).2
theorem OwnP.shape {w : World} {v : Value} {l : List (Nat × Nat)} (h : OwnP w v l) : ∃ a cap, v = .slice a l.length cap ∧ (0 < l.length → ∃ g, a = some ⟨g, 0, none⟩) ∧ l.length ≤ cap ∧ cap ≤ maxLen := by
  rcases h.2 with ⟨rfl, h2⟩ | ⟨g, cap, cur, rfl, hb, hg, hn, hc, r⟩
  · exact ⟨none, 0, by rw [h2], fun h => by omega, by omega, by simp [maxLen]⟩
  · exact ⟨_, cap, rfl, fun _ => ⟨g, rfl⟩, hn, hc⟩
/-- Some more. -/
theorem wpList_appHP (w : World) {ops : Array Oper} {rest : List Oper} {o : Oper} {a : Act} {Q : Exit → Act → World → Prop}
    (hg : o.guard = none) (s x : Operand) (hop : o.op = Op.call { callee := Callee.builtin Builtin.append, args := #[s, x], argTypes := #[38, 38] })
    (v : Value) (l : List (Nat × Nat)) (hs : a.eval s = v) (hown : OwnP w v l)
    (b : Nat) (e : Nat × Nat) (hx : a.eval x = .slice (some ⟨b, 0, none⟩) 1 1) (hc : ∀ j u, (enP e)[j]? = some u → w.cell? ⟨b, j, none⟩ = some u) (b1 : l.length + 1 ≤ 1000000)
    (hK : ∀ v' w', OwnP w' v' (l ++ [e]) → Kp (fun k => v.ownBlock = some k) w w' → (∀ g, v'.ownBlock = some g → v.ownBlock = some g ∨ w.heap.size ≤ g) → wpList Tryd.prog ops Q rest (a.put o.dst v') w') :
    wpList Tryd.prog ops Q (o :: rest) a w := by
  obtain ⟨i0, hi, hz0, hz1, hz2⟩ := info_parts infoHP
  refine wpList_app w hg s x 38 hop 48 i0 (.agg #[.int .u64 0, .int .i64 0]) 2 16 Tryd.underlying38 hi hz0 hz1 hz2 rfl (by decide) v l.length _ hs hown (some ⟨b, 0, none⟩) 1 1 (cellsP [e]) hx (cellsP_len [e]) (fun h => by cases h) (fun ad had j u hu => ?_) ?_ (by unfold maxLen; omega) (by omega) ?_
  · obtain rfl := Option.some.inj had
    rw [Addr.add_lit, Nat.zero_add]
    exact hc j u (by simpa [cellsP] using hu)
  · exact fun u hu => cellsP_one [e] u hu 
  · intro v' w' ho hgr hbl
    exact hK v' w' (by simpa [OwnP, cellsP_app] using ho) (Kp.grown hgr (fun k hk => hk)) hbl
/-- Block g holds so many, with so much room. -/
def RwP (w : World) (g cap : Nat) (l : List (Nat × Nat)) : Prop := ∃ cs, Blk w g cs 48 ∧ cs.size = cap * 2 ∧ l.length ≤ cap ∧ cap ≤ maxLen ∧ ∀ j, j < l.length → ∀ i, i < 2 → cs[j * 2 + i]? = (enP (l.getD j d0))[i]?
theorem OwnP.rw {w : World} {g n cap : Nat} {l : List (Nat × Nat)} (h : OwnP w (.slice (some ⟨g, 0, none⟩) n cap) l) : n = l.length ∧ RwP w g cap l := by
  rcases h.2 with ⟨h0, h2⟩ | ⟨g', cap', cur, hv, hb0, hg, hn, hc, hs, ht⟩
  · cases h0
  · simp only [Value.slice.injEq, Option.some.injEq, Addr.mk.injEq, and_true] at hv
    obtain ⟨rfl, rfl, rfl⟩ := hv
    refine ⟨rfl, cur, hg, hs, hn, hc, fun j hj i hi => ?_⟩
    rw [← cellsP_get l j hj i hi, ← ht, List.getElem?_take_of_lt (by omega), Array.getElem?_toList]
theorem RwP.own {w : World} {g cap : Nat} {l : List (Nat × Nat)} (h : RwP w g cap l) : OwnP w (.slice (some ⟨g, 0, none⟩) l.length cap) l := by
  obtain ⟨cs, hb, hs, h1, h2, hc⟩ := h
  refine ⟨cellsP_len l, .inr ⟨g, cap, cs, rfl, Nat.zero_le _, hb, h1, h2, hs, ?_⟩⟩
  apply List.ext_getElem?
  intro k
  by_cases hk : k < l.length * 2
  · rw [List.getElem?_take_of_lt hk, Array.getElem?_toList]
    have e : k = k / 2 * 2 + k % 2 := by omega
    rw [e, hc (k / 2) (by omega) (k % 2) (by omega), cellsP_get l (k / 2) (by omega) (k % 2) (by omega)]
  · rw [List.getElem?_take_eq_none (by omega), List.getElem?_eq_none (by rw [cellsP_len]; omega)]
theorem RwP.keep {F : Nat → Prop} {w w' : World} {g cap : Nat} {l : List (Nat × Nat)} (h : RwP w g cap l) (hk : Kp F w w') (hn : ¬ F g) : RwP w' g cap l := by
  obtain ⟨cs, hb, h1⟩ := h
  exact ⟨cs, hb.keep hk hn, h1⟩
theorem RwP.nb {w w' : World} {g cap : Nat} {l : List (Nat × Nat)} (h : RwP w g cap l) (hb : Nb w w') : RwP w' g cap l := h.keep (F := fun _ => False) (Kp.ofNb hb) (by simp)
theorem RwP.lt {w : World} {g cap : Nat} {l : List (Nat × Nat)} (h : RwP w g cap l) : g < w.heap.size := by
  obtain ⟨cs, hb, _⟩ := h
  exact hb.lt
theorem RwP.cell {w : World} {g cap : Nat} {l : List (Nat × Nat)} (h : RwP w g cap l) {j : Nat} (hj : j < l.length) {i : Nat} {u : Value} (hu : (enP (l.getD j d0))[i]? = some u) : w.cell? ⟨g, j * 2 + i, none⟩ = some u ∧ w.frozen? ⟨g, j * 2 + i, none⟩ = false := by
  obtain ⟨cs, hb, _, _, _, hc⟩ := h
  have hi : i < 2 := by
    have := (List.getElem?_eq_some_iff.1 hu).1
    rw [enP_len] at this
    exact this
  exact ⟨(hb.cell _).trans ((hc j hj i hi).trans hu), hb.frozen _⟩
theorem RwP.put {w : World} {g cap : Nat} {l : List (Nat × Nat)} (h : RwP w g cap l) {j : Nat} (hj : j < l.length) (e : Nat × Nat) : RwP (w.setCells g (j * 2) (enP e)) g cap (l.set j e) := by
  obtain ⟨cs, hb, h1, h2, h3, h4⟩ := h
  obtain ⟨cs', b1, b2, b3, b4⟩ := Blk.sets (enP e) (j * 2) w cs hb
  rw [enP_len] at b3 b4
  refine ⟨cs', b1, by rw [b2]; exact h1, by rw [List.length_set]; exact h2, h3, fun k hk i hi => ?_⟩
  rw [List.length_set] at hk
  by_cases hjk : j = k
  · subst hjk
    rw [b3 i hi (by omega), show (l.set j e).getD j d0 = e by simp [List.getD, hj]]
  · rw [b4 (k * 2 + i) (by omega), h4 k hk i hi, show (l.set j e).getD k d0 = l.getD k d0 by simp [List.getD, List.getElem?_set_ne hjk]]
/-- Fewer, and whatever lies behind them. -/
theorem RwP.less {w : World} {g cap : Nat} {l : List (Nat × Nat)} (h : RwP w g cap l) (n : Nat) : RwP w g cap (l.take n) := by
  obtain ⟨cs, hb, h1, h2, h3, h4⟩ := h
  refine ⟨cs, hb, h1, by rw [List.length_take]; omega, h3, fun j hj i hi => ?_⟩
  rw [List.length_take] at hj
  rw [show (l.take n).getD j d0 = l.getD j d0 by simp [List.getD, show j < n by omega]]
  exact h4 j (by omega) i hi
theorem RwP.behind {w : World} {g cap n : Nat} {l : List (Nat × Nat)} (h : RwP w g cap l) (hn : n < l.length) (vs : List Value) (hv : vs.length = 2) : RwP (w.setCells g (n * 2) vs) g cap (l.take n) := by
  obtain ⟨cs, hb, h1, h2, h3, h4⟩ := h
  obtain ⟨cs', b1, b2, b3, b4⟩ := Blk.sets vs (n * 2) w cs hb
  rw [hv] at b3 b4
  refine ⟨cs', b1, by rw [b2]; exact h1, by rw [List.length_take]; omega, h3, fun j hj i hi => ?_⟩
  rw [List.length_take] at hj
  rw [b4 (j * 2 + i) (by omega), show (l.take n).getD j d0 = l.getD j d0 by simp [List.getD, show j < n by omega]]
  exact h4 j (by omega) i hi
end Go.Proofs.YtkofdbccdfpllaaDoor
