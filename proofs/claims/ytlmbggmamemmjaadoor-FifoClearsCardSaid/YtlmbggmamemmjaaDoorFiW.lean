
/- Two fifos apart from each other (FifoClears). Condition: the tables hold what the program's text lays there. -/
import Derived.Test.YtlmbggmamemmjaaDoorFiX
namespace Go.Proofs.YtlmbggmamemmjaaDoor
set_option linter.unusedVariables false
set_option linter.unusedSimpArgs false
open Go.RowKit

/-- Two fifos that are new since w, apart from each other and from X. -/
def TwoF (w wr : World) (v v' : Value) (q o : Fi) (X : Nat → Prop) : Prop := ∃ F G, FiAt wr v q F ∧ FiAt wr v' o G ∧ (∀ k, F k → w.heap.size ≤ k ∧ ¬ G k ∧ ¬ X k) ∧ (∀ k, G k → w.heap.size ≤ k ∧ ¬ X k) ∧ (∀ k, X k → k < wr.heap.size) ∧ Nb w wr
theorem TwoF.swap {w wr : World} {v v' : Value} {q o : Fi} {X : Nat → Prop} (h : TwoF w wr v v' q o X) : TwoF w wr v' v o q X := by
  obtain ⟨F, G, h1, h2, h3, h4, h5, h6⟩ := h
  exact ⟨G, F, h2, h1, fun k hk => ⟨(h4 k hk).1, fun hf => (h3 k hf).2.1 hk, (h4 k hk).2⟩, fun k hk => ⟨(h3 k hk).1, (h3 k hk).2.2⟩, h5, h6⟩
theorem TwoF.nb {w wr : World} {v v' : Value} {q o : Fi} {X : Nat → Prop} (h : TwoF w wr v v' q o X) : Nb w wr := by
  obtain ⟨F, G, h1, h2, h3, h4, h5, h6⟩ := h
  exact h6
theorem TwoF.fix {w wr : World} {v v' : Value} {q o : Fi} {X : Nat → Prop} (h : TwoF w wr v v' q o X) : ∃ G, FiX w wr v q (fun k => X k ∨ G k) ∧ FiAt wr v' o G ∧ ∀ k, G k → w.heap.size ≤ k ∧ ¬ X k := by
  obtain ⟨F, G, h1, h2, h3, h4, h5, h6⟩ := h
  refine ⟨G, ⟨F, h1, fun k hk => ⟨(h3 k hk).1, fun q => ?_⟩, fun k hk => ?_, h6⟩, h2, h4⟩
  · rcases q with q | q
    · exact (h3 k hk).2.2 q
    · exact (h3 k hk).2.1 q
  · rcases hk with q | q
    · exact h5 k q
    · exact fi_lt h2 k q
theorem FiX.two {w wr w2 : World} {v v' : Value} {q o : Fi} {X G K : Nat → Prop} (h : FiX w w2 v q (fun k => X k ∨ G k)) (hk : Kp K wr w2) (hK : ∀ k, G k → ¬ K k) (ho : FiAt wr v' o G) (hG : ∀ k, G k → w.heap.size ≤ k ∧ ¬ X k) : TwoF w w2 v v' q o X := by
  obtain ⟨F, h1, h2, h3, h4⟩ := h
  exact ⟨F, G, h1, fi_keep ho hk hK, fun k hk => ⟨(h2 k hk).1, fun q => (h2 k hk).2 (.inr q), fun q => (h2 k hk).2 (.inl q)⟩, hG, fun k q => h3 k (.inl q), h4⟩
theorem TwoF.keep {w wr w2 : World} {v v' : Value} {q o : Fi} {X : Nat → Prop} (h : TwoF w wr v v' q o X) (hb : Nb wr w2) : TwoF w w2 v v' q o X := by
  obtain ⟨G, h1, h2, h3⟩ := h.fix
  exact (h1.keep hb).two (Kp.ofNb (F := fun _ => False) hb) (fun _ _ h => h) h2 h3
theorem TwoF.less {w wr : World} {v v' : Value} {q o : Fi} {X Y : Nat → Prop} (h : TwoF w wr v v' q o X) (hY : ∀ k, Y k → X k) : TwoF w wr v v' q o Y := by
  obtain ⟨F, G, h1, h2, h3, h4, h5, h6⟩ := h
  exact ⟨F, G, h1, h2, fun k hk => ⟨(h3 k hk).1, (h3 k hk).2.1, fun q => (h3 k hk).2.2 (hY k q)⟩, fun k hk => ⟨(h4 k hk).1, fun q => (h4 k hk).2 (hY k q)⟩, fun k hk => h5 k (hY k hk), h6⟩
theorem TwoF.add {w wr w2 : World} {v v' : Value} {q o : Fi} {X Y : Nat → Prop} (h : TwoF w wr v v' q o X) (hb : Nb wr w2) (hY : ∀ k, Y k → wr.heap.size ≤ k ∧ k < w2.heap.size) : TwoF w w2 v v' q o (fun k => X k ∨ Y k) := by
  obtain ⟨F, G, h1, h2, h3, h4, h5, h6⟩ := h
  refine ⟨F, G, fi_keep h1 (Kp.ofNb (F := fun _ => False) hb) (by simp), fi_keep h2 (Kp.ofNb (F := fun _ => False) hb) (by simp), fun k hk => ⟨(h3 k hk).1, (h3 k hk).2.1, fun q => ?_⟩, fun k hk => ⟨(h4 k hk).1, fun q => ?_⟩, fun k hk => ?_, h6.tr hb⟩
  · rcases q with q | q
    · exact (h3 k hk).2.2 q
    · have := fi_lt h1 k hk
      have := (hY k q).1
      omega
  · rcases q with q | q
    · exact (h4 k hk).2 q
    · have := fi_lt h2 k hk
      have := (hY k q).1
      omega
  · rcases hk with q | q
    · exact Nat.lt_of_lt_of_le (h5 k q) hb.size
    · exact (hY k q).2
theorem TwoF.addB {w w1 : World} {v v' : Value} {q o : Fi} {X : Nat → Prop} (h : TwoF w w1 v v' q o X) (cs : Array Value) (t : TypeId) : TwoF w (w1.alloc (.cells cs t)) v v' q o (fun k => X k ∨ k = w1.heap.size) :=
  h.add (Nb.rfl.al _) (fun k hk => by
    subst hk
    exact ⟨Nat.le_refl _, by rw [World.size_alloc]; omega⟩)
theorem TwoF.push {w wr : World} {v v' : Value} {q o : Fi} {X : Nat → Prop} (f : Hd) (a : Option Addr) (cap : Nat) (l : List Nat) (h : TwoF w wr v v' q o X) (hB : Longer wr) (hbs : Bs wr a cap l) (hov : q.over ≤ 1000000) :
    Calls Tryd.prog 17 #[v, .agg (f.cs (.slice a l.length cap))] wr fun e w2 => ∃ K, e = .returned (.tuple #[.bool (q.pushB f l), .int .i64 (checkN f l : Nat)]) ∧ Kp K wr w2 ∧ (∀ k, X k → ¬ K k) ∧ TwoF w w2 v v' (q.push f l) o X := by
  obtain ⟨G, h1, h2, h3⟩ := h.fix
  refine (h1.push f a cap l hB hbs hov).mono ?_
  rintro e w2 ⟨K, rfl, g1, g2, _, g4⟩
  exact ⟨K, rfl, g1, fun k hk => g2 k (.inl hk), g4.two g1 (fun k hk => g2 k (.inr hk)) h2 h3⟩
theorem TwoF.all {w wr : World} {v v' : Value} {q o : Fi} {X : Nat → Prop} (h : TwoF w wr v v' q o X) :
    Calls Tryd.prog 21 #[v] wr fun e w2 => ∃ a c P, e = .returned (.slice a q.its.length c) ∧ FrP w2 a c q.its P ∧ (∀ k, P k → wr.heap.size ≤ k ∧ k < w2.heap.size) ∧ Nb wr w2 ∧ TwoF w w2 v v' q o (fun k => X k ∨ P k) := by
  obtain ⟨G, h1, _⟩ := h.fix
  refine h1.all.mono ?_
  rintro e w2 ⟨a, c, P, rfl, g1, g2, g3, _⟩
  exact ⟨a, c, P, rfl, g1, g2, g3, h.add g3 g2⟩
theorem TwoF.clear {w wr : World} {v v' : Value} {q o : Fi} {X : Nat → Prop} (h : TwoF w wr v v' q o X) :
    Calls Tryd.prog 16 #[v] wr fun e w2 => ∃ a c P K, e = .returned (.slice a q.its.length c) ∧ FrP w2 a c q.its P ∧ Kp K wr w2 ∧ (∀ k, X k → ¬ K k) ∧ TwoF w w2 v v' q.clear o X := by
  obtain ⟨G, h1, h2, h3⟩ := h.fix
  refine h1.clear.mono ?_
  rintro e w2 ⟨a, c, P, K, rfl, g1, _, g3, g4, _, g6, _⟩
  exact ⟨a, c, P, K, rfl, g1, g3, fun k hk => g4 k (.inl hk), (g6.less (Y := fun k => X k ∨ G k) (fun k hk => .inl hk)).two g3 (fun k hk => g4 k (.inr hk)) h2 h3⟩
theorem TwoF.len {w wr : World} {v v' : Value} {q o : Fi} {X : Nat → Prop} (h : TwoF w wr v v' q o X) :
    Calls Tryd.prog 19 #[v] wr fun e w2 => e = .returned (.int .i64 (q.its.length : Nat)) ∧ Nb wr w2 := by
  obtain ⟨G, h1, _⟩ := h.fix
  exact h1.len
theorem TwoF.over {w wr : World} {v v' : Value} {q o : Fi} {X : Nat → Prop} (h : TwoF w wr v v' q o X) :
    Calls Tryd.prog 20 #[v] wr fun e w2 => e = .returned (.int .i64 (q.over : Nat)) ∧ Nb wr w2 := by
  obtain ⟨G, h1, _⟩ := h.fix
  exact h1.over
/-- Two that were made one behind the other. -/
theorem TwoF.new {w w1 w2 w3 : World} {R R' : Nat} {q o : Fi} {F G : Nat → Prop} (n : Nb w w1) (h1 : FiAt w2 (.pointer (some ⟨R, 0, none⟩)) q F) (h2 : ∀ k, F k → w1.heap.size ≤ k) (h3 : Nb w1 w2) (g1 : FiAt w3 (.pointer (some ⟨R', 0, none⟩)) o G) (g2 : ∀ k, G k → w2.heap.size ≤ k) (g3 : Nb w2 w3) : TwoF w w3 (.pointer (some ⟨R, 0, none⟩)) (.pointer (some ⟨R', 0, none⟩)) q o noF := by
  have s1 := n.size
  have s2 := h3.size
  exact ⟨F, G, fi_keep h1 (Kp.ofNb (F := fun _ => False) g3) (by simp), g1, fun k hk => ⟨by have := h2 k hk; omega, fun hg => by have := g2 k hg; have := fi_lt h1 k hk; omega, fun q => q⟩, fun k hk => ⟨by have := g2 k hk; omega, fun q => q⟩, fun k q => q.elim, (n.tr h3).tr g3⟩
end Go.Proofs.YtlmbggmamemmjaaDoor
