
/- A fifo that is new since a world, blocks set apart from it; calls of it. Condition: the tables hold what the program's text lays there. -/
import Derived.Test.YtlmbggmamemmjaaDoorFiG
namespace Go.Proofs.YtlmbggmamemmjaaDoor
set_option linter.unusedVariables false
set_option linter.unusedSimpArgs false
open Go.RowKit

/-- A fifo that is new since w, and touches no block of X. -/
def FiX (w w' : World) (v : Value) (q : Fi) (X : Nat → Prop) : Prop := ∃ F, FiAt w' v q F ∧ (∀ k, F k → w.heap.size ≤ k ∧ ¬ X k) ∧ (∀ k, X k → k < w'.heap.size) ∧ Nb w w'
abbrev noF : Nat → Prop := fun _ => False
theorem FiX.new {w w0 w' : World} {R : Nat} {q : Fi} {F : Nat → Prop} (h1 : FiAt w' (.pointer (some ⟨R, 0, none⟩)) q F) (h2 : ∀ k, F k → w0.heap.size ≤ k) (h3 : Nb w0 w') (n : Nb w w0) : FiX w w' (.pointer (some ⟨R, 0, none⟩)) q noF :=
  ⟨F, h1, fun k hk => ⟨Nat.le_trans n.size (h2 k hk), fun q => q⟩, fun _ q => q.elim, n.tr h3⟩
/-- Blocks that were there before it was made are apart. -/
theorem FiX.newX {w w0 w' : World} {R : Nat} {q : Fi} {F X : Nat → Prop} (h1 : FiAt w' (.pointer (some ⟨R, 0, none⟩)) q F) (h2 : ∀ k, F k → w0.heap.size ≤ k) (h3 : Nb w0 w') (n : Nb w w0) (hX : ∀ k, X k → k < w0.heap.size) : FiX w w' (.pointer (some ⟨R, 0, none⟩)) q X :=
  ⟨F, h1, fun k hk => ⟨Nat.le_trans n.size (h2 k hk), fun q => by have := h2 k hk; have := hX k q; omega⟩, fun k q => Nat.lt_of_lt_of_le (hX k q) h3.size, n.tr h3⟩
theorem FiX.nb {w w' : World} {v : Value} {q : Fi} {X : Nat → Prop} (h : FiX w w' v q X) : Nb w w' := by
  obtain ⟨_, _, _, _, h3⟩ := h
  exact h3
theorem FiX.ok {w w' : World} {v : Value} {q : Fi} {X : Nat → Prop} (h : FiX w w' v q X) : q.Ok := by
  obtain ⟨_, h1, _⟩ := h
  exact fi_ok h1
theorem FiX.keep {w w1 w2 : World} {v : Value} {q : Fi} {X : Nat → Prop} (h : FiX w w1 v q X) (hb : Nb w1 w2) : FiX w w2 v q X := by
  obtain ⟨F, h1, h2, h3, h4⟩ := h
  exact ⟨F, fi_keep h1 (Kp.ofNb (F := fun _ => False) hb) (by simp), h2, fun k hk => Nat.lt_of_lt_of_le (h3 k hk) hb.size, h4.tr hb⟩
/-- Blocks of X are turned, the fifo stays. -/
theorem FiX.keepX {w w1 w2 : World} {v : Value} {q : Fi} {X Y : Nat → Prop} (h : FiX w w1 v q X) (hk : Kp Y w1 w2) (hX : ∀ k, Y k → X k ∧ w.heap.size ≤ k) : FiX w w2 v q X := by
  obtain ⟨F, h1, h2, h3, h4⟩ := h
  exact ⟨F, fi_keep h1 hk (fun k q r => (h2 k q).2 (hX k r).1), h2, fun k q => Nat.lt_of_lt_of_le (h3 k q) hk.size, h4.trans (hk.toBelow h4.size fun k q => (hX k q).2)⟩
/-- New blocks are set apart. -/
theorem FiX.add {w w1 w2 : World} {v : Value} {q : Fi} {X Y : Nat → Prop} (h : FiX w w1 v q X) (hb : Nb w1 w2) (hY : ∀ k, Y k → w1.heap.size ≤ k ∧ k < w2.heap.size) : FiX w w2 v q (fun k => X k ∨ Y k) := by
  obtain ⟨F, h1, h2, h3, h4⟩ := h
  refine ⟨F, fi_keep h1 (Kp.ofNb (F := fun _ => False) hb) (by simp), fun k hk => ⟨(h2 k hk).1, fun q => ?_⟩, fun k hk => ?_, h4.tr hb⟩
  · rcases q with q | q
    · exact (h2 k hk).2 q
    · have := fi_lt h1 k hk
      have := (hY k q).1
      omega
  · rcases hk with q | q
    · exact Nat.lt_of_lt_of_le (h3 k q) hb.size
    · exact (hY k q).2
theorem FiX.addB {w w1 : World} {v : Value} {q : Fi} {X : Nat → Prop} (h : FiX w w1 v q X) (cs : Array Value) (t : TypeId) : FiX w (w1.alloc (.cells cs t)) v q (fun k => X k ∨ k = w1.heap.size) :=
  h.add (Nb.rfl.al _) (fun k hk => by
    subst hk
    exact ⟨Nat.le_refl _, by rw [World.size_alloc]; omega⟩)
theorem FiX.less {w w' : World} {v : Value} {q : Fi} {X Y : Nat → Prop} (h : FiX w w' v q X) (hY : ∀ k, Y k → X k) : FiX w w' v q Y := by
  obtain ⟨F, h1, h2, h3, h4⟩ := h
  exact ⟨F, h1, fun k hk => ⟨(h2 k hk).1, fun q => (h2 k hk).2 (hY k q)⟩, fun k hk => h3 k (hY k hk), h4⟩
/-- Blocks that lie below w are apart in any case. -/
theorem FiX.below {w w' : World} {v : Value} {q : Fi} {X : Nat → Prop} (h : FiX w w' v q X) : FiX w w' v q (fun k => X k ∨ k < w.heap.size) := by
  obtain ⟨F, h1, h2, h3, h4⟩ := h
  refine ⟨F, h1, fun k hk => ⟨(h2 k hk).1, fun q => ?_⟩, fun k hk => ?_, h4⟩
  · rcases q with q | q
    · exact (h2 k hk).2 q
    · have := (h2 k hk).1
      omega
  · rcases hk with q | q
    · exact h3 k q
    · exact Nat.lt_of_lt_of_le q h4.size
theorem FiX.turn {w w' w2 : World} {v u : Value} {q' : Fi} {X F : Nat → Prop} {e : Ending} (h2 : ∀ k, F k → w.heap.size ≤ k ∧ ¬ X k) (h3 : ∀ k, X k → k < w'.heap.size) (h4 : Nb w w') (h : TurnF w' v q' u F e w2) : ∃ G, e = .returned u ∧ Kp G w' w2 ∧ (∀ k, X k → ¬ G k) ∧ (∀ k, G k → w.heap.size ≤ k) ∧ FiX w w2 v q' X := by
  obtain ⟨F', rfl, g1, g2, g3⟩ := h
  refine ⟨F, rfl, g2, fun k hk hf => (h2 k hf).2 hk, fun k hk => (h2 k hk).1, F', g1, fun k hk => ⟨?_, fun q => ?_⟩, fun k q => Nat.lt_of_lt_of_le (h3 k q) g2.size, h4.trans (g2.toBelow h4.size (fun k hk => (h2 k hk).1))⟩
  · rcases g3 k hk with q | q
    · exact (h2 k q).1
    · exact Nat.le_trans h4.size q
  · rcases g3 k hk with r | r
    · exact (h2 k r).2 q
    · have := h3 k q
      omega
theorem FiX.push {w w' : World} {v : Value} {q : Fi} {X : Nat → Prop} (f : Hd) (a : Option Addr) (cap : Nat) (l : List Nat) (h : FiX w w' v q X) (hB : Longer w') (hbs : Bs w' a cap l) (hov : q.over ≤ 1000000) :
    Calls Tryd.prog 17 #[v, .agg (f.cs (.slice a l.length cap))] w' fun e w2 => ∃ G, e = .returned (.tuple #[.bool (q.pushB f l), .int .i64 (checkN f l : Nat)]) ∧ Kp G w' w2 ∧ (∀ k, X k → ¬ G k) ∧ (∀ k, G k → w.heap.size ≤ k) ∧ FiX w w2 v (q.push f l) X := by
  obtain ⟨F, h1, h2, h3, h4⟩ := h
  refine (pushF_any v q F f a cap l w' h1 hB hbs hov).mono ?_
  intro e w2 hh
  exact FiX.turn h2 h3 h4 hh
/-- What a call leaves that turns the fifo alone, P new. -/
theorem FiX.news {w w' w2 : World} {v : Value} {q' : Fi} {X P F : Nat → Prop} (h2 : ∀ k, F k → w.heap.size ≤ k ∧ ¬ X k) (h3 : ∀ k, X k → k < w'.heap.size) (h4 : Nb w w') (hF : ∀ k, F k → k < w'.heap.size) (g0 : ∀ k, P k → w'.heap.size ≤ k ∧ k < w2.heap.size) (g1 : FiAt w2 v q' F) (g2 : Kp F w' w2) : FiX w w2 v q' (fun k => X k ∨ P k) := by
  refine ⟨F, g1, fun k hk => ⟨(h2 k hk).1, fun q => ?_⟩, fun k hk => ?_, h4.trans (g2.toBelow h4.size (fun k hk => (h2 k hk).1))⟩
  · rcases q with q | q
    · exact (h2 k hk).2 q
    · have := hF k hk
      have := (g0 k q).1
      omega
  · rcases hk with q | q
    · exact Nat.lt_of_lt_of_le (h3 k q) g2.size
    · exact (g0 k q).2
theorem FiX.pop {w w' : World} {v : Value} {q : Fi} {X : Nat → Prop} (h : FiX w w' v q X) :
    Calls Tryd.prog 12 #[v] w' fun e w2 => ∃ a c P G, e = .returned (.tuple #[.agg (q.head.1.cs (.slice a q.head.2.length c)), .int .i64 (q.popE : Nat)]) ∧ DatP w2 a c q.head.2 P ∧ (∀ k, P k → w'.heap.size ≤ k ∧ k < w2.heap.size) ∧ Kp G w' w2 ∧ (∀ k, X k → ¬ G k) ∧ (∀ k, G k → w.heap.size ≤ k) ∧ FiX w w2 v q.pop (fun k => X k ∨ P k) := by
  obtain ⟨F, h1, h2, h3, h4⟩ := h
  refine (popF_any v q F w' h1).mono ?_
  rintro e w2 ⟨a, c, P, rfl, g1, g2, g3, g4⟩
  exact ⟨a, c, P, F, rfl, g1, g2, g4, fun k hk hf => (h2 k hf).2 hk, fun k hk => (h2 k hk).1, FiX.news h2 h3 h4 (fi_lt h1) g2 g3 g4⟩
theorem FiX.clear {w w' : World} {v : Value} {q : Fi} {X : Nat → Prop} (h : FiX w w' v q X) :
    Calls Tryd.prog 16 #[v] w' fun e w2 => ∃ a c P G, e = .returned (.slice a q.its.length c) ∧ FrP w2 a c q.its P ∧ (∀ k, P k → w'.heap.size ≤ k ∧ k < w2.heap.size) ∧ Kp G w' w2 ∧ (∀ k, X k → ¬ G k) ∧ (∀ k, G k → w.heap.size ≤ k) ∧ FiX w w2 v q.clear (fun k => X k ∨ P k) ∧ (a = none → c = 0) := by
  obtain ⟨F, h1, h2, h3, h4⟩ := h
  refine (clearF_any v q F w' h1).mono ?_
  rintro e w2 ⟨a, c, P, rfl, g1, g2, g3, g4, g5⟩
  exact ⟨a, c, P, F, rfl, g1, g2, g4, fun k hk hf => (h2 k hf).2 hk, fun k hk => (h2 k hk).1, FiX.news h2 h3 h4 (fi_lt h1) g2 g3 g4, g5⟩
theorem FiX.all {w w' : World} {v : Value} {q : Fi} {X : Nat → Prop} (h : FiX w w' v q X) :
    Calls Tryd.prog 21 #[v] w' fun e w2 => ∃ a c P, e = .returned (.slice a q.its.length c) ∧ FrP w2 a c q.its P ∧ (∀ k, P k → w'.heap.size ≤ k ∧ k < w2.heap.size) ∧ Nb w' w2 ∧ FiX w w2 v q (fun k => X k ∨ P k) ∧ (a = none → c = 0) := by
  obtain ⟨F, h1, h2, h3, h4⟩ := h
  refine (allF_any v q F w' h1).mono ?_
  rintro e w2 ⟨a, c, P, rfl, g1, g2, g3, g4⟩
  exact ⟨a, c, P, rfl, g1, g2, g3, FiX.add ⟨F, h1, h2, h3, h4⟩ g3 g2, g4⟩
theorem FiX.all2 {w w' : World} {v : Value} {q : Fi} {X : Nat → Prop} (h : FiX w w' v q X) :
    Calls Tryd.prog 21 #[v] w' fun e w2 => ∃ a c B P, e = .returned (.slice a q.its.length c) ∧ FrP2 w2 a c q.its B P ∧ (∀ k, P k → w'.heap.size ≤ k ∧ k < w2.heap.size) ∧ (∀ k, B k → w'.heap.size ≤ k ∧ k < w2.heap.size ∧ ¬ P k) ∧ Nb w' w2 ∧ FiX w w2 v q (fun k => X k ∨ P k) := by
  obtain ⟨F, h1, h2, h3, h4⟩ := h
  refine (allF2_any v q F w' h1).mono ?_
  rintro e w2 ⟨a, c, B, P, rfl, g1, g2, g3, g4, _⟩
  exact ⟨a, c, B, P, rfl, g1, g2, g3, g4, FiX.add ⟨F, h1, h2, h3, h4⟩ g4 g2⟩
theorem FiX.len {w w' : World} {v : Value} {q : Fi} {X : Nat → Prop} (h : FiX w w' v q X) :
    Calls Tryd.prog 19 #[v] w' fun e w2 => e = .returned (.int .i64 (q.its.length : Nat)) ∧ Nb w' w2 := by
  obtain ⟨F, h1, _⟩ := h
  exact lenF_any v q F w' h1
theorem FiX.over {w w' : World} {v : Value} {q : Fi} {X : Nat → Prop} (h : FiX w w' v q X) :
    Calls Tryd.prog 20 #[v] w' fun e w2 => e = .returned (.int .i64 (q.over : Nat)) ∧ Nb w' w2 := by
  obtain ⟨F, h1, _⟩ := h
  exact overF_any v q F w' h1
end Go.Proofs.YtlmbggmamemmjaaDoor
