
/- What waits in a heap, in memory: which is ahead of which, two exchanged, the last one taken, one more. Condition: at most a thousand. -/
import Derived.Test.YtkofdbccdfpllaaDoorHoM
namespace Go.Proofs.YtkofdbccdfpllaaDoor
set_option linter.unusedVariables false
set_option linter.unusedSimpArgs false
open Go.RowKit Go.Sort

theorem Nb.grow (w : World) (os : Array Obj) : Nb w (Go.Sort.grow w os) := ⟨Eq.refl _, Eq.refl _, Eq.refl _, by simp, fun k hk => by simp [Go.Sort.grow, Array.getElem?_append_left hk]⟩
theorem hcmpNP_any (p q : Nat × Nat) (w : World) :
    Calls Tryd.prog 18 #[.agg (enP p).toArray, .agg (enP q).toArray] w fun e w' => e = .returned (.int .i64 (cmpG (id p) (id q))) ∧ Nb w w' :=
  (hcmpP_any p q w).mono fun e w' ⟨h, n, os, hw⟩ => ⟨h, by rw [hw]; exact (Nb.drewN w n).tr (Nb.grow _ os)⟩
/-- The cells of one. -/
theorem RwP.at {w : World} {g cap : Nat} {l : List (Nat × Nat)} (h : RwP w g cap l) {j : Nat} (hj : j < l.length) {xk xn : Nat} (hp : l.getD j d0 = ⟨xk, xn⟩) :
    (w.cell? ⟨g, j * 2, none⟩ = some (.int .u64 ((xk : Nat) : Int)) ∧ w.cell? ⟨g, j * 2 + 1, none⟩ = some (.int .i64 ((xn : Nat) : Int))) ∧ (w.frozen? ⟨g, j * 2, none⟩ = false ∧ w.frozen? ⟨g, j * 2 + 1, none⟩ = false) := by
  have hc := fun i u (hu : (enP ⟨xk, xn⟩)[i]? = some u) => h.cell hj (i := i) (u := u) (by rw [hp]; exact hu)
  exact ⟨⟨(hc 0 _ rfl).1, (hc 1 _ rfl).1⟩, (hc 0 _ rfl).2, (hc 1 _ rfl).2⟩

set_option maxHeartbeats 8000000 in
set_option maxRecDepth 100000 in
theorem swaprawP (R g cap n i j : Nat) (xk xn yk yn : Int) (w : World)
    (hR : w.cell? ⟨R, 0, none⟩ = some (.slice (some ⟨g, 0, none⟩) n cap)) (hne : ¬ R = g) (hi : i < n) (hj : j < n) (hn : n ≤ 1000) (hij : ¬ i = j)
    (ci0 : w.cell? ⟨g, i * 2, none⟩ = some (.int .u64 xk)) (fi0 : w.frozen? ⟨g, i * 2, none⟩ = false)
    (ci1 : w.cell? ⟨g, i * 2 + 1, none⟩ = some (.int .i64 xn)) (fi1 : w.frozen? ⟨g, i * 2 + 1, none⟩ = false)
    (cj0 : w.cell? ⟨g, j * 2, none⟩ = some (.int .u64 yk)) (fj0 : w.frozen? ⟨g, j * 2, none⟩ = false)
    (cj1 : w.cell? ⟨g, j * 2 + 1, none⟩ = some (.int .i64 yn)) (fj1 : w.frozen? ⟨g, j * 2 + 1, none⟩ = false) :
    Calls Tryd.prog 73 #[.pointer (some ⟨R, 0, none⟩), .int .i64 (i : Nat), .int .i64 (j : Nat)] w fun e w' => e = .returned (.tuple #[]) ∧ w' = ((w.setCells g (i * 2) [(.int .u64 yk), (.int .i64 yn)]).setCells g (j * 2) [(.int .u64 xk), (.int .i64 xn)]).drew := by
  have i1 : (i : Int) < (n : Int) := by omega
  have j1 : (j : Int) < (n : Int) := by omega
  have p1 : ¬ i * 2 = j * 2 + 1 := by omega
  have q1 : ¬ i * 2 + 1 = j * 2 := by omega
  have r1 : ¬ j * 2 = i * 2 + 1 := by omega
  have s1 : ¬ j * 2 + 1 = i * 2 := by omega
  have p0 : ¬ i * 2 = j * 2 := by omega
  have q0 : ¬ j * 2 = i * 2 := by omega
  have hji : ¬ j = i := fun h => hij h.symm
  clear hi hj
  go_enter Tryd.func73, Tryd.ntmps73
  go_wp2_with fail
  go_region
  go_end0
  exact ⟨rfl, rfl⟩

set_option maxHeartbeats 8000000 in
set_option maxRecDepth 100000 in
theorem swaponeP (R g cap n i : Nat) (xk xn : Int) (w : World)
    (hR : w.cell? ⟨R, 0, none⟩ = some (.slice (some ⟨g, 0, none⟩) n cap)) (hne : ¬ R = g) (hi : i < n) (hn : n ≤ 1000) 
    (ci0 : w.cell? ⟨g, i * 2, none⟩ = some (.int .u64 xk)) (fi0 : w.frozen? ⟨g, i * 2, none⟩ = false)
    (ci1 : w.cell? ⟨g, i * 2 + 1, none⟩ = some (.int .i64 xn)) (fi1 : w.frozen? ⟨g, i * 2 + 1, none⟩ = false)
 :
    Calls Tryd.prog 73 #[.pointer (some ⟨R, 0, none⟩), .int .i64 (i : Nat), .int .i64 (i : Nat)] w fun e w' => e = .returned (.tuple #[]) ∧ w' = ((w.setCells g (i * 2) [(.int .u64 xk), (.int .i64 xn)]).setCells g (i * 2) [(.int .u64 xk), (.int .i64 xn)]).drew := by
  have i1 : (i : Int) < (n : Int) := by omega


  clear hi 
  go_enter Tryd.func73, Tryd.ntmps73
  go_wp2_with fail
  go_region
  go_end0
  exact ⟨rfl, rfl⟩

end Go.Proofs.YtkofdbccdfpllaaDoor
