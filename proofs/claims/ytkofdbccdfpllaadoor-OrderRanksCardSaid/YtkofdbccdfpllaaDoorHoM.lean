
/- What waits in a heap, in memory: how many, which of two is ahead. No conditions. -/
import Derived.Test.YtkofdbccdfpllaaDoorHoV
import Derived.Test.YtkofdbccdfpllaaDoorGha
import Derived.BigRegion
import Derived.Deep.RegionHeld3
import Derived.Sort.Grow
namespace Go.Proofs.YtkofdbccdfpllaaDoor
set_option linter.unusedVariables false
set_option linter.unusedSimpArgs false
open Go.RowKit Go.Sort

def cmpHP : Value := .func (.func 18) #[] #[]
/-- The heap at R: so many wait there. -/
structure HeP (w : World) (R : Nat) (v : Value) (l : List (Nat × Nat)) : Prop where
  blk : Blk w R #[v, cmpHP] 43
  own : OwnP w v l
  ne : v.ownBlock ≠ some R
theorem HeP.keep {F : Nat → Prop} {w w' : World} {R : Nat} {v : Value} {l : List (Nat × Nat)} (h : HeP w R v l) (hk : Kp F w w') (h1 : ¬ F R) (h2 : ∀ g, v.ownBlock = some g → ¬ F g) : HeP w' R v l := ⟨h.blk.keep hk h1, h.own.keep hk h2, h.ne⟩
theorem HeP.nb {w w' : World} {R : Nat} {v : Value} {l : List (Nat × Nat)} (h : HeP w R v l) (hk : Nb w w') : HeP w' R v l := ⟨h.blk.nb hk, h.own.nb hk, h.ne⟩
/-- Where there is one, the row lies in a block. -/
theorem HeP.row {w : World} {R : Nat} {v : Value} {l : List (Nat × Nat)} (h : HeP w R v l) (h0 : 0 < l.length) : ∃ g cap, v = .slice (some ⟨g, 0, none⟩) l.length cap ∧ RwP w g cap l ∧ g ≠ R ∧ l.length ≤ cap ∧ cap ≤ maxLen := by
  obtain ⟨a, cap, rfl, ha, h1, h2⟩ := h.own.shape
  obtain ⟨g, rfl⟩ := ha h0
  have := h.ne
  simp only [Value.ownBlock, ne_eq, Option.some.injEq] at this
  exact ⟨g, cap, rfl, h.own.rw.2, this, h1, h2⟩

set_option maxHeartbeats 400000 in
theorem hlenP_any (R : Nat) (v : Value) (l : List (Nat × Nat)) (w : World) (h : HeP w R v l) :
    Calls Tryd.prog 43 #[.pointer (some ⟨R, 0, none⟩)] w fun e w' => e = .returned (.int .i64 (l.length : Nat)) ∧ w' = w := by
  have c2 := h.blk.cell 0
  obtain ⟨a, cap, rfl, _⟩ := h.own.shape
  simp only [List.getElem?_toArray, List.getElem?_cons_zero, List.getElem?_cons_succ] at c2
  clear h
  go_enter Tryd.func43, Tryd.ntmps43
  go_wp2
  go_ret
  exact ⟨rfl, rfl⟩

/-- How two compare. -/
def cmpG (p q : Nat × Nat) : Int := if cmpI p.1 q.1 = 0 then cmpI p.2 q.2 else cmpI p.1 q.1
theorem cmpG_lt (p q : Nat × Nat) : decide (cmpG p q < 0) = ahB p q := by
  unfold cmpG cmpI ahB
  rcases Nat.lt_trichotomy p.1 q.1 with h | h | h
  · have h1 : (p.1 : Int) < (q.1 : Int) := by omega
    simp [h1, h, show ¬ p.1 = q.1 by omega]
  · rcases Nat.lt_trichotomy p.2 q.2 with k | k | k
    · have k1 : (p.2 : Int) < (q.2 : Int) := by omega
      simp [h, k1, k]
    · simp [h, k]
    · have k1 : (q.2 : Int) < (p.2 : Int) := by omega
      simp [h, k1, show ¬ (p.2 : Int) < (q.2 : Int) by omega, show ¬ p.2 < q.2 by omega]
  · have h1 : (q.1 : Int) < (p.1 : Int) := by omega
    simp [h1, show ¬ (p.1 : Int) < (q.1 : Int) by omega, show ¬ p.1 < q.1 by omega, show ¬ p.1 = q.1 by omega]

set_option maxHeartbeats 1600000 in
set_option maxRecDepth 100000 in
theorem hcmpP_any (p q : Nat × Nat) (w : World) :
    Calls Tryd.prog 18 #[.agg (enP p).toArray, .agg (enP q).toArray] w fun e w' => e = .returned (.int .i64 (cmpG (id p) (id q))) ∧ ∃ n os, w' = grow (w.drewN n) os := by
  obtain ⟨xk, xn⟩ := p
  obtain ⟨yk, yn⟩ := q
  have C1 := fun w => cmpU_any (xk : Nat) (yk : Nat) w
  have C2 := fun w => cmpI_any (xn : Nat) (yn : Nat) w
  unfold cmpG 
  simp only [enP, id]
  generalize cmpI (xk : Int) (yk : Int) = x at C1 ⊢
  generalize cmpI (xn : Int) (yn : Int) = y at C2 ⊢
  obtain ⟨r, hr⟩ : ∃ r, r = if x = 0 then y else x := ⟨_, rfl⟩
  have CO := Lib.hid (fun g w => or_new g x y r hr w)
  rw [← hr]
  clear hr
  go_enter Tryd.func18, Tryd.ntmps18
  go_wp2_with fail
  go_region_held3 (fun w' => w'.cell? ⟨w.heap.size, 0, none⟩ = some (.int .u64 (xk : Int)) ∧ w'.cell? ⟨w.heap.size, 1, none⟩ = some (.int .i64 (xn : Int)) ∧ w'.cell? ⟨w.heap.size + 1, 0, none⟩ = some (.int .u64 (yk : Int)) ∧ w'.cell? ⟨w.heap.size + 1, 1, none⟩ = some (.int .i64 (yn : Int))) (go_keep) (first | (go_at_call 16; refine (C1 _).mono ?_; rintro e w7 ⟨rfl, rfl⟩) | (go_at_call 31; refine (C2 _).mono ?_; rintro e w7 ⟨rfl, rfl⟩) | (go_at_call 30; refine (CO.out _ _ (by rw [World.size_alloc, World.size_alloc])).mono ?_; rintro e w7 ⟨rfl, rfl⟩))
  go_wp2
  go_ret
  exact ⟨rfl, 1, _, by rw [alloc_eq_grow, alloc_eq_grow, alloc_eq_grow, grow_grow, grow_grow]; rfl⟩
end Go.Proofs.YtkofdbccdfpllaaDoor
