
/- What waits in a heap, in memory: which is ahead of which, two exchanged. Condition: at most a thousand. -/
import Derived.Test.YtkofdbccdfpllaaDoorHoN
namespace Go.Proofs.YtkofdbccdfpllaaDoor
set_option linter.unusedVariables false
set_option linter.unusedSimpArgs false
open Go.RowKit Go.Sort

set_option maxHeartbeats 3200000 in
set_option maxRecDepth 100000 in
theorem hlessP_any (R : Nat) (v : Value) (l : List (Nat × Nat)) (w : World) (h : HeP w R v l) (i j : Nat) (hi : i < l.length) (hj : j < l.length) (hl : l.length ≤ 1000) :
    Calls Tryd.prog 70 #[.pointer (some ⟨R, 0, none⟩), .int .i64 (i : Nat), .int .i64 (j : Nat)] w fun e w' => e = .returned (.bool (ahG id (l.getD i d0) (l.getD j d0))) ∧ Nb w w' := by
  obtain ⟨g, cap, rfl, hr, hgR, _, _⟩ := h.row (by omega)
  have c2 := h.blk.cell 0
  have c3 := h.blk.cell 1
  simp only [List.getElem?_toArray, List.getElem?_cons_zero, List.getElem?_cons_succ, cmpHP] at c2 c3
  obtain ⟨p, hp⟩ : ∃ q, l.getD i d0 = q := ⟨_, rfl⟩
  obtain ⟨q, hq⟩ : ∃ q, l.getD j d0 = q := ⟨_, rfl⟩
  rw [hp, hq]
  have hc := Lib.hid (fun w => hcmpNP_any p q w)
  have hg : decide (cmpG (id p) (id q) < 0) = ahG id p q := cmpG_lt _ _
  generalize ahG id p q = b at hg ⊢
  generalize cmpG (id p) (id q) = r at hc hg
  obtain ⟨xk, xn⟩ := p
  obtain ⟨yk, yn⟩ := q
  have HI := Lib.hid (fun w' (n : Nb w w') => ((hr.nb n).at hi hp).1)
  have HJ := Lib.hid (fun w' (n : Nb w w') => ((hr.nb n).at hj hq).1)
  have HR := Lib.hid (fun w' (n : Nb w w') => (show w'.cell? ⟨R, 0, none⟩ = _ from ((h.blk.nb n).cell 0) : w'.cell? ⟨R, 0, none⟩ = some (.slice (some ⟨g, 0, none⟩) l.length cap)))
  have HC := Lib.hid (fun w' (n : Nb w w') => (show w'.cell? ⟨R, 1, none⟩ = _ from ((h.blk.nb n).cell 1) : w'.cell? ⟨R, 1, none⟩ = some (.func (.func 18) #[] #[])))
  obtain ⟨a0, a1⟩ := HI.out _ Nb.rfl
  obtain ⟨b0, b1⟩ := HJ.out _ Nb.rfl
  have i1 : (i : Int) < (l.length : Int) := by omega
  have j1 : (j : Int) < (l.length : Int) := by omega
  clear hi hj hp hq h hr
  simp only [enP] at hc
  generalize l.length = n at *
  go_enter Tryd.func70, Tryd.ntmps70
  go_wp2_with fail
  go_region_held3 (fun w' => w'.cell? ⟨R, 0, none⟩ = some (.slice (some ⟨g, 0, none⟩) n cap) ∧ w'.cell? ⟨R, 1, none⟩ = some (.func (.func 18) #[] #[]) ∧ (w'.cell? ⟨g, i * 2, none⟩ = some (.int .u64 ((xk : Nat) : Int)) ∧ w'.cell? ⟨g, i * 2 + 1, none⟩ = some (.int .i64 ((xn : Nat) : Int))) ∧ (w'.cell? ⟨g, j * 2, none⟩ = some (.int .u64 ((yk : Nat) : Int)) ∧ w'.cell? ⟨g, j * 2 + 1, none⟩ = some (.int .i64 ((yn : Nat) : Int)))) (first | go_keep | exact ⟨HR.out _ (Nb.tr (Below.drew (Below.refl _ _) : Nb w w.drew) n7), HC.out _ (Nb.tr (Below.drew (Below.refl _ _) : Nb w w.drew) n7), HI.out _ (Nb.tr (Below.drew (Below.refl _ _) : Nb w w.drew) n7), HJ.out _ (Nb.tr (Below.drew (Below.refl _ _) : Nb w w.drew) n7)⟩) ((go_at_call 18; refine (hc.out _).mono ?_; rintro e w7 ⟨rfl, n7⟩))
  have N7 := Lib.hid (Nb.tr (Below.drew (Below.refl _ _) : Nb w w.drew) n7)
  clear n7
  go_wp2
  go_ret
  exact ⟨rfl, N7.out⟩
theorem gsw_same {α : Type} (d : α) (l : List α) {i : Nat} (hi : i < l.length) : gsw d l i i = l := gget_ext d (gsw_len d l i i) fun k _ => by
  rw [gsw_get d l hi hi k]
  by_cases e : k = i
  · rw [if_pos e, e]
  · rw [if_neg e, if_neg e]

theorem hswapP_any (R : Nat) (v : Value) (l : List (Nat × Nat)) (w : World) (h : HeP w R v l) (i j : Nat) (hi : i < l.length) (hj : j < l.length) (hl : l.length ≤ 1000) :
    Calls Tryd.prog 73 #[.pointer (some ⟨R, 0, none⟩), .int .i64 (i : Nat), .int .i64 (j : Nat)] w fun e w' => e = .returned (.tuple #[]) ∧ HeP w' R v (gsw d0 l i j) ∧ Kp (fun k => v.ownBlock = some k) w w' := by
  obtain ⟨g, cap, rfl, hr, hgR, hn1, hn2⟩ := h.row (by omega)
  have c2 := h.blk.cell 0
  simp only [List.getElem?_toArray, List.getElem?_cons_zero, List.getElem?_cons_succ] at c2
  have hgR' : ¬ R = g := fun e => hgR e.symm
  have put : HeP (((w.setCells g (i * 2) (enP (l.getD j d0))).setCells g (j * 2) (enP (l.getD i d0))).drew) R (.slice (some ⟨g, 0, none⟩) l.length cap) (gsw d0 l i j) ∧ Kp (fun k => Value.ownBlock (.slice (some ⟨g, 0, none⟩) l.length cap) = some k) w (((w.setCells g (i * 2) (enP (l.getD j d0))).setCells g (j * 2) (enP (l.getD i d0))).drew) := by
    have k1 : Kp (fun k => k = g) w (((w.setCells g (i * 2) (enP (l.getD j d0))).setCells g (j * 2) (enP (l.getD i d0))).drew) := ((Kp.sets (F := fun k => k = g) rfl _ _ _).tr (Kp.sets (F := fun k => k = g) rfl _ _ _) (fun _ h => .inl h)).tr (Kp.ofNb (F := fun _ => False) (Below.drew (Below.refl _ _))) (fun _ h => h.elim)
    have r2 : RwP (((w.setCells g (i * 2) (enP (l.getD j d0))).setCells g (j * 2) (enP (l.getD i d0))).drew) g cap (gsw d0 l i j) := ((hr.put hi (l.getD j d0)).put (by rw [List.length_set]; exact hj) (l.getD i d0)).nb (Below.drew (Below.refl _ _))
    have o2 := r2.own
    rw [gsw_len] at o2
    exact ⟨⟨h.blk.keep k1 hgR', o2, h.ne⟩, k1.mono fun k _ e => by subst e; rfl⟩
  obtain ⟨p, hp⟩ : ∃ q, l.getD i d0 = q := ⟨_, rfl⟩
  obtain ⟨q, hq⟩ : ∃ q, l.getD j d0 = q := ⟨_, rfl⟩
  by_cases hij : i = j
  · subst hij
    rw [hp] at put
    obtain ⟨xk, xn⟩ := p
    obtain ⟨⟨ma0, ma1⟩, mb0, mb1⟩ := hr.at hi hp
    exact (swaponeP R g cap l.length i _ _ w c2 hgR' hi hl ma0 mb0 ma1 mb1).mono fun e w' ⟨h1, h2⟩ => by
      rw [h2]
      exact ⟨h1, put⟩
  · rw [hp, hq] at put
    obtain ⟨xk, xn⟩ := p
    obtain ⟨yk, yn⟩ := q
    obtain ⟨⟨ma0, ma1⟩, mb0, mb1⟩ := hr.at hi hp
    obtain ⟨⟨mc0, mc1⟩, md0, md1⟩ := hr.at hj hq
    exact (swaprawP R g cap l.length i j _ _ _ _ w c2 hgR' hi hj hl hij ma0 mb0 ma1 mb1 mc0 md0 mc1 md1).mono fun e w' ⟨h1, h2⟩ => by
      rw [h2]
      exact ⟨h1, put⟩
end Go.Proofs.YtkofdbccdfpllaaDoor
