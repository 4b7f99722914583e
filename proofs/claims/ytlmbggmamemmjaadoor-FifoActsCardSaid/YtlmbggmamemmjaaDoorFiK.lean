
/- An append of frames as a step of a region whose order is drawn (layer 16's document). No conditions. -/
import Derived.Test.YtlmbggmamemmjaaDoorFiV
import Derived.Deep.RegionLawGrows
import Derived.OwnWalk
namespace Go.Proofs.YtlmbggmamemmjaaDoor
set_option linter.unusedVariables false
set_option linter.unusedSimpArgs false
open Go.RowKit

theorem step_appF (w : World) {ops : Array Oper} {o : Oper} {a : Act} {K : Act → World → Prop} {Q : Exit → Act → World → Prop} {E : Prop}
    (hg : o.guard = none) (s x : Operand) (hop : o.op = Op.call { callee := Callee.builtin Builtin.append, args := #[s, x], argTypes := #[30, 30] })
    (v : Value) (l : List FrI) (hs : a.eval s = v) (hown : OwnF w v l)
    (ao : Option Addr) (m c : Nat) (ms : List FrI) (hm : m = ms.length) (hx : a.eval x = .slice ao m c) (hnone : ao = none → m = 0 ∧ c = 0) (hc : ∀ ad, ao = some ad → ∀ j u, (cellsF ms)[j]? = some u → w.cell? (ad.add j) = some u) (h1c : ∀ u ∈ cellsF ms, u.oneCell' = true)
    (b1 : l.length + ms.length ≤ 1000000)
    (hK : ∀ v' w', OwnF w' v' (l ++ ms) → Kp (fun k => v.ownBlock = some k) w w' → (∀ g, v'.ownBlock = some g → v.ownBlock = some g ∨ w.heap.size ≤ g) → K (a.put o.dst v') w') :
    if Region.wanted o (yielded ops a.tmps) = true then Oper.wp Tryd.prog o a w K Q else E := by
  obtain ⟨i0, hi, hz0, hz1, hz2⟩ := info_parts infoF
  subst hm
  have hw : Region.wanted o (yielded ops a.tmps) = true := by simp [Region.wanted, hg]
  have hlen := cellsF_len ms
  have hall : ∀ v' w', w'.ownsRow 0 36 11 v' (l.length + ms.length) (cellsF l ++ cellsF ms) → w.grownBy w' v.ownBlock → (∀ g, v'.ownBlock = some g → v.ownBlock = some g ∨ w.heap.size ≤ g) → K (a.put o.dst v') w' := fun v' w' ho hgr hbl =>
    hK v' w' (by simpa [OwnF, cellsF_app] using ho) (Kp.grown hgr (fun k hk => hk)) hbl
  have hnew : ∀ v' w', w'.ownsRow w.heap.size 36 11 v' (l.length + ms.length) (cellsF l ++ cellsF ms) → w.grownBy w' none → K (a.put o.dst v') w' := fun v' w' ho hgr =>
    hall v' w' (ownsRow_weak ho) ⟨hgr.os, hgr.tape, hgr.output, hgr.size, fun k hk _ => hgr.block k hk (by simp)⟩ (fun g hg => .inr (ho.lt g hg).1)
  rcases hown.2 with ⟨rfl, h2⟩ | ⟨g, cap, cur, rfl, hbg, hgg, hnc, hcm, hcs, htake⟩
  · have hl : l = [] := List.length_eq_zero_iff.1 h2
    subst hl
    rw [if_pos hw]
    cases ao with
    | none =>
      obtain ⟨hm0, rfl⟩ := hnone rfl
      have hms : ms = [] := List.length_eq_zero_iff.1 hm0
      subst hms
      have hrun := run_append_owned_none (P := Tryd.prog) w 0 30 o.type 36 i0 11 Tryd.underlying30 hi _ 0 _ hown
      unfold Oper.wp
      simp only [List.length_nil] at hx
      simp [execOp, hop, resolve, invoke, builtin, hs, hx, hrun, Result.andThen]
      exact hall _ w hown (World.grownBy.refl _ _) (fun g hg => .inl hg)
    | some ad =>
      obtain ⟨v', w', hrun, r1, r2, _⟩ := run_append_own (P := Tryd.prog) w w.heap.size 30 o.type 36 i0 _ 11 48 Tryd.underlying30 hi hz0 hz1 hz2 rfl (by decide) (.slice none 0 0) 0 [] (World.ownsRow_nil w _ _ _) ad ms.length c (cellsF ms) hlen (hc ad rfl) h1c (by unfold maxLen; simp only [List.length_nil] at b1; omega) (by simp only [List.length_nil] at b1; omega) (Nat.le_refl _)
      unfold Oper.wp
      simp [execOp, hop, resolve, invoke, builtin, hs, hx, hrun, Result.andThen]
      exact hnew v' w' (by simpa [show cellsF [] = [] from rfl] using r1) r2
  · by_cases hroom : l.length + ms.length ≤ cap
    · rw [if_pos hw]
      cases ao with
      | none =>
        obtain ⟨hm0, rfl⟩ := hnone rfl
        have hms : ms = [] := List.length_eq_zero_iff.1 hm0
        subst hms
        have hrun := run_append_owned_none (P := Tryd.prog) w 0 30 o.type 36 i0 11 Tryd.underlying30 hi _ l.length _ hown
        unfold Oper.wp
        simp only [List.length_nil] at hx
        simp [execOp, hop, resolve, invoke, builtin, hs, hx, hrun, Result.andThen]
        have h : w.ownsRow 0 36 11 (.slice (some ⟨g, 0, none⟩) l.length cap) l.length (cellsF l) := hown
        exact hall _ w (by simpa [show cellsF [] = [] from rfl] using h) (World.grownBy.refl _ _) (fun g hg => .inl hg)
      | some ad =>
        obtain ⟨w', hrun, r1, r2⟩ := run_append_fits (P := Tryd.prog) w 0 30 o.type 36 i0 11 Tryd.underlying30 hi hz1 g l.length cap _ hown ad ms.length c _ hlen (hc ad rfl) h1c hroom
        unfold Oper.wp
        simp [execOp, hop, resolve, invoke, builtin, hs, hx, hrun, Result.andThen]
        exact hall _ _ r1 r2 (fun k hk => .inl (by simpa [Value.ownBlock] using hk))
    · cases ao with
      | none =>
        have := (hnone rfl).1
        omega
      | some ad =>
        exact step_append_grows hg s x 30 hop 36 i0 _ 11 48 Tryd.underlying30 hi hz0 hz1 hz2 rfl (by decide) (some ⟨g, 0, none⟩) l.length cap _ hs (by simp) hown.1 (fun b hb => by cases hb; exact hown.cells (g := g) rfl) ad ms.length c _ hx hlen (hc ad rfl) h1c (by omega) (by unfold maxLen; omega) (by omega) hnew
/-- An empty row, laid. -/
theorem OwnF.lit0 (w : World) : OwnF (w.alloc (.cells #[] 36)) (.slice (some ⟨w.heap.size, 0, none⟩) 0 0) [] :=
  ⟨by simp [cellsF], .inr ⟨w.heap.size, 0, #[], rfl, Nat.zero_le _, heap_alloc_new w _, Nat.le_refl _, by simp [maxLen], by simp, by simp [cellsF]⟩⟩
end Go.Proofs.YtlmbggmamemmjaaDoor
