
/- What waits in a heap, in memory: the last one taken, one more. Condition: at most a thousand. -/
import Derived.Test.YtkofdbccdfpllaaDoorHoN
import Derived.Deep.RegionLawGrows
import Derived.OwnWalk
namespace Go.Proofs.YtkofdbccdfpllaaDoor
set_option linter.unusedVariables false
set_option linter.unusedSimpArgs false
open Go.RowKit Go.Sort

/-- One more, as a step of a region whose order is drawn. -/
theorem step_appHP (w : World) {ops : Array Oper} {o : Oper} {a : Act} {K : Act → World → Prop} {Q : Exit → Act → World → Prop} {E : Prop}
    (hg : o.guard = none) (s x : Operand) (hop : o.op = Op.call { callee := Callee.builtin Builtin.append, args := #[s, x], argTypes := #[38, 38] })
    (v : Value) (l : List (Nat × Nat)) (hs : a.eval s = v) (hown : OwnP w v l)
    (b : Nat) (e : Nat × Nat) (hx : a.eval x = .slice (some ⟨b, 0, none⟩) 1 1) (hc : ∀ j u, (enP e)[j]? = some u → w.cell? ⟨b, j, none⟩ = some u) (b1 : l.length + 1 ≤ 1000000)
    (hK : ∀ v' w', OwnP w' v' (l ++ [e]) → Kp (fun k => v.ownBlock = some k) w w' → (∀ g, v'.ownBlock = some g → v.ownBlock = some g ∨ w.heap.size ≤ g) → K (a.put o.dst v') w') :
    if Region.wanted o (yielded ops a.tmps) = true then Oper.wp Tryd.prog o a w K Q else E := by
  obtain ⟨i0, hi, hz0, hz1, hz2⟩ := info_parts infoHP
  have hw : Region.wanted o (yielded ops a.tmps) = true := by simp [Region.wanted, hg]
  have hlen := cellsP_len [e]
  have h1c := fun u hu => cellsP_one [e] u hu
  have hc' : ∀ j u, (cellsP [e])[j]? = some u → w.cell? ((⟨b, 0, none⟩ : Addr).add j) = some u := fun j u hu => by
    rw [Addr.add_lit, Nat.zero_add]
    exact hc j u (by simpa [cellsP] using hu)
  have hall : ∀ v' w', w'.ownsRow 0 48 2 v' (l.length + 1) (cellsP l ++ cellsP [e]) → w.grownBy w' v.ownBlock → (∀ g, v'.ownBlock = some g → v.ownBlock = some g ∨ w.heap.size ≤ g) → K (a.put o.dst v') w' := fun v' w' ho hgr hbl =>
    hK v' w' (by simpa [OwnP, cellsP_app] using ho) (Kp.grown hgr (fun k hk => hk)) hbl
  have hnew : ∀ v' w', w'.ownsRow w.heap.size 48 2 v' (l.length + 1) (cellsP l ++ cellsP [e]) → w.grownBy w' none → K (a.put o.dst v') w' := fun v' w' ho hgr =>
    hall v' w' (ownsRow_weak ho) ⟨hgr.os, hgr.tape, hgr.output, hgr.size, fun k hk _ => hgr.block k hk (by simp)⟩ (fun g hg => .inr (ho.lt g hg).1)
  rcases hown.2 with ⟨rfl, h2⟩ | ⟨g, cap, cur, rfl, hbg, hgg, hnc, hcm, hcs, htake⟩
  · have hl : l = [] := List.length_eq_zero_iff.1 h2
    subst hl
    rw [if_pos hw]
    obtain ⟨v', w', hrun, r1, r2, _⟩ := run_append_own (P := Tryd.prog) w w.heap.size 38 o.type 48 i0 _ 2 16 Tryd.underlying38 hi hz0 hz1 hz2 rfl (by decide) (.slice none 0 0) 0 [] (World.ownsRow_nil w _ _ _) ⟨b, 0, none⟩ 1 1 (cellsP [e]) hlen hc' h1c (by unfold maxLen; omega) (by omega) (Nat.le_refl _)
    unfold Oper.wp
    simp [execOp, hop, resolve, invoke, builtin, hs, hx, hrun, Result.andThen]
    exact hnew v' w' (by simpa [show cellsP [] = [] from rfl] using r1) r2
  · by_cases hroom : l.length + 1 ≤ cap
    · rw [if_pos hw]
      obtain ⟨w', hrun, r1, r2⟩ := run_append_fits (P := Tryd.prog) w 0 38 o.type 48 i0 2 Tryd.underlying38 hi hz1 g l.length cap _ hown ⟨b, 0, none⟩ 1 1 _ hlen hc' h1c hroom
      unfold Oper.wp
      simp [execOp, hop, resolve, invoke, builtin, hs, hx, hrun, Result.andThen]
      exact hall _ _ r1 r2 (fun k hk => .inl (by simpa [Value.ownBlock] using hk))
    · exact step_append_grows hg s x 38 hop 48 i0 _ 2 16 Tryd.underlying38 hi hz0 hz1 hz2 rfl (by decide) (some ⟨g, 0, none⟩) l.length cap _ hs (by simp) hown.1 (fun b hb => by cases hb; exact hown.cells (g := g) rfl) ⟨b, 0, none⟩ 1 1 _ hx hlen hc' h1c (by omega) (by unfold maxLen; omega) (by omega) hnew

set_option maxHeartbeats 3200000 in
set_option maxRecDepth 100000 in
theorem hpopP_any (R : Nat) (v : Value) (l : List (Nat × Nat)) (n : Nat) (w : World) (h : HeP w R v l) (hn : l.length = n + 1) (hl : l.length ≤ 1000) :
    Calls Tryd.prog 71 #[.pointer (some ⟨R, 0, none⟩)] w fun e w' => e = .returned (.iface 48 (.agg (enP (l.getD n d0)).toArray)) ∧ ∃ v', HeP w' R v' (l.take n) ∧ v'.ownBlock = v.ownBlock ∧ Kp (fun k => k = R ∨ v.ownBlock = some k) w w' := by
  obtain ⟨g, cap, rfl, hr, hgR, hn1, hn2⟩ := h.row (by omega)
  have c2 := h.blk.cell 0
  have f2 := h.blk.frozen 0
  have hR := h.blk.lt
  have hgl := hr.lt
  simp only [List.getElem?_toArray, List.getElem?_cons_zero, List.getElem?_cons_succ] at c2
  have hgR' : ¬ R = g := fun e => hgR e.symm
  obtain ⟨p, hp⟩ : ∃ q, l.getD n d0 = q := ⟨_, rfl⟩
  rw [hp]
  obtain ⟨xk, xn⟩ := p
  obtain ⟨⟨a0, a1⟩, b0, b1⟩ := hr.at (by omega) hp
  have HP := Lib.hid (show ∀ w3, Nb ((w.setCells g (n * 2) [.int .u64 0, .int .i64 0]).setCell ⟨R, 0, none⟩ (.slice (some ⟨g, 0, none⟩) n cap)) w3 → HeP w3 R (.slice (some ⟨g, 0, none⟩) n cap) (l.take n) ∧ Kp (fun k => k = R ∨ Value.ownBlock (.slice (some ⟨g, 0, none⟩) l.length cap) = some k) w w3 from fun w3 n3 => by
    have k1 : Kp (fun k => k = g) w (w.setCells g (n * 2) [.int .u64 0, .int .i64 0]) := Kp.sets (F := fun k => k = g) rfl _ _ _
    have r1 := hr.behind (n := n) (by omega) [.int .u64 0, .int .i64 0] rfl
    have r2 := (r1.keep (Kp.set (F := fun k => k = R) (p := ⟨R, 0, none⟩) (u := .slice (some ⟨g, 0, none⟩) n cap) rfl) hgR).nb n3
    have b2 := ((h.blk.keep k1 hgR').set 0 (.slice (some ⟨g, 0, none⟩) n cap)).nb n3
    have o2 := r2.own
    rw [show (l.take n).length = n by rw [List.length_take]; omega] at o2
    refine ⟨⟨by simpa using b2, o2, h.ne⟩, ?_⟩
    refine (((k1.mono fun k _ e => .inr (by subst e; rfl)).tr (Kp.set (F := fun k => k = R) (p := ⟨R, 0, none⟩) rfl) (fun k e => .inl (.inl e))).tr (Kp.ofNb (F := fun _ => False) n3) (fun _ e => e.elim)))
  unfold maxLen at hn2
  clear h hr hp
  rw [hn] at c2 hl hn1
  simp only [enP]
  clear hn
  go_enter Tryd.func71, Tryd.ntmps71
  go_wp2_with fail
  go_region
  go_wp2
  go_ret
  exact ⟨rfl, _, (HP.out _ (((Nb.rfl.al _).al _).tr (Below.drew (Below.refl _ _)))).1, rfl, (HP.out _ (((Nb.rfl.al _).al _).tr (Below.drew (Below.refl _ _)))).2⟩

set_option maxHeartbeats 3200000 in
set_option maxRecDepth 100000 in
theorem hpushP_any (R : Nat) (v : Value) (l : List (Nat × Nat)) (p : Nat × Nat) (w : World) (h : HeP w R v l) (hl : l.length + 1 ≤ 1000) :
    Calls Tryd.prog 72 #[.pointer (some ⟨R, 0, none⟩), .iface 48 (.agg (enP p).toArray)] w fun e w' => e = .returned (.tuple #[]) ∧ ∃ v', HeP w' R v' (l ++ [p]) ∧ (∀ g, v'.ownBlock = some g → v.ownBlock = some g ∨ w.heap.size ≤ g) ∧ Kp (fun k => k = R ∨ v.ownBlock = some k) w w' := by
  obtain ⟨a, cap, rfl, _, hn1, hn2⟩ := h.own.shape
  have c2 := h.blk.cell 0
  have f2 := h.blk.frozen 0
  have hR := h.blk.lt
  simp only [List.getElem?_toArray, List.getElem?_cons_zero, List.getElem?_cons_succ] at c2
  obtain ⟨u, hu⟩ : ∃ u, u = (enP p).toArray := ⟨_, rfl⟩
  have CE := Lib.hid (show ∀ w' : World, Nb (w.alloc (.cells u 48)) w' → ∀ j x, (enP p)[j]? = some x → w'.cell? ⟨w.heap.size, j, none⟩ = some x from fun w' n j x hx => by
    have b := (Blk.new w u 48).nb n
    rw [b.cell j, hu]
    simpa using hx)
  have OW := Lib.hid (fun w' (n : Nb w w') => h.own.nb n)
  have HB := Lib.hid h.blk
  have NE := Lib.hid h.ne
  rw [← hu]
  obtain ⟨xk, xn⟩ := p
  simp only [enP] at hu
  subst hu
  clear h
  have rT : ∀ w, (Instr.typeAssert (.iface 48 (.agg #[(.int .u64 ((xk : Nat) : Int)), (.int .i64 ((xn : Nat) : Int))])) 20 48 false).run Tryd.prog w = .ok (.agg #[(.int .u64 ((xk : Nat) : Int)), (.int .i64 ((xn : Nat) : Int))]) w := fun _ => by kernel_rfl
  go_enter Tryd.func72, Tryd.ntmps72
  go_wp2_with fail
  go_region_law (refine step_appHP _ rfl (.tmp 8) (.tmp 11) rfl (.slice a l.length cap) l (by simp [Act.eval, Act.put]) (OW.out _ ((Nb.rfl.al _).tr (Below.drew (Below.refl _ _)))) w.heap.size ⟨xk, xn⟩ (by simp [Act.eval, Act.put]) (CE.out _ (Below.drew (Below.refl _ _))) (by omega) ?_
                 intro v7 w7 ho hk7 hg7
                 have k7 := Lib.hid (show Kp (fun k => Value.ownBlock (.slice a l.length cap) = some k) w w7 from (Kp.ofNb ((Nb.rfl.al _).tr (Below.drew (Below.refl _ _)))).tr hk7 (fun k e => .inl e))
                 have g7 := Lib.hid (show ∀ g, v7.ownBlock = some g → Value.ownBlock (.slice a l.length cap) = some g ∨ w.heap.size ≤ g from fun g e => (hg7 g e).imp id (fun q => Nat.le_trans ((Nb.rfl.al _).tr (Below.drew (Below.refl _ _)) : Nb w _).size q))
                 have b7 := HB.out.keep k7.out NE.out
                 have B7 := Lib.hid b7
                 obtain ⟨L7, hL7⟩ : ∃ X, X = l ++ [(⟨xk, xn⟩ : Nat × Nat)] := ⟨_, rfl⟩
                 rw [← hL7] at ho
                 have O7 := Lib.hid ho
                 have HL7 := Lib.hid hL7
                 obtain ⟨a7, c7, rfl, _⟩ := ho.shape
                 clear hL7
                 have hR7 := b7.lt
                 have e2 : w7.cell? ⟨R, 0, none⟩ = some (.slice a l.length cap) := b7.cell 0
                 have d2 : w7.frozen? ⟨R, 0, none⟩ = false := b7.frozen 0
                 clear ho hk7 hg7 b7)
  all_goals
    have ne7 : Value.ownBlock (.slice a7 L7.length c7) ≠ some R := fun e => (g7.out R e).elim NE.out (fun q => by omega)
    have b8 := B7.out.set 0 (.slice a7 L7.length c7)
    have k8 : Kp (fun k => k = R) w7 (w7.setCell ⟨R, 0, none⟩ (.slice a7 L7.length c7)) := Kp.set (F := fun k => k = R) rfl
    have o8 := O7.out.keep k8 (fun g hg e => ne7 (by rw [hg, e]))
    have B8 := Lib.hid b8
    have O8 := Lib.hid o8
    have N7 := Lib.hid ne7
    have K8 := Lib.hid ((k7.out.mono (F' := fun k => k = R ∨ Value.ownBlock (.slice a l.length cap) = some k) (fun _ _ h => .inr h)).tr k8 (fun _ h => .inl (.inl h)))
    clear b8 k8 o8 ne7
    go_wp2
    go_end0
    exact ⟨rfl, _, ⟨by simpa using B8.out, by rw [← HL7.out]; exact O8.out, N7.out⟩, g7.out, K8.out⟩
end Go.Proofs.YtkofdbccdfpllaaDoor
