
/- What the law FilterAdds asks of rows besides. No conditions. -/
import Derived.Test.YtaohmgklhecjbaaDoorFlW
import Derived.Test.YtaohmgklhecjbaaDoorFlU
import Derived.Deep.CutRange
namespace Go.Proofs.YtaohmgklhecjbaaDoor
set_option linter.unusedVariables false
set_option linter.unusedSimpArgs false
open Go.RowKit

theorem Blk.twoY {w : World} {o : Obj} {cs : Array Value} {t : TypeId} (h : Blk ((w.alloc o).alloc (.cells cs t)) (w.alloc o).heap.size cs t) : Blk ((w.alloc o).alloc (.cells cs t)) (w.heap.size + 1) cs t := by
  rwa [World.size_alloc] at h

/-! What two stores and ten leave of a world: the worlds that the orders of a statement with two new blocks end in. -/
abbrev st2 (w : World) (R : Nat) (c0 c1 : Value) : World := ((w).setCell ⟨R, 0, none⟩ c0).setCell ⟨R, 1, none⟩ c1
abbrev st10 (w : World) (R : Nat) (c0 c1 c2 c3 c4 c5 c6 c7 c8 c9 : Value) : World := ((((((((((w).setCell ⟨R, 0, none⟩ c0).setCell ⟨R, 1, none⟩ c1).setCell ⟨R, 2, none⟩ c2).setCell ⟨R, 3, none⟩ c3).setCell ⟨R, 4, none⟩ c4).setCell ⟨R, 5, none⟩ c5).setCell ⟨R, 6, none⟩ c6).setCell ⟨R, 7, none⟩ c7).setCell ⟨R, 8, none⟩ c8).setCell ⟨R, 9, none⟩ c9
section
variable {w w1 : World} {R G : Nat} {c0 c1 c2 c3 c4 c5 c6 c7 c8 c9 x0 x1 x2 x3 x4 x5 x6 x7 x8 x9 : Value} {t u : TypeId} {cs : Array Value} {L : List Rl} {v : Value}
theorem st2_own (h : Blk w R #[x0, x1] t) : Blk (st2 w R c0 c1) R #[c0, c1] t := (h.set 0 c0).set 1 c1
theorem st10_own (h : Blk w R #[x0, x1, x2, x3, x4, x5, x6, x7, x8, x9] t) : Blk (st10 w R c0 c1 c2 c3 c4 c5 c6 c7 c8 c9) R #[c0, c1, c2, c3, c4, c5, c6, c7, c8, c9] t := by
  have e := ((((((((((h).set 0 c0).set 1 c1).set 2 c2).set 3 c3).set 4 c4).set 5 c5).set 6 c6).set 7 c7).set 8 c8).set 9 c9
  simp only [List.setIfInBounds_toArray, List.set_cons_zero, List.set_cons_succ] at e
  exact e
theorem st2_other (h : Blk w R cs t) (hn : R ≠ G) : Blk (st2 w G c0 c1) R cs t := (h.other (p := ⟨G, 0, none⟩) hn _).other (p := ⟨G, 1, none⟩) hn _
theorem st10_other (h : Blk w R cs t) (hn : R ≠ G) : Blk (st10 w G c0 c1 c2 c3 c4 c5 c6 c7 c8 c9) R cs t := ((((((((((h).other (p := ⟨G, 0, none⟩) hn _).other (p := ⟨G, 1, none⟩) hn _).other (p := ⟨G, 2, none⟩) hn _).other (p := ⟨G, 3, none⟩) hn _).other (p := ⟨G, 4, none⟩) hn _).other (p := ⟨G, 5, none⟩) hn _).other (p := ⟨G, 6, none⟩) hn _).other (p := ⟨G, 7, none⟩) hn _).other (p := ⟨G, 8, none⟩) hn _).other (p := ⟨G, 9, none⟩) hn _
theorem st2_nb (h : Nb w1 w) (hR : w1.heap.size ≤ R) : Nb w1 (st2 w R c0 c1) := (h.st (p := ⟨R, 0, none⟩) hR _).st (p := ⟨R, 1, none⟩) hR _
theorem st10_nb (h : Nb w1 w) (hR : w1.heap.size ≤ R) : Nb w1 (st10 w R c0 c1 c2 c3 c4 c5 c6 c7 c8 c9) := ((((((((((h).st (p := ⟨R, 0, none⟩) hR _).st (p := ⟨R, 1, none⟩) hR _).st (p := ⟨R, 2, none⟩) hR _).st (p := ⟨R, 3, none⟩) hR _).st (p := ⟨R, 4, none⟩) hR _).st (p := ⟨R, 5, none⟩) hR _).st (p := ⟨R, 6, none⟩) hR _).st (p := ⟨R, 7, none⟩) hR _).st (p := ⟨R, 8, none⟩) hR _).st (p := ⟨R, 9, none⟩) hR _
theorem st2_rules (h : OwnR w v L) (hn : ∀ g, v.ownBlock = some g → ¬ g = R) : OwnR (st2 w R c0 c1) v L := (h.keep (Kp.set (F := fun b => b = R) rfl) hn).keep (Kp.set (F := fun b => b = R) rfl) hn
theorem st10_rules (h : OwnR w v L) (hn : ∀ g, v.ownBlock = some g → ¬ g = R) : OwnR (st10 w R c0 c1 c2 c3 c4 c5 c6 c7 c8 c9) v L := ((((((((((h).keep (Kp.set (F := fun b => b = R) rfl) hn).keep (Kp.set (F := fun b => b = R) rfl) hn).keep (Kp.set (F := fun b => b = R) rfl) hn).keep (Kp.set (F := fun b => b = R) rfl) hn).keep (Kp.set (F := fun b => b = R) rfl) hn).keep (Kp.set (F := fun b => b = R) rfl) hn).keep (Kp.set (F := fun b => b = R) rfl) hn).keep (Kp.set (F := fun b => b = R) rfl) hn).keep (Kp.set (F := fun b => b = R) rfl) hn).keep (Kp.set (F := fun b => b = R) rfl) hn
theorem st2_size : (st2 w R c0 c1).heap.size = w.heap.size := by simp
theorem st10_size : (st10 w R c0 c1 c2 c3 c4 c5 c6 c7 c8 c9).heap.size = w.heap.size := by simp
theorem Blk.newAt (h : R = w.heap.size) : Blk (w.alloc (.cells cs t)) R cs t := by rw [h]; exact Blk.new w cs t
theorem lt_one (w : World) (o : Obj) : w.heap.size < (w.alloc o).drew.heap.size := by
  show _ < (w.alloc o).heap.size
  rw [World.size_alloc]; omega
theorem lt_two (w : World) (o p : Obj) : w.heap.size < ((w.alloc o).alloc p).drew.heap.size ∧ w.heap.size + 1 < ((w.alloc o).alloc p).drew.heap.size := by
  have h : ((w.alloc o).alloc p).drew.heap.size = w.heap.size + 1 + 1 := by
    show ((w.alloc o).alloc p).heap.size = _
    rw [World.size_alloc, World.size_alloc]
  omega
theorem adds_A {w5 : World} (n : Nb w1 w5) (h : OwnR w5 v L) : Nb w1 ((w5.alloc (.cells #[x0, x1] t)).alloc (.cells #[c0, c1, c2, c3, c4, c5, c6, c7, c8, c9] u)) ∧ OwnR ((w5.alloc (.cells #[x0, x1] t)).alloc (.cells #[c0, c1, c2, c3, c4, c5, c6, c7, c8, c9] u)) v L ∧ Blk ((w5.alloc (.cells #[x0, x1] t)).alloc (.cells #[c0, c1, c2, c3, c4, c5, c6, c7, c8, c9] u)) w5.heap.size #[x0, x1] t ∧ Blk ((w5.alloc (.cells #[x0, x1] t)).alloc (.cells #[c0, c1, c2, c3, c4, c5, c6, c7, c8, c9] u)) (w5.heap.size + 1) #[c0, c1, c2, c3, c4, c5, c6, c7, c8, c9] u :=
  ⟨(n.al _).al _, h.nb ((Nb.rfl.al _).al _), (Blk.new w5 _ _).nb (Nb.rfl.al _), Blk.twoY (Blk.new _ _ _)⟩
theorem adds_B {w5 : World} (n : Nb w1 w5) (h : OwnR w5 v L) : Nb w1 ((w5.alloc (.cells #[c0, c1, c2, c3, c4, c5, c6, c7, c8, c9] u)).alloc (.cells #[x0, x1] t)) ∧ OwnR ((w5.alloc (.cells #[c0, c1, c2, c3, c4, c5, c6, c7, c8, c9] u)).alloc (.cells #[x0, x1] t)) v L ∧ Blk ((w5.alloc (.cells #[c0, c1, c2, c3, c4, c5, c6, c7, c8, c9] u)).alloc (.cells #[x0, x1] t)) (w5.heap.size + 1) #[x0, x1] t ∧ Blk ((w5.alloc (.cells #[c0, c1, c2, c3, c4, c5, c6, c7, c8, c9] u)).alloc (.cells #[x0, x1] t)) w5.heap.size #[c0, c1, c2, c3, c4, c5, c6, c7, c8, c9] u :=
  ⟨(n.al _).al _, h.nb ((Nb.rfl.al _).al _), Blk.twoY (Blk.new _ _ _), (Blk.new w5 _ _).nb (Nb.rfl.al _)⟩
theorem adds_C {w5 : World} (n : Nb w1 w5) (h : OwnR w5 v L) {y0 y1 : Value} (b : Blk w5 w1.heap.size #[y0, y1] t) (hg : ∀ g, v.ownBlock = some g → ¬ g = w1.heap.size) : Nb w1 ((st2 w5 w1.heap.size x0 x1).alloc (.cells #[c0, c1, c2, c3, c4, c5, c6, c7, c8, c9] u)) ∧ OwnR ((st2 w5 w1.heap.size x0 x1).alloc (.cells #[c0, c1, c2, c3, c4, c5, c6, c7, c8, c9] u)) v L ∧ Blk ((st2 w5 w1.heap.size x0 x1).alloc (.cells #[c0, c1, c2, c3, c4, c5, c6, c7, c8, c9] u)) w1.heap.size #[x0, x1] t ∧ Blk ((st2 w5 w1.heap.size x0 x1).alloc (.cells #[c0, c1, c2, c3, c4, c5, c6, c7, c8, c9] u)) w5.heap.size #[c0, c1, c2, c3, c4, c5, c6, c7, c8, c9] u :=
  ⟨(st2_nb n (Nat.le_refl _)).al _, (st2_rules h hg).nb (Nb.rfl.al _), (st2_own b).nb (Nb.rfl.al _), Blk.newAt st2_size.symm⟩
theorem adds_D {w5 : World} (n : Nb w1 w5) (h : OwnR w5 v L) {y0 y1 z0 z1 z2 z3 z4 z5 z6 z7 z8 z9 : Value} (b : Blk w5 w1.heap.size #[y0, y1] t) (d : Blk w5 (w1.heap.size + 1) #[z0, z1, z2, z3, z4, z5, z6, z7, z8, z9] u) (hg : ∀ g, v.ownBlock = some g → ¬ g = w1.heap.size) (hg1 : ∀ g, v.ownBlock = some g → ¬ g = w1.heap.size + 1) : Nb w1 (st10 (st2 w5 w1.heap.size x0 x1) (w1.heap.size + 1) c0 c1 c2 c3 c4 c5 c6 c7 c8 c9) ∧ OwnR (st10 (st2 w5 w1.heap.size x0 x1) (w1.heap.size + 1) c0 c1 c2 c3 c4 c5 c6 c7 c8 c9) v L ∧ Blk (st10 (st2 w5 w1.heap.size x0 x1) (w1.heap.size + 1) c0 c1 c2 c3 c4 c5 c6 c7 c8 c9) w1.heap.size #[x0, x1] t ∧ Blk (st10 (st2 w5 w1.heap.size x0 x1) (w1.heap.size + 1) c0 c1 c2 c3 c4 c5 c6 c7 c8 c9) (w1.heap.size + 1) #[c0, c1, c2, c3, c4, c5, c6, c7, c8, c9] u :=
  ⟨st10_nb (st2_nb n (Nat.le_refl _)) (Nat.le_succ _), st10_rules (st2_rules h hg) hg1, st10_other (st2_own b) (by omega), st10_own (st2_other d (by omega))⟩
theorem adds_E {w5 : World} (n : Nb w1 w5) (h : OwnR w5 v L) {z0 z1 z2 z3 z4 z5 z6 z7 z8 z9 : Value} (d : Blk w5 w1.heap.size #[z0, z1, z2, z3, z4, z5, z6, z7, z8, z9] u) (hg : ∀ g, v.ownBlock = some g → ¬ g = w1.heap.size) : Nb w1 ((st10 w5 w1.heap.size c0 c1 c2 c3 c4 c5 c6 c7 c8 c9).alloc (.cells #[x0, x1] t)) ∧ OwnR ((st10 w5 w1.heap.size c0 c1 c2 c3 c4 c5 c6 c7 c8 c9).alloc (.cells #[x0, x1] t)) v L ∧ Blk ((st10 w5 w1.heap.size c0 c1 c2 c3 c4 c5 c6 c7 c8 c9).alloc (.cells #[x0, x1] t)) w5.heap.size #[x0, x1] t ∧ Blk ((st10 w5 w1.heap.size c0 c1 c2 c3 c4 c5 c6 c7 c8 c9).alloc (.cells #[x0, x1] t)) w1.heap.size #[c0, c1, c2, c3, c4, c5, c6, c7, c8, c9] u :=
  ⟨(st10_nb n (Nat.le_refl _)).al _, (st10_rules h hg).nb (Nb.rfl.al _), Blk.newAt st10_size.symm, (st10_own d).nb (Nb.rfl.al _)⟩
theorem adds_F {w5 : World} (n : Nb w1 w5) (h : OwnR w5 v L) {y0 y1 z0 z1 z2 z3 z4 z5 z6 z7 z8 z9 : Value} (b : Blk w5 (w1.heap.size + 1) #[y0, y1] t) (d : Blk w5 w1.heap.size #[z0, z1, z2, z3, z4, z5, z6, z7, z8, z9] u) (hg : ∀ g, v.ownBlock = some g → ¬ g = w1.heap.size) (hg1 : ∀ g, v.ownBlock = some g → ¬ g = w1.heap.size + 1) : Nb w1 (st10 (st2 w5 (w1.heap.size + 1) x0 x1) w1.heap.size c0 c1 c2 c3 c4 c5 c6 c7 c8 c9) ∧ OwnR (st10 (st2 w5 (w1.heap.size + 1) x0 x1) w1.heap.size c0 c1 c2 c3 c4 c5 c6 c7 c8 c9) v L ∧ Blk (st10 (st2 w5 (w1.heap.size + 1) x0 x1) w1.heap.size c0 c1 c2 c3 c4 c5 c6 c7 c8 c9) (w1.heap.size + 1) #[x0, x1] t ∧ Blk (st10 (st2 w5 (w1.heap.size + 1) x0 x1) w1.heap.size c0 c1 c2 c3 c4 c5 c6 c7 c8 c9) w1.heap.size #[c0, c1, c2, c3, c4, c5, c6, c7, c8, c9] u :=
  ⟨st10_nb (st2_nb n (Nat.le_succ _)) (Nat.le_refl _), st10_rules (st2_rules h hg1) hg, st10_other (st2_own b) (by omega), st10_own (st2_other d (by omega))⟩
end
/-- A rule more. -/
theorem okB_more (L : List Rl) (r : Rl) (h : okB (L ++ [r]) = true) : L.length ≤ 31 := by
  have := ((okB_iff _).1 h).1
  rw [List.length_append, List.length_singleton] at this
  omega
/-- What the law asks of the answers: none of a bank or a frame that may not be, else what the list's law says. -/
theorem adds_sum {f : Hd} {d : List Nat} {L L2 : List Rl} {r : Rl} {el i5 i6 t7 : Bool} {b1 b2 e3 n3 e4 n4 e5 e6 : Nat} (hf : WdH f) (hL : L2 = L ++ [r]) (hb1 : b1 = bkE L2) (hb2 : b2 = checkN f d) (he3 : e3 = findE f d L) (hn3 : n3 = findN f d L) (he4 : e4 = findE f d L2) (hn4 : n4 = findN f d L2)
    (hi5 : i5 = inV f d L el) (he5 : e5 = inE f d L) (hi6 : i6 = inV f d L2 el) (he6 : e6 = inE f d L2) (ht7 : t7 = fitR f d r) :
    b1 = 2 ∨ (b1 = 0 ∧ b2 = 2) ∨ (b1 = 0 ∧ b2 = 0 ∧ e5 = 0 ∧ e6 = 0 ∧ ((e3 = 0 ∧ e4 = 0 ∧ n4 = n3 ∧ i6 = i5) ∨ (e3 = 9 ∧ t7 = true ∧ e4 = 0 ∧ n4 = L.length ∧ i6 = r.N) ∨ (e3 = 9 ∧ t7 = false ∧ e4 = 9 ∧ i6 = el ∧ i5 = el))) := by
  subst hL hb1 hb2 he3 hn3 he4 hn4 hi5 he5 hi6 he6 ht7
  cases h : okB (L ++ [r]) with
  | false => exact .inl (by simp [bkE, h])
  | true =>
    cases hk : okF f d with
    | false => exact .inr (.inl ⟨by simp [bkE, h], by simp [checkN, hk]⟩)
    | true =>
      refine .inr (.inr ⟨by simp [bkE, h], by simp [checkN, hk], ?_⟩)
      have hm := (okB_snoc h).2
      cases ha : L.any (ofR f) with
      | true =>
        obtain ⟨h1, h2, h3, h4, h5, h6⟩ := adds_old h hk ha el
        exact ⟨h5, h6, .inl ⟨h1, h2, h3, h4⟩⟩
      | false =>
        cases ho : ofR f r with
        | true =>
          obtain ⟨h1, h2, h3, h4, h5, h6⟩ := adds_new h hk ha ho el
          exact ⟨h5, h6, .inr (.inl ⟨h1, by simp [fitR, hm, hk, ho], h2, h3, h4⟩)⟩
        | false =>
          obtain ⟨h1, h2, h3, h4, h5, h6⟩ := adds_none h hk ha ho el
          exact ⟨h5, h6, .inr (.inr ⟨h1, by simp [fitR, hm, hk, ho], h2, h3, h4⟩)⟩
end Go.Proofs.YtaohmgklhecjbaaDoor
