
/- Package heaps: how many wait, one more, the first one, and it taken. Condition: at most a thousand. -/
import Derived.Test.YtkofdbccdfpllaaDoorHoU
namespace Go.Proofs.YtkofdbccdfpllaaDoor
set_option linter.unusedVariables false
set_option linter.unusedSimpArgs false
open Go.RowKit Go.Sort

set_option maxHeartbeats 400000 in
theorem wlenP_any (R : Nat) (v : Value) (l : List (Nat × Nat)) (w : World) (h : HeP w R v l) :
    Calls Tryd.prog 33 #[.pointer (some ⟨R, 0, none⟩)] w fun e w' => e = .returned (.int .i64 (l.length : Nat)) ∧ w' = w := by
  have HL := Lib.hid (hlenP_any R v l w h)
  clear h
  go_enter Tryd.func33, Tryd.ntmps33
  go_wp2_with fail
  refine HL.out.mono ?_
  rintro e w1 ⟨rfl, rfl⟩
  go_wp2
  go_ret
  exact ⟨rfl, rfl⟩

set_option maxHeartbeats 1600000 in
set_option maxRecDepth 100000 in
theorem wputP_any (R : Nat) (v : Value) (l : List (Nat × Nat)) (p : Nat × Nat) (w : World) (h : HeP w R v l) (hl : l.length + 1 ≤ 1000) (hh : HeQ d0 id allQ l l.length) :
    Calls Tryd.prog 19 #[.pointer (some ⟨R, 0, none⟩), .agg (enP p).toArray] w fun e w' => e = .returned (.tuple #[]) ∧ ∃ v' l', HeP w' R v' l' ∧ l'.Perm (l ++ [p]) ∧ HeQ d0 id allQ l' l'.length ∧ (∀ g, v'.ownBlock = some g → v.ownBlock = some g ∨ w.heap.size ≤ g) ∧ Kp (fun k => k = R ∨ v.ownBlock = some k) w w' := by
  have HP := Lib.hid (fun w' (n : Nb w w') => hhpushP_any R v l p w' (h.nb n) hl hh)
  obtain ⟨xk, xn⟩ := p
  simp only [enP] at HP
  simp only [enP]
  have hRl := h.blk.lt
  have hgl := fun g (e : v.ownBlock = some g) => h.own.lt e
  obtain ⟨y, hy⟩ : ∃ y, y = w.alloc (.cells #[(.int .u64 ((xk : Nat) : Int)), (.int .i64 ((xn : Nat) : Int))] 48) := ⟨_, rfl⟩
  have BX := Lib.hid (show Blk y w.heap.size #[(.int .u64 ((xk : Nat) : Int)), (.int .i64 ((xn : Nat) : Int))] 48 by rw [hy]; exact Blk.new _ _ _)
  have NY := Lib.hid (show Nb w y by rw [hy]; exact Nb.rfl.al _)
  have HY := Lib.hid hy
  have NR := Lib.hid (show ∀ k, (k = R ∨ v.ownBlock = some k) → k < w.heap.size from fun k e => e.elim (fun e => by rw [e]; exact hRl) (hgl k))
  clear hy hgl hRl
  clear h hh
  go_enter Tryd.func19, Tryd.ntmps19
  go_wp2_with fail
  rw [← HY.out]
  have ND := Lib.hid (show Nb w y.drew from NY.out.tr (Below.drew (Below.refl _ _)))
  have BD := Lib.hid (BX.out.nb (Below.drew (Below.refl _ _) : Nb y y.drew))
  obtain ⟨a0, a1⟩ : y.cell? ⟨w.heap.size, 0, none⟩ = some (.int .u64 ((xk : Nat) : Int)) ∧ y.cell? ⟨w.heap.size, 1, none⟩ = some (.int .i64 ((xn : Nat) : Int)) := ⟨BX.out.cell 0, BX.out.cell 1⟩
  go_region_held3 (fun w' => w'.cell? ⟨w.heap.size, 0, none⟩ = some (.int .u64 ((xk : Nat) : Int)) ∧ w'.cell? ⟨w.heap.size, 1, none⟩ = some (.int .i64 ((xn : Nat) : Int))) (first | go_keep | exact (fun (b : Blk w7 w.heap.size _ _) => ⟨b.cell 0, b.cell 1⟩) (BD.out.keep q5 (fun e => Nat.lt_irrefl _ (NR.out _ e)))) ((go_at_call 32; refine (HP.out _ ND.out).mono ?_; rintro e w7 ⟨rfl, v7, l7, q1, q2, q3, q4, q5⟩))
  have Q1 := Lib.hid q1
  have Q2 := Lib.hid q2
  have Q3 := Lib.hid q3
  have Q4 := Lib.hid (show ∀ g, v7.ownBlock = some g → v.ownBlock = some g ∨ w.heap.size ≤ g from fun g e => (q4 g e).imp id (fun h => Nat.le_trans ND.out.size h))
  have Q5 := Lib.hid ((Kp.ofNb ND.out).tr q5 (fun k e => .inl e))
  clear q1 q2 q3 q4 q5
  go_wp2
  go_end0
  exact ⟨rfl, v7, l7, Q1.out, Q2.out, Q3.out, Q4.out, Q5.out⟩
end Go.Proofs.YtkofdbccdfpllaaDoor
