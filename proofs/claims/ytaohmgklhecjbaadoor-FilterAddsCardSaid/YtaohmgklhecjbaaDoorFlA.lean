
/- The program's rules: mayBe, kind, alike, fits, Fits. Condition: the table of longer sizes holds what the program's text lays there. -/
import Derived.Test.YtaohmgklhecjbaaDoorFlV
import Derived.Deep.RegionHeld3
import Derived.Lib.QuietBelow
namespace Go.Proofs.YtaohmgklhecjbaaDoor
set_option linter.unusedVariables false
set_option linter.unusedSimpArgs false
open Go.RowKit Go.Sort

theorem Blk.r10 {w : World} {R : Nat} {u0 u1 u2 u3 u4 u5 u6 u7 u8 u9 : Value} {t : TypeId} (h : Blk w R #[u0, u1, u2, u3, u4, u5, u6, u7, u8, u9] t) : w.cell? ⟨R, 0, none⟩ = some u0 ∧ w.cell? ⟨R, 1, none⟩ = some u1 ∧ w.cell? ⟨R, 2, none⟩ = some u2 ∧ w.cell? ⟨R, 3, none⟩ = some u3 ∧ w.cell? ⟨R, 4, none⟩ = some u4 ∧ w.cell? ⟨R, 5, none⟩ = some u5 ∧ w.cell? ⟨R, 6, none⟩ = some u6 ∧ w.cell? ⟨R, 7, none⟩ = some u7 ∧ w.cell? ⟨R, 8, none⟩ = some u8 ∧ w.cell? ⟨R, 9, none⟩ = some u9 :=
  ⟨h.cell 0, h.cell 1, h.cell 2, h.cell 3, h.cell 4, h.cell 5, h.cell 6, h.cell 7, h.cell 8, h.cell 9⟩

set_option maxHeartbeats 800000 in
theorem mayBe_any (r : Rl) (w : World) : Calls Tryd.prog 27 #[.agg r.ca] w fun e w' => e = .returned (.bool (mayR r)) ∧ Nb w w' := by
  obtain ⟨K, I, IM, S, SM, V, VM, A, AM, N⟩ := r
  simp only [Rl.ca]
  by_cases h1 : 1 ≤ K
  · have d1 : decide (1 ≤ K) = true := decide_eq_true h1
    cases d2 : decide (K ≤ 7)
    all_goals clear h1
    all_goals go_enter Tryd.func27, Tryd.ntmps27
    all_goals go_wp2
    all_goals go_ret
    all_goals exact ⟨by simp [mayR, d1, d2], Nb.rfl.al _⟩
  · have d1 : decide (1 ≤ K) = false := decide_eq_false h1
    clear h1
    go_enter Tryd.func27, Tryd.ntmps27
    go_wp2
    go_ret
    exact ⟨by simp [mayR, d1], Nb.rfl.al _⟩

set_option maxHeartbeats 800000 in
theorem kind15_any (f : Hd) (a : Option Addr) (n cap : Nat) (w : World) (hk : f.K = 1 ∨ f.K = 2 ∨ f.K = 3) : Calls Tryd.prog 34 #[.agg (f.cs (.slice a n cap))] w fun e w' => e = .returned (.int .i64 (kindN f.K)) ∧ Nb w w' := by
  obtain ⟨K, I, X, R, B, E, S, D, V, A⟩ := f
  simp only [Hd.cs] at hk ⊢
  rcases hk with rfl | rfl | rfl
  all_goals go_enter Tryd.func34, Tryd.ntmps34
  all_goals go_wp2
  all_goals go_ret
  all_goals exact ⟨rfl, Nb.rfl.al _⟩

set_option maxHeartbeats 400000 in
theorem alike32_any (a b m : Int) (w : World) : Calls Tryd.prog 35 #[.int .u32 a, .int .u32 b, .int .u32 m] w fun e w' => e = .returned (.bool (al32 a b m)) ∧ w' = w := by
  go_enter Tryd.func35, Tryd.ntmps35
  go_wp2
  go_ret
  exact ⟨rfl, rfl⟩
set_option maxHeartbeats 400000 in
theorem alike8_any (a b m : Int) (w : World) : Calls Tryd.prog 36 #[.int .u8 a, .int .u8 b, .int .u8 m] w fun e w' => e = .returned (.bool (al8 a b m)) ∧ w' = w := by
  go_enter Tryd.func36, Tryd.ntmps36
  go_wp2
  go_ret
  exact ⟨rfl, rfl⟩

set_option maxHeartbeats 4000000 in
set_option maxRecDepth 100000 in
theorem fits15_any (f : Hd) (a : Option Addr) (n cap : Nat) (r : Rl) (w : World) (hk : f.K = 1 ∨ f.K = 2 ∨ f.K = 3) :
    Calls Tryd.prog 25 #[.agg (f.cs (.slice a n cap)), .agg r.ca] w fun e w' => e = .returned (.bool (ofR f r)) ∧ Nb w w' := by
  have HK := Lib.hid (fun w' => kind15_any f a n cap w' hk)
  have HO := Lib.hid (show ofR f r = (hasK r.K f.K && (al32 f.I r.I r.IM && (al8 f.D r.S r.SM && (al8 f.V r.V r.VM && al32 f.A r.A r.AM)))) from rfl)
  have h0 : (bits BinOp.and IntKind.i64 r.K (kindN f.K) != 0) = hasK r.K f.K := rfl
  rw [HO.out]
  clear hk HO
  obtain ⟨K, I, X, R, B, E, S, D, V, A⟩ := f
  obtain ⟨rK, rI, rIM, rS, rSM, rV, rVM, rA, rAM, rN⟩ := r
  simp only [Hd.cs, Rl.ca] at HK h0 ⊢
  obtain ⟨w1, hw1⟩ : ∃ w1, w1 = (w.alloc (.cells #[.int .i64 K, .int .u32 I, .bool X, .bool R, .bool B, .bool E, .bool S, .int .u8 D, .int .u8 V, .int .u32 A, .slice a n cap] 63)).alloc (.cells #[.int .i64 rK, .int .u32 rI, .int .u32 rIM, .int .u8 rS, .int .u8 rSM, .int .u8 rV, .int .u8 rVM, .int .u32 rA, .int .u32 rAM, .bool rN] 44) := ⟨_, rfl⟩
  obtain ⟨B0, hB0⟩ : ∃ B0, B0 = w.heap.size := ⟨_, rfl⟩
  have BF := Lib.hid (show Blk w1 B0 #[.int .i64 K, .int .u32 I, .bool X, .bool R, .bool B, .bool E, .bool S, .int .u8 D, .int .u8 V, .int .u32 A, .slice a n cap] 63 by rw [hw1, hB0]; exact (Blk.new w _ _).nb (Nb.rfl.al _))
  have BR := Lib.hid (show Blk w1 (B0 + 1) #[.int .i64 rK, .int .u32 rI, .int .u32 rIM, .int .u8 rS, .int .u8 rSM, .int .u8 rV, .int .u8 rVM, .int .u32 rA, .int .u32 rAM, .bool rN] 44 by
    rw [hw1, hB0]
    have := Blk.new (w.alloc (.cells #[.int .i64 K, .int .u32 I, .bool X, .bool R, .bool B, .bool E, .bool S, .int .u8 D, .int .u8 V, .int .u32 A, .slice a n cap] 63)) #[.int .i64 rK, .int .u32 rI, .int .u32 rIM, .int .u8 rS, .int .u8 rSM, .int .u8 rV, .int .u8 rVM, .int .u32 rA, .int .u32 rAM, .bool rN] 44
    rwa [World.size_alloc] at this)
  have N1 := Lib.hid (show Nb w w1 by rw [hw1]; exact (Nb.rfl.al _).al _)
  obtain ⟨c0, c1, c2, c3, c4, c5, c6, c7, c8, c9, c10⟩ := BF.out.c11
  obtain ⟨d0, d1, d2, d3, d4, d5, d6, d7, d8, d9⟩ := BR.out.r10
  have kc0 := cell_regrown c0
  have kc1 := cell_regrown c1
  have kc2 := cell_regrown c2
  have kc3 := cell_regrown c3
  have kc4 := cell_regrown c4
  have kc5 := cell_regrown c5
  have kc6 := cell_regrown c6
  have kc7 := cell_regrown c7
  have kc8 := cell_regrown c8
  have kc9 := cell_regrown c9
  have kc10 := cell_regrown c10
  have kd0 := cell_regrown d0
  have kd1 := cell_regrown d1
  have kd2 := cell_regrown d2
  have kd3 := cell_regrown d3
  have kd4 := cell_regrown d4
  have kd5 := cell_regrown d5
  have kd6 := cell_regrown d6
  have kd7 := cell_regrown d7
  have kd8 := cell_regrown d8
  have kd9 := cell_regrown d9
  generalize kindN K = kn at *
  generalize hasK rK K = b0 at *
  generalize hb1 : al32 I rI rIM = b1
  generalize hb2 : al8 D rS rSM = b2
  generalize hb3 : al8 V rV rVM = b3
  generalize hb4 : al32 A rA rAM = b4
  obtain ⟨bb, hbb⟩ : ∃ bb, bb = (b0 && (b1 && (b2 && (b3 && b4)))) := ⟨_, rfl⟩
  rw [← hbb]
  have HBB := Lib.hid hbb
  clear hbb c0 c1 c2 c3 c4 c5 c6 c7 c8 c9 c10 d0 d1 d2 d3 d4 d5 d6 d7 d8 d9
  go_enter Tryd.func25, Tryd.ntmps25
  go_wp2_with fail
  rw [← hw1, ← hB0]
  clear hw1 hB0
  have KQ := fun d os => Calls.regrown_of (HK.out (grow (redrawn w1 d) os))
  have Q1 : ∀ d os, Calls Tryd.prog 35 #[.int .u32 I, .int .u32 rI, .int .u32 rIM] (grow (redrawn w1 d) os) fun e w'' => e = .returned (.bool b1) ∧ ∃ p : Regrown, w'' = grow (redrawn w1 p.d) p.os := fun d os => Calls.regrown_of ((alike32_any I rI rIM _).mono fun e w' h => ⟨by rw [h.1, hb1], h.2 ▸ Below.refl _ _⟩)
  have Q2 : ∀ d os, Calls Tryd.prog 36 #[.int .u8 D, .int .u8 rS, .int .u8 rSM] (grow (redrawn w1 d) os) fun e w'' => e = .returned (.bool b2) ∧ ∃ p : Regrown, w'' = grow (redrawn w1 p.d) p.os := fun d os => Calls.regrown_of ((alike8_any D rS rSM _).mono fun e w' h => ⟨by rw [h.1, hb2], h.2 ▸ Below.refl _ _⟩)
  have Q3 : ∀ d os, Calls Tryd.prog 36 #[.int .u8 V, .int .u8 rV, .int .u8 rVM] (grow (redrawn w1 d) os) fun e w'' => e = .returned (.bool b3) ∧ ∃ p : Regrown, w'' = grow (redrawn w1 p.d) p.os := fun d os => Calls.regrown_of ((alike8_any V rV rVM _).mono fun e w' h => ⟨by rw [h.1, hb3], h.2 ▸ Below.refl _ _⟩)
  have Q4 : ∀ d os, Calls Tryd.prog 35 #[.int .u32 A, .int .u32 rA, .int .u32 rAM] (grow (redrawn w1 d) os) fun e w'' => e = .returned (.bool b4) ∧ ∃ p : Regrown, w'' = grow (redrawn w1 p.d) p.os := fun d os => Calls.regrown_of ((alike32_any A rA rAM _).mono fun e w' h => ⟨by rw [h.1, hb4], h.2 ▸ Below.refl _ _⟩)
  clear HK BF BR hb1 hb2 hb3 hb4
  cases b0
  · refine wp_region_quiet_below (by kernel_rfl) (by kernel_rfl) ?_
    repeat (go_big_quiet_step (first
      | (go_at_call 34; exact KQ _ _)
      | (go_at_call_of 35 (Value.int .u32 rI); exact Q1 _ _)
      | (go_at_call_of 36 (Value.int .u8 rS); exact Q2 _ _)
      | (go_at_call_of 36 (Value.int .u8 rV); exact Q3 _ _)
      | (go_at_call_of 35 (Value.int .u32 rA); exact Q4 _ _)))
    refine wpQuiet_nil ?_
    intro wz hz
    obtain ⟨⟨dq, osq⟩, rfl⟩ := hz
    go_wp2
    go_ret
    exact ⟨by rw [HBB.out]; simp, N1.out.tr (below_regrown w1 dq osq)⟩
  · cases b1
    · refine wp_region_quiet_below (by kernel_rfl) (by kernel_rfl) ?_
      repeat (go_big_quiet_step (first
        | (go_at_call 34; exact KQ _ _)
        | (go_at_call_of 35 (Value.int .u32 rI); exact Q1 _ _)
        | (go_at_call_of 36 (Value.int .u8 rS); exact Q2 _ _)
        | (go_at_call_of 36 (Value.int .u8 rV); exact Q3 _ _)
        | (go_at_call_of 35 (Value.int .u32 rA); exact Q4 _ _)))
      refine wpQuiet_nil ?_
      intro wz hz
      obtain ⟨⟨dq, osq⟩, rfl⟩ := hz
      go_wp2
      go_ret
      exact ⟨by rw [HBB.out]; simp, N1.out.tr (below_regrown w1 dq osq)⟩
    · cases b2
      · refine wp_region_quiet_below (by kernel_rfl) (by kernel_rfl) ?_
        repeat (go_big_quiet_step (first
          | (go_at_call 34; exact KQ _ _)
          | (go_at_call_of 35 (Value.int .u32 rI); exact Q1 _ _)
          | (go_at_call_of 36 (Value.int .u8 rS); exact Q2 _ _)
          | (go_at_call_of 36 (Value.int .u8 rV); exact Q3 _ _)
          | (go_at_call_of 35 (Value.int .u32 rA); exact Q4 _ _)))
        refine wpQuiet_nil ?_
        intro wz hz
        obtain ⟨⟨dq, osq⟩, rfl⟩ := hz
        go_wp2
        go_ret
        exact ⟨by rw [HBB.out]; simp, N1.out.tr (below_regrown w1 dq osq)⟩
      · cases b3
        · refine wp_region_quiet_below (by kernel_rfl) (by kernel_rfl) ?_
          repeat (go_big_quiet_step (first
            | (go_at_call 34; exact KQ _ _)
            | (go_at_call_of 35 (Value.int .u32 rI); exact Q1 _ _)
            | (go_at_call_of 36 (Value.int .u8 rS); exact Q2 _ _)
            | (go_at_call_of 36 (Value.int .u8 rV); exact Q3 _ _)
            | (go_at_call_of 35 (Value.int .u32 rA); exact Q4 _ _)))
          refine wpQuiet_nil ?_
          intro wz hz
          obtain ⟨⟨dq, osq⟩, rfl⟩ := hz
          go_wp2
          go_ret
          exact ⟨by rw [HBB.out]; simp, N1.out.tr (below_regrown w1 dq osq)⟩
        · cases b4
          all_goals (
            refine wp_region_quiet_below (by kernel_rfl) (by kernel_rfl) ?_
            repeat (go_big_quiet_step (first
              | (go_at_call 34; exact KQ _ _)
              | (go_at_call_of 35 (Value.int .u32 rI); exact Q1 _ _)
              | (go_at_call_of 36 (Value.int .u8 rS); exact Q2 _ _)
              | (go_at_call_of 36 (Value.int .u8 rV); exact Q3 _ _)
              | (go_at_call_of 35 (Value.int .u32 rA); exact Q4 _ _)))
            refine wpQuiet_nil ?_
            intro wz hz
            obtain ⟨⟨dq, osq⟩, rfl⟩ := hz
            go_wp2
            go_ret
            exact ⟨by rw [HBB.out]; simp, N1.out.tr (below_regrown w1 dq osq)⟩)
end Go.Proofs.YtaohmgklhecjbaaDoor
