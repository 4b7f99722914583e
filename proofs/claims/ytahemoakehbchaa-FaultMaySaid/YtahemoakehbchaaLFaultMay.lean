/- For every state and every event the law FaultMay answers true and leaves its arguments as they were. No conditions. -/
import Derived.Test.YtahemoakehbchaaRows
import Derived.Test.YtahemoakehbchaaFaA
import Derived.Test.YtahemoakehbchaaFaE
import Derived.Test.YtahemoakehbchaaFaP
import Derived.WalkKit
import Derived.ProofKit
import Derived.OpenShut
import Derived.ShutString
import Derived.ChangeOld
import Derived.Below
import Derived.Carry
import Derived.Lib.SmallJoins
import Derived.Deep.RegionWith
import Derived.Deep.RegionHeld3
namespace Go.Proofs.Ytahemoakehbchaa.faultMay
open Go.ChangeShapes Go.WideShapes Go.ChangeAt Go.RowKit Go.Joins
set_option linter.unusedVariables false
set_option linter.unusedSimpArgs false
theorem own : ownKnob Try.prog.godebug = none := by kernel_rfl
theorem laidOut : laidOutB Try.prog = true := by kernel_rfl
theorem arr3 {α : Type} {cs : Array α} (h : cs.size = 3) : ∃ c0 c1 c2, cs = #[c0, c1, c2] := by
  obtain ⟨l⟩ := cs
  match l, h with
  | [c0, c1, c2], _ => exact ⟨c0, c1, c2, rfl⟩
set_option maxHeartbeats 4000000 in
set_option maxRecDepth 100000 in
theorem walk (w : World) (a0_0 : Int) (w0_0 : (Lit.int .i64 a0_0).wf = true) (a0_1 : Int) (w0_1 : (Lit.int .i64 a0_1).wf = true) (a0_2 : Bool) (a1 : Int) (w1 : (Lit.int .i64 a1).wf = true) :
    Calls Try.prog 4 #[.agg #[.int .i64 a0_0, .int .i64 a0_1, .bool a0_2], .int .i64 a1] w fun e w' => e = .returned (.bool true) ∧ Nb w w' := by
  have N1 := Lib.hid (fun w' => fnext11_any ⟨a0_0, a0_1, a0_2⟩ a1 w')
  have AL := Lib.hid (fun w' => alive11_any w')
  have heq := run_eqS
  obtain ⟨y0, hy0⟩ : ∃ y0, y0 = w.alloc (.cells #[.int .i64 a0_0, .int .i64 a0_1, .bool a0_2] 23) := ⟨_, rfl⟩
  have B0 := Lib.hid (show Blk y0 w.heap.size #[.int .i64 a0_0, .int .i64 a0_1, .bool a0_2] 23 by rw [hy0]; exact Blk.new _ _ _)
  have NY := Lib.hid (show Nb w y0 by rw [hy0]; exact Nb.rfl.al _)
  have HY := Lib.hid hy0
  clear hy0
  obtain ⟨y, hy⟩ : ∃ y, y = nxFa ⟨a0_0, a0_1, a0_2⟩ a1 := ⟨_, rfl⟩
  obtain ⟨E, hE⟩ : ∃ E, E = nxE ⟨a0_0, a0_1, a0_2⟩ a1 := ⟨_, rfl⟩
  rw [← hy, ← hE] at N1
  have HC := Lib.hid (fun w' => fchk11_any y w')
  have hcase : (E = 2 ∧ y = Fa.zero) ∨ (E = 0 ∧ okFa ⟨a0_0, a0_1, a0_2⟩ = true ∧ evOk a1 = true ∧ y = doFa ⟨a0_0, a0_1, a0_2⟩ a1) := by
    rw [hE, hy]
    unfold nxE nxFa
    by_cases hc : (okFa ⟨a0_0, a0_1, a0_2⟩ && evOk a1) = true
    · rw [if_pos hc, if_pos hc]
      simp only [Bool.and_eq_true] at hc
      exact .inr ⟨rfl, hc.1, hc.2, rfl⟩
    · rw [if_neg hc, if_neg hc]
      exact .inl ⟨rfl, rfl⟩
  clear hy hE
  obtain ⟨T, R, O⟩ := y
  simp only [Fa.cs] at N1 HC
  go_enter Try.func4, Try.ntmps4
  go_wp2_with fail
  rw [← HY.out]
  refine (AL.out _).mono ?_
  rintro e z1 ⟨rfl, q1⟩
  have b1 := B0.out.nb q1
  have M1 := Lib.hid (NY.out.tr q1)
  have c0 : z1.cell? ⟨w.heap.size, 0, none⟩ = some (.int .i64 a0_0) := (b1).cell 0
  have c1 : z1.cell? ⟨w.heap.size, 1, none⟩ = some (.int .i64 a0_1) := (b1).cell 1
  have c2 : z1.cell? ⟨w.heap.size, 2, none⟩ = some (.bool a0_2) := (b1).cell 2
  clear q1 b1
  go_wp2_with fail
  obtain ⟨z2, hz2⟩ : ∃ z2, z2 = z1.alloc (.cells #[.int .i64 a0_0, .int .i64 a0_1, .bool a0_2] 25) := ⟨_, rfl⟩
  have BX := Lib.hid (show Blk z2 z1.heap.size #[.int .i64 a0_0, .int .i64 a0_1, .bool a0_2] 25 by rw [hz2]; exact Blk.new _ _ _)
  have M2 := Lib.hid (show Nb w z2 by rw [hz2]; exact Nb.al M1.out _)
  rw [← hz2]
  clear hz2 c0 c1 c2
  refine (N1.out _).mono ?_
  rintro e z3 ⟨rfl, q3⟩
  have BX3 := Lib.hid (BX.out.nb q3)
  have M3 := Lib.hid (M2.out.tr q3)
  clear q3
  obtain ⟨z4, hz4⟩ : ∃ z4, z4 = z3.alloc (.cells #[.int .i64 T, .int .i64 R, .bool O] 25) := ⟨_, rfl⟩
  have BY4 := Lib.hid (show Blk z4 z3.heap.size #[.int .i64 T, .int .i64 R, .bool O] 25 by rw [hz4]; exact Blk.new _ _ _)
  have BX4 := Lib.hid (show Blk z4 z1.heap.size #[.int .i64 a0_0, .int .i64 a0_1, .bool a0_2] 25 by rw [hz4]; exact BX3.out.nb (Nb.rfl.al _))
  have M4 := Lib.hid (show Nb w z4 by rw [hz4]; exact Nb.al M3.out _)
  have HZ4 := Lib.hid hz4
  clear hz4
  rcases hcase with ⟨rfl, hz⟩ | ⟨rfl, hok, hev, hyd⟩
  · simp only [Fa.zero, Fa.mk.injEq] at hz
    obtain ⟨rfl, rfl, rfl⟩ := hz
    go_wp2
    go_ret
    exact ⟨by simp, Nb.al M3.out _⟩
  go_wp2_with fail
  rw [← HZ4.out]
  have hoky : okFa ⟨T, R, O⟩ = true := by rw [hyd]; exact doFa_ok hok a1
  rw [show errFa ⟨T, R, O⟩ = 0 by simp [errFa, hoky]] at HC
  refine (HC.out _).mono ?_
  rintro e z5 ⟨rfl, q5⟩
  have M5 := Lib.hid (M4.out.tr q5)
  have bx := BX4.out.nb q5
  have by5 := BY4.out.nb q5
  have x0 : z5.cell? ⟨z1.heap.size, 0, none⟩ = some (.int .i64 a0_0) := (bx).cell 0
  have x1 : z5.cell? ⟨z1.heap.size, 1, none⟩ = some (.int .i64 a0_1) := (bx).cell 1
  have x2 : z5.cell? ⟨z1.heap.size, 2, none⟩ = some (.bool a0_2) := (bx).cell 2
  have v0 : z5.cell? ⟨z3.heap.size, 0, none⟩ = some (.int .i64 T) := by5.cell 0
  have v1 : z5.cell? ⟨z3.heap.size, 1, none⟩ = some (.int .i64 R) := by5.cell 1
  have v2 : z5.cell? ⟨z3.heap.size, 2, none⟩ = some (.bool O) := by5.cell 2
  clear q5 bx by5
  cases a0_2 with
  | true =>
    rw [fa_off rfl] at hyd
    by_cases h6 : a1 = 6
    · subst h6
      rw [if_pos rfl] at hyd
      simp only [Fa.zero, Fa.mk.injEq] at hyd
      obtain ⟨rfl, rfl, rfl⟩ := hyd
      go_wp2
      go_ret
      exact ⟨by simp, M5.out⟩
    · rw [if_neg h6] at hyd
      simp only [Fa.mk.injEq] at hyd
      obtain ⟨rfl, rfl, rfl⟩ := hyd
      have d6 : (a1 == 6) = false := by rw [beq_eq_false_iff_ne]; exact h6
      have d6' : (a1 != 6) = true := by rw [bne_iff_ne]; exact h6
      clear h6
      go_wp2
      go_ret
      exact ⟨by simp, M5.out⟩
  | false =>
    obtain ⟨m1, m2, m3, m4, m5⟩ := fa_may hok rfl hev
    rw [← hyd] at m1 m2 m3 m4 m5
    simp only at m1 m2 m3 m4 m5
    obtain ⟨k1, k2, k3, k4, k5⟩ := (okFa_iff _).1 hok
    simp only at k1 k2 k3 k4
    obtain ⟨g1, g2⟩ := (evOk_iff a1).1 hev
    have d1 : decide (a0_0 + 8 < T) = false := decide_eq_false (by omega)
    have d2 : decide (a0_1 + 1 < R) = false := decide_eq_false (by omega)
    have e1 : T < a0_0 → a1 = 1 := m3
    have HH := Lib.hid (And.intro m3 (And.intro m4 m5))
    clear hyd hok hev hoky m1 m2 m3 m4 m5 k5 e1
    rcases (by omega : a1 = 1 ∨ a1 = 2 ∨ a1 = 3 ∨ a1 = 4 ∨ a1 = 5 ∨ a1 = 6) with rfl | rfl | rfl | rfl | rfl | rfl
    · have d4 : decide (R < a0_1) = false := decide_eq_false (fun h => by have := HH.out.2.1 h; omega)
      have d5 : decide (a0_0 < T) = false := decide_eq_false (fun h => by have := HH.out.2.2.1 h; omega)
      go_wp2
      all_goals go_ret
      all_goals exact ⟨by simp, M5.out⟩
    · have d3 : decide (T < a0_0) = false := decide_eq_false (fun h => by have := HH.out.1 h; omega)
      have d5 : decide (a0_0 < T) = false := decide_eq_false (fun h => by have := HH.out.2.2.1 h; omega)
      go_wp2
      all_goals go_ret
      all_goals exact ⟨by simp, M5.out⟩
    · have d3 : decide (T < a0_0) = false := decide_eq_false (fun h => by have := HH.out.1 h; omega)
      have d4 : decide (R < a0_1) = false := decide_eq_false (fun h => by have := HH.out.2.1 h; omega)
      have d5 : decide (a0_0 < T) = true := decide_eq_true (HH.out.2.2.2 (by omega))
      go_wp2
      all_goals go_ret
      all_goals exact ⟨by simp, M5.out⟩
    · have d3 : decide (T < a0_0) = false := decide_eq_false (fun h => by have := HH.out.1 h; omega)
      have d4 : decide (R < a0_1) = false := decide_eq_false (fun h => by have := HH.out.2.1 h; omega)
      have d5 : decide (a0_0 < T) = false := decide_eq_false (fun h => by have := HH.out.2.2.1 h; omega)
      go_wp2
      all_goals go_ret
      all_goals exact ⟨by simp, M5.out⟩
    · have d3 : decide (T < a0_0) = false := decide_eq_false (fun h => by have := HH.out.1 h; omega)
      have d4 : decide (R < a0_1) = false := decide_eq_false (fun h => by have := HH.out.2.1 h; omega)
      by_cases hp : a0_0 ≤ 127 ∧ a0_1 ≤ 127
      · have d5 : decide (a0_0 < T) = true := decide_eq_true (HH.out.2.2.2 (by omega))
        have d6 : decide (a0_0 ≤ 127) = true := decide_eq_true hp.1
        have d7 : decide (a0_1 ≤ 127) = true := decide_eq_true hp.2
        clear hp
        go_wp2
        all_goals go_ret
        all_goals exact ⟨by simp, M5.out⟩
      · have d5 : decide (a0_0 < T) = false := decide_eq_false (fun h => by have := HH.out.2.2.1 h; omega)
        by_cases h7 : a0_0 ≤ 127
        · have d6 : decide (a0_0 ≤ 127) = true := decide_eq_true h7
          have d7 : decide (a0_1 ≤ 127) = false := decide_eq_false (by omega)
          clear hp h7
          go_wp2
          all_goals go_ret
          all_goals exact ⟨by simp, M5.out⟩
        · have d6 : decide (a0_0 ≤ 127) = false := decide_eq_false h7
          clear hp h7
          go_wp2
          all_goals go_ret
          all_goals exact ⟨by simp, M5.out⟩
    · have d3 : decide (T < a0_0) = false := decide_eq_false (fun h => by have := HH.out.1 h; omega)
      have d4 : decide (R < a0_1) = false := decide_eq_false (fun h => by have := HH.out.2.1 h; omega)
      have d5 : decide (a0_0 < T) = false := decide_eq_false (fun h => by have := HH.out.2.2.1 h; omega)
      go_wp2
      all_goals go_ret
      all_goals exact ⟨by simp, M5.out⟩

set_option maxHeartbeats 2000000 in
set_option maxRecDepth 100000 in
theorem lifted (os : Os) (started : os.Started) (H : Type) (enc : TypeId × Value → H) :
    ReturnsInHanded {} Try.checked os 4 .any (Rows.faultMaySpec.pre6 enc Try.prog Try.f4 Rows.faultMayRow.domain false) (Rows.faultMaySpec.post enc Try.prog Try.f4 false true false false) := by
  refine returnsInHanded_of_change (C := Try.checked) own started (by kernel_rfl) Try.func4
    (ChangeSpec.witness6 (enc := enc) (C := Try.checked) false ⟨#[], #[.agg #[.int .i64 0, .int .i64 0, .bool false], .int .i64 0], []⟩ 8 (by kernel_rfl) (by kernel_rfl) (by kernel_rfl) (by kernel_rfl)) ?_
  intro W base args ds gs before hval0 hW hcnd _
  have hval : ∀ (j : Nat) t v, Try.f4.params[j]? = some t → args[j]? = some v → Value.okWide Try.prog W .any base t v := hval0
  have hW' := hW
  obtain ⟨p, q, hA0, hV, rfl, hfz, hnd⟩ := hW
  have hA : DataW.TrodAll enc Try.prog W 0 (fun _ => true) true Try.f4.params.toList args.toList ds p := hA0
  rw [Try.params4] at hA hval
  obtain ⟨v0, vs0, d0, ds0, p0, q0, hargs, rfl, rfl, h0, r0⟩ := trodAll_cons hA
  obtain ⟨v1, vs1, d1, ds1, p1, q1, rfl, rfl, rfl, h1, r1⟩ := trodAll_cons r0
  obtain ⟨rfl, rfl, rfl⟩ := trodAll_nil r1
  obtain rfl : args = #[v0, v1] := by cases args; simp_all
  obtain ⟨rfl, rfl⟩ := trodVars_none hV
  have k0 := h0
  have lt0 : ∀ x ∈ p0, x.block < W.heap.size := by obtain ⟨m, hm⟩ := k0; exact DataW.trod_lt m _ _ _ hm
  have k1 := h1
  have lt1 : ∀ x ∈ p1, x.block < W.heap.size := by obtain ⟨m, hm⟩ := k1; exact DataW.trod_lt m _ _ _ hm
  clear hA0
  obtain ⟨cs0, rfl, hz0⟩ := okWide_struct Try.underlying23 (hval 0 23 v0 rfl rfl)
  obtain ⟨c0_0, c0_1, c0_2, rfl⟩ := arr3 (hz0.trans (by kernel_rfl))
  obtain ⟨fu0, hf0⟩ := h0
  have hc0 : DataW.trod enc Try.prog W 0 (fun _ => true) true fu0 23 [c0_0, c0_1, c0_2] = some (d0, p0) := hf0
  obtain ⟨m0_0, y0_0, g0_0⟩ := open_fld Try.underlying23 hc0 0 _ rfl
  have t0_0 : DataW.trod enc Try.prog W 0 (fun _ => true) true m0_0 3 (([c0_0, c0_1, c0_2].drop 0).take (Try.prog.cellsOf 3)) = some y0_0 := g0_0
  rw [show Try.prog.cellsOf 3 = 1 from by kernel_rfl] at t0_0
  have u0_0 : DataW.trod enc Try.prog W 0 (fun _ => true) true m0_0 3 [c0_0] = some y0_0 := t0_0
  obtain ⟨m0_1, y0_1, g0_1⟩ := open_fld Try.underlying23 hc0 1 _ rfl
  have t0_1 : DataW.trod enc Try.prog W 0 (fun _ => true) true m0_1 3 (([c0_0, c0_1, c0_2].drop 1).take (Try.prog.cellsOf 3)) = some y0_1 := g0_1
  rw [show Try.prog.cellsOf 3 = 1 from by kernel_rfl] at t0_1
  have u0_1 : DataW.trod enc Try.prog W 0 (fun _ => true) true m0_1 3 [c0_1] = some y0_1 := t0_1
  obtain ⟨m0_2, y0_2, g0_2⟩ := open_fld Try.underlying23 hc0 2 _ rfl
  have t0_2 : DataW.trod enc Try.prog W 0 (fun _ => true) true m0_2 4 (([c0_0, c0_1, c0_2].drop 2).take (Try.prog.cellsOf 4)) = some y0_2 := g0_2
  rw [show Try.prog.cellsOf 4 = 1 from by kernel_rfl] at t0_2
  have u0_2 : DataW.trod enc Try.prog W 0 (fun _ => true) true m0_2 4 [c0_2] = some y0_2 := t0_2
  obtain ⟨a0_0, e0_0, x0_0, w0_0⟩ := DataW.trod_int Try.underlying3 u0_0
  obtain rfl : c0_0 = .int .i64 a0_0 := by simpa using e0_0
  obtain ⟨a0_1, e0_1, x0_1, w0_1⟩ := DataW.trod_int Try.underlying3 u0_1
  obtain rfl : c0_1 = .int .i64 a0_1 := by simpa using e0_1
  obtain ⟨a0_2, e0_2, x0_2⟩ := DataW.trod_bool Try.underlying4 u0_2
  obtain rfl : c0_2 = .bool a0_2 := by simpa using e0_2
  obtain ⟨a1, rfl, rfl, rfl, w1⟩ := open_int Try.underlying3 (hval 1 3 v1 rfl rfl) h1
  refine (walk W a0_0 w0_0 a0_1 w0_1 a0_2 a1 w1).mono fun e W' ⟨he, bel⟩ => ?_
  subst he
  exact ⟨_, rfl, _, _, _, [], _, [], hW', trodAll_mk1 (shut_bool Try.underlying4 _), (trodAll_cons_mk (Below.trod laidOut (by kernel_rfl) (of_decide_eq_true (by kernel_rfl)) k0 bel lt0) (trodAll_cons_mk (Below.trod laidOut (by kernel_rfl) (of_decide_eq_true (by kernel_rfl)) k1 bel lt1) trodAll_mk0)), rfl, bel.frame _, fun h => by cases h⟩

theorem over : Rows.faultMayRow.holds Try.pinned (OpenSpec.ofChange Rows.faultMaySpec) :=
  OpenClaim.holds_of_wide 4 Try.f4 rfl rfl rfl rfl rfl rfl rfl ⟨rfl, rfl, rfl, rfl, rfl⟩ rfl rfl rfl rfl rfl (by kernel_rfl) Try.func4 (by kernel_rfl)
    (of_decide_eq_true (by kernel_rfl)) (by unfold Func.isWrapper; first | (rw [if_pos (by decide +kernel)]; kernel_rfl) | (rw [if_neg (by decide +kernel)]; exact ⟨rfl, rfl⟩))
    (fun os started H enc _ => lifted os started H enc)
theorem proved : Rows.FaultMaySaid := over
#print axioms proved
end Go.Proofs.Ytahemoakehbchaa.faultMay
