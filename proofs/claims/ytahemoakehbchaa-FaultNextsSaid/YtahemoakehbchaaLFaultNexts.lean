/- For every state and every event the law FaultNexts answers true and leaves its arguments as they were. No conditions. -/
import Derived.Test.YtahemoakehbchaaRows
import Derived.Test.YtahemoakehbchaaFaA
import Derived.Test.YtahemoakehbchaaFaE
import Derived.Test.YtahemoakehbchaaFaP
import Derived.Test.YtahemoakehbchaaFaR
import Derived.WalkKit
import Derived.ProofKit
import Derived.OpenShut
import Derived.ShutString
import Derived.ChangeOld
import Derived.Below
import Derived.Carry
import Derived.Lib.SmallJoins
import Derived.Deep.RegionWith
import Derived.Deep.RegionHeld3
namespace Go.Proofs.Ytahemoakehbchaa.faultNexts
open Go.ChangeShapes Go.WideShapes Go.ChangeAt Go.RowKit Go.Joins
set_option linter.unusedVariables false
set_option linter.unusedSimpArgs false
theorem own : ownKnob Try.prog.godebug = none := by kernel_rfl
theorem laidOut : laidOutB Try.prog = true := by kernel_rfl
theorem arr3 {α : Type} {cs : Array α} (h : cs.size = 3) : ∃ c0 c1 c2, cs = #[c0, c1, c2] := by
  obtain ⟨l⟩ := cs
  match l, h with
  | [c0, c1, c2], _ => exact ⟨c0, c1, c2, rfl⟩
set_option maxHeartbeats 4000000 in
set_option maxRecDepth 100000 in
theorem walk (w : World) (a0_0 : Int) (w0_0 : (Lit.int .i64 a0_0).wf = true) (a0_1 : Int) (w0_1 : (Lit.int .i64 a0_1).wf = true) (a0_2 : Bool) (a1 : Int) (w1 : (Lit.int .i64 a1).wf = true) :
    Calls Try.prog 3 #[.agg #[.int .i64 a0_0, .int .i64 a0_1, .bool a0_2], .int .i64 a1] w fun e w' => e = .returned (.bool true) ∧ Nb w w' := by
  have K1 := Lib.hid (fun w' => fmode11_any ⟨a0_0, a0_1, a0_2⟩ w')
  have K2 := Lib.hid (fun w' => refmode11_any ⟨a0_0, a0_1, a0_2⟩ w')
  have K3 := Lib.hid (fun w' => fnext11_any ⟨a0_0, a0_1, a0_2⟩ a1 w')
  have K4 := Lib.hid (fun w' => refnext11_any ⟨a0_0, a0_1, a0_2⟩ a1 w')
  have K5 := Lib.hid (fun w' => fchk11_any ⟨a0_0, a0_1, a0_2⟩ w')
  have K6 := Lib.hid (fun w' => refchk11_any ⟨a0_0, a0_1, a0_2⟩ w')
  have AL := Lib.hid (fun w' => alive11_any w')
  have heq := run_eqR
  obtain ⟨y0, hy0⟩ : ∃ y0, y0 = w.alloc (.cells #[.int .i64 a0_0, .int .i64 a0_1, .bool a0_2] 23) := ⟨_, rfl⟩
  have B0 := Lib.hid (show Blk y0 w.heap.size #[.int .i64 a0_0, .int .i64 a0_1, .bool a0_2] 23 by rw [hy0]; exact Blk.new _ _ _)
  have NY := Lib.hid (show Nb w y0 by rw [hy0]; exact Nb.rfl.al _)
  have HY := Lib.hid hy0
  clear hy0
  generalize nxFa ⟨a0_0, a0_1, a0_2⟩ a1 = y at K3 K4
  generalize nxE ⟨a0_0, a0_1, a0_2⟩ a1 = E at K3 K4
  generalize (if okFa ⟨a0_0, a0_1, a0_2⟩ = true then isFa ⟨a0_0, a0_1, a0_2⟩ else 0) = MV at K1 K2
  generalize errFa ⟨a0_0, a0_1, a0_2⟩ = EV at K1 K2 K5 K6
  obtain ⟨T, R, O⟩ := y
  simp only [Fa.cs] at K1 K2 K3 K4 K5 K6
  go_enter Try.func3, Try.ntmps3
  go_wp2_with fail
  rw [← HY.out]
  refine (AL.out _).mono ?_
  rintro e z1 ⟨rfl, q1⟩
  have B1 := Lib.hid (B0.out.nb q1)
  have M1 := Lib.hid (NY.out.tr q1)
  clear q1
  have c0 : z1.cell? ⟨w.heap.size, 0, none⟩ = some (.int .i64 a0_0) := (B1.out).cell 0
  have c1 : z1.cell? ⟨w.heap.size, 1, none⟩ = some (.int .i64 a0_1) := (B1.out).cell 1
  have c2 : z1.cell? ⟨w.heap.size, 2, none⟩ = some (.bool a0_2) := (B1.out).cell 2
  go_wp2_with fail
  obtain ⟨z2, hz2⟩ : ∃ z2, z2 = z1.alloc (.cells #[.int .i64 a0_0, .int .i64 a0_1, .bool a0_2] 25) := ⟨_, rfl⟩
  have BX := Lib.hid (show Blk z2 z1.heap.size #[.int .i64 a0_0, .int .i64 a0_1, .bool a0_2] 25 by rw [hz2]; exact Blk.new _ _ _)
  have B2 := Lib.hid (show Blk z2 w.heap.size #[.int .i64 a0_0, .int .i64 a0_1, .bool a0_2] 23 by rw [hz2]; exact B1.out.nb (Nb.rfl.al _))
  have M2 := Lib.hid (show Nb w z2 by rw [hz2]; exact Nb.al M1.out _)
  rw [← hz2]
  clear hz2 c0 c1 c2
  refine (K1.out _).mono ?_
  rintro e z3 ⟨rfl, q3⟩
  have BX3 := Lib.hid (BX.out.nb q3)
  have B3 := Lib.hid (B2.out.nb q3)
  have M3 := Lib.hid (M2.out.tr q3)
  clear q3
  have c0 : z3.cell? ⟨w.heap.size, 0, none⟩ = some (.int .i64 a0_0) := (B3.out).cell 0
  have c1 : z3.cell? ⟨w.heap.size, 1, none⟩ = some (.int .i64 a0_1) := (B3.out).cell 1
  have c2 : z3.cell? ⟨w.heap.size, 2, none⟩ = some (.bool a0_2) := (B3.out).cell 2
  go_wp2_with fail
  refine (K2.out _).mono ?_
  rintro e z4 ⟨rfl, q4⟩
  have BX4 := Lib.hid (BX3.out.nb q4)
  have B4 := Lib.hid (B3.out.nb q4)
  have M4 := Lib.hid (M3.out.tr q4)
  clear q4 c0 c1 c2
  have x0 : z4.cell? ⟨z1.heap.size, 0, none⟩ = some (.int .i64 a0_0) := (BX4.out).cell 0
  have x1 : z4.cell? ⟨z1.heap.size, 1, none⟩ = some (.int .i64 a0_1) := (BX4.out).cell 1
  have x2 : z4.cell? ⟨z1.heap.size, 2, none⟩ = some (.bool a0_2) := (BX4.out).cell 2
  go_wp2_with fail
  refine (K3.out _).mono ?_
  rintro e z5 ⟨rfl, q5⟩
  have BX5 := Lib.hid (BX4.out.nb q5)
  have B5 := Lib.hid (B4.out.nb q5)
  have M5 := Lib.hid (M4.out.tr q5)
  have l5 := B5.out.lt
  have l5' := BX5.out.lt
  clear q5 x0 x1 x2
  have c0 : z5.cell? ⟨w.heap.size, 0, none⟩ = some (.int .i64 a0_0) := (B5.out).cell 0
  have c1 : z5.cell? ⟨w.heap.size, 1, none⟩ = some (.int .i64 a0_1) := (B5.out).cell 1
  have c2 : z5.cell? ⟨w.heap.size, 2, none⟩ = some (.bool a0_2) := (B5.out).cell 2
  go_wp2_with fail
  obtain ⟨z6, hz6⟩ : ∃ z6, z6 = z5.alloc (.cells #[.int .i64 T, .int .i64 R, .bool O] 25) := ⟨_, rfl⟩
  have BC6 := Lib.hid (show Blk z6 z5.heap.size #[.int .i64 T, .int .i64 R, .bool O] 25 by rw [hz6]; exact Blk.new _ _ _)
  have N56 := Lib.hid (show Nb z5 z6 by rw [hz6]; exact Nb.rfl.al _)
  rw [← hz6]
  clear hz6 c0 c1 c2
  refine (K4.out _).mono ?_
  rintro e z7 ⟨rfl, q7⟩
  have N57 := Lib.hid (N56.out.tr q7)
  have BC7 := Lib.hid (BC6.out.nb q7)
  clear q7
  go_wp2_with fail
  obtain ⟨z8, hz8⟩ : ∃ z8, z8 = z7.alloc (.cells #[.int .i64 T, .int .i64 R, .bool O] 23) := ⟨_, rfl⟩
  have N78 : Nb z7 z8 := by rw [hz8]; exact Nb.rfl.al _
  have BD8 := Lib.hid (show Blk z8 z7.heap.size #[.int .i64 T, .int .i64 R, .bool O] 23 by rw [hz8]; exact Blk.new _ _ _)
  have BC8 := BC7.out.nb N78
  have N58 := N57.out.tr N78
  have BX8 := BX5.out.nb N58
  have B8 := B5.out.nb N58
  have M8 := Lib.hid (M5.out.tr N58)
  have HB := Lib.hid (fun w' (n : Nb z8 w') => B8.nb n)
  have HX := Lib.hid (fun w' (n : Nb z8 w') => BX8.nb n)
  have HCc := Lib.hid (fun w' (n : Nb z8 w') => BC8.nb n)
  have HDd := Lib.hid (fun w' (n : Nb z8 w') => BD8.out.nb n)
  rw [← hz8]
  clear hz8 N78 N58
  have b0 : z8.cell? ⟨w.heap.size, 0, none⟩ = some (.int .i64 a0_0) := (B8).cell 0
  have b1 : z8.cell? ⟨w.heap.size, 1, none⟩ = some (.int .i64 a0_1) := (B8).cell 1
  have b2 : z8.cell? ⟨w.heap.size, 2, none⟩ = some (.bool a0_2) := (B8).cell 2
  have x0 : z8.cell? ⟨z1.heap.size, 0, none⟩ = some (.int .i64 a0_0) := (BX8).cell 0
  have x1 : z8.cell? ⟨z1.heap.size, 1, none⟩ = some (.int .i64 a0_1) := (BX8).cell 1
  have x2 : z8.cell? ⟨z1.heap.size, 2, none⟩ = some (.bool a0_2) := (BX8).cell 2
  have c0 : z8.cell? ⟨z5.heap.size, 0, none⟩ = some (.int .i64 T) := (BC8).cell 0
  have c1 : z8.cell? ⟨z5.heap.size, 1, none⟩ = some (.int .i64 R) := (BC8).cell 1
  have c2 : z8.cell? ⟨z5.heap.size, 2, none⟩ = some (.bool O) := (BC8).cell 2
  have d0 : z8.cell? ⟨z7.heap.size, 0, none⟩ = some (.int .i64 T) := (BD8.out).cell 0
  have d1 : z8.cell? ⟨z7.heap.size, 1, none⟩ = some (.int .i64 R) := (BD8.out).cell 1
  have d2 : z8.cell? ⟨z7.heap.size, 2, none⟩ = some (.bool O) := (BD8.out).cell 2
  clear B8 BX8 BC8
  have NB7 : RowKit.Hid (Nb z8 z8.drew) := Lib.hid (Below.drew (Below.refl _ _))
  go_region_held3 (fun w' => w'.cell? ⟨w.heap.size, 0, none⟩ = some (.int .i64 a0_0) ∧ w'.cell? ⟨w.heap.size, 1, none⟩ = some (.int .i64 a0_1) ∧ w'.cell? ⟨w.heap.size, 2, none⟩ = some (.bool a0_2) ∧ w'.cell? ⟨z1.heap.size, 0, none⟩ = some (.int .i64 a0_0) ∧ w'.cell? ⟨z1.heap.size, 1, none⟩ = some (.int .i64 a0_1) ∧ w'.cell? ⟨z1.heap.size, 2, none⟩ = some (.bool a0_2) ∧ w'.cell? ⟨z5.heap.size, 0, none⟩ = some (.int .i64 T) ∧ w'.cell? ⟨z5.heap.size, 1, none⟩ = some (.int .i64 R) ∧ w'.cell? ⟨z5.heap.size, 2, none⟩ = some (.bool O) ∧ w'.cell? ⟨z7.heap.size, 0, none⟩ = some (.int .i64 T) ∧ w'.cell? ⟨z7.heap.size, 1, none⟩ = some (.int .i64 R) ∧ w'.cell? ⟨z7.heap.size, 2, none⟩ = some (.bool O)) (first | go_keep | exact ⟨(HB.out _ NB7.out).cell 0, (HB.out _ NB7.out).cell 1, (HB.out _ NB7.out).cell 2, (HX.out _ NB7.out).cell 0, (HX.out _ NB7.out).cell 1, (HX.out _ NB7.out).cell 2, (HCc.out _ NB7.out).cell 0, (HCc.out _ NB7.out).cell 1, (HCc.out _ NB7.out).cell 2, (HDd.out _ NB7.out).cell 0, (HDd.out _ NB7.out).cell 1, (HDd.out _ NB7.out).cell 2⟩)
    (first
      | (go_at_call 13
         refine (K5.out _).mono ?_
         rintro e w9 ⟨rfl, m9⟩
         have NB7 := Lib.hid (NB7.out.tr m9))
      | (go_at_call 14
         refine (K6.out _).mono ?_
         rintro e w9 ⟨rfl, m9⟩
         have NB7 := Lib.hid (NB7.out.tr m9)))
  have MZ := Lib.hid (M8.out.tr NB7.out)
  go_wp2
  go_ret
  exact ⟨by simp, MZ.out⟩

set_option maxHeartbeats 2000000 in
set_option maxRecDepth 100000 in
theorem lifted (os : Os) (started : os.Started) (H : Type) (enc : TypeId × Value → H) :
    ReturnsInHanded {} Try.checked os 3 .any (Rows.faultNextsSpec.pre6 enc Try.prog Try.f3 Rows.faultNextsRow.domain false) (Rows.faultNextsSpec.post enc Try.prog Try.f3 false true false false) := by
  refine returnsInHanded_of_change (C := Try.checked) own started (by kernel_rfl) Try.func3
    (ChangeSpec.witness6 (enc := enc) (C := Try.checked) false ⟨#[], #[.agg #[.int .i64 0, .int .i64 0, .bool false], .int .i64 0], []⟩ 8 (by kernel_rfl) (by kernel_rfl) (by kernel_rfl) (by kernel_rfl)) ?_
  intro W base args ds gs before hval0 hW hcnd _
  have hval : ∀ (j : Nat) t v, Try.f3.params[j]? = some t → args[j]? = some v → Value.okWide Try.prog W .any base t v := hval0
  have hW' := hW
  obtain ⟨p, q, hA0, hV, rfl, hfz, hnd⟩ := hW
  have hA : DataW.TrodAll enc Try.prog W 0 (fun _ => true) true Try.f3.params.toList args.toList ds p := hA0
  rw [Try.params3] at hA hval
  obtain ⟨v0, vs0, d0, ds0, p0, q0, hargs, rfl, rfl, h0, r0⟩ := trodAll_cons hA
  obtain ⟨v1, vs1, d1, ds1, p1, q1, rfl, rfl, rfl, h1, r1⟩ := trodAll_cons r0
  obtain ⟨rfl, rfl, rfl⟩ := trodAll_nil r1
  obtain rfl : args = #[v0, v1] := by cases args; simp_all
  obtain ⟨rfl, rfl⟩ := trodVars_none hV
  have k0 := h0
  have lt0 : ∀ x ∈ p0, x.block < W.heap.size := by obtain ⟨m, hm⟩ := k0; exact DataW.trod_lt m _ _ _ hm
  have k1 := h1
  have lt1 : ∀ x ∈ p1, x.block < W.heap.size := by obtain ⟨m, hm⟩ := k1; exact DataW.trod_lt m _ _ _ hm
  clear hA0
  obtain ⟨cs0, rfl, hz0⟩ := okWide_struct Try.underlying23 (hval 0 23 v0 rfl rfl)
  obtain ⟨c0_0, c0_1, c0_2, rfl⟩ := arr3 (hz0.trans (by kernel_rfl))
  obtain ⟨fu0, hf0⟩ := h0
  have hc0 : DataW.trod enc Try.prog W 0 (fun _ => true) true fu0 23 [c0_0, c0_1, c0_2] = some (d0, p0) := hf0
  obtain ⟨m0_0, y0_0, g0_0⟩ := open_fld Try.underlying23 hc0 0 _ rfl
  have t0_0 : DataW.trod enc Try.prog W 0 (fun _ => true) true m0_0 3 (([c0_0, c0_1, c0_2].drop 0).take (Try.prog.cellsOf 3)) = some y0_0 := g0_0
  rw [show Try.prog.cellsOf 3 = 1 from by kernel_rfl] at t0_0
  have u0_0 : DataW.trod enc Try.prog W 0 (fun _ => true) true m0_0 3 [c0_0] = some y0_0 := t0_0
  obtain ⟨m0_1, y0_1, g0_1⟩ := open_fld Try.underlying23 hc0 1 _ rfl
  have t0_1 : DataW.trod enc Try.prog W 0 (fun _ => true) true m0_1 3 (([c0_0, c0_1, c0_2].drop 1).take (Try.prog.cellsOf 3)) = some y0_1 := g0_1
  rw [show Try.prog.cellsOf 3 = 1 from by kernel_rfl] at t0_1
  have u0_1 : DataW.trod enc Try.prog W 0 (fun _ => true) true m0_1 3 [c0_1] = some y0_1 := t0_1
  obtain ⟨m0_2, y0_2, g0_2⟩ := open_fld Try.underlying23 hc0 2 _ rfl
  have t0_2 : DataW.trod enc Try.prog W 0 (fun _ => true) true m0_2 4 (([c0_0, c0_1, c0_2].drop 2).take (Try.prog.cellsOf 4)) = some y0_2 := g0_2
  rw [show Try.prog.cellsOf 4 = 1 from by kernel_rfl] at t0_2
  have u0_2 : DataW.trod enc Try.prog W 0 (fun _ => true) true m0_2 4 [c0_2] = some y0_2 := t0_2
  obtain ⟨a0_0, e0_0, x0_0, w0_0⟩ := DataW.trod_int Try.underlying3 u0_0
  obtain rfl : c0_0 = .int .i64 a0_0 := by simpa using e0_0
  obtain ⟨a0_1, e0_1, x0_1, w0_1⟩ := DataW.trod_int Try.underlying3 u0_1
  obtain rfl : c0_1 = .int .i64 a0_1 := by simpa using e0_1
  obtain ⟨a0_2, e0_2, x0_2⟩ := DataW.trod_bool Try.underlying4 u0_2
  obtain rfl : c0_2 = .bool a0_2 := by simpa using e0_2
  obtain ⟨a1, rfl, rfl, rfl, w1⟩ := open_int Try.underlying3 (hval 1 3 v1 rfl rfl) h1
  refine (walk W a0_0 w0_0 a0_1 w0_1 a0_2 a1 w1).mono fun e W' ⟨he, bel⟩ => ?_
  subst he
  exact ⟨_, rfl, _, _, _, [], _, [], hW', trodAll_mk1 (shut_bool Try.underlying4 _), (trodAll_cons_mk (Below.trod laidOut (by kernel_rfl) (of_decide_eq_true (by kernel_rfl)) k0 bel lt0) (trodAll_cons_mk (Below.trod laidOut (by kernel_rfl) (of_decide_eq_true (by kernel_rfl)) k1 bel lt1) trodAll_mk0)), rfl, bel.frame _, fun h => by cases h⟩

theorem over : Rows.faultNextsRow.holds Try.pinned (OpenSpec.ofChange Rows.faultNextsSpec) :=
  OpenClaim.holds_of_wide 3 Try.f3 rfl rfl rfl rfl rfl rfl rfl ⟨rfl, rfl, rfl, rfl, rfl⟩ rfl rfl rfl rfl rfl (by kernel_rfl) Try.func3 (by kernel_rfl)
    (of_decide_eq_true (by kernel_rfl)) (by unfold Func.isWrapper; first | (rw [if_pos (by decide +kernel)]; kernel_rfl) | (rw [if_neg (by decide +kernel)]; exact ⟨rfl, rfl⟩))
    (fun os started H enc _ => lifted os started H enc)
theorem proved : Rows.FaultNextsSaid := over
#print axioms proved
end Go.Proofs.Ytahemoakehbchaa.faultNexts
