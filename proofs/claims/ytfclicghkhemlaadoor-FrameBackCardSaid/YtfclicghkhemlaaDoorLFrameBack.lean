/- For every kind and number the law FrameBack answers true; the package's table of longer sizes is tied to the program's text. No conditions. -/
import Derived.Test.YtfclicghkhemlaaDoorRows
import Derived.Test.YtfclicghkhemlaaDoorCards
import Derived.Test.YtfclicghkhemlaaDoorTie
import Derived.Test.YtfclicghkhemlaaDoorFrmA
import Derived.Test.YtfclicghkhemlaaDoorFrmL
import Derived.WalkKit
import Derived.ProofKit
import Derived.OpenShut
import Derived.ShutString
import Derived.ChangeOld
import Derived.Below
import Derived.Carry
import Derived.Lib.SmallJoins
import Derived.Deep.RegionWith
import Derived.Deep.RegionHeld3
import Derived.LaidMore
import Derived.LaidLaws
import Derived.Stop.Joined
import Derived.SevenTiedAt
namespace Go.Proofs.YtfclicghkhemlaaDoor.frameBack
open Go.ChangeShapes Go.WideShapes Go.ChangeAt Go.RowKit Go.Joins
set_option linter.unusedVariables false
theorem own : ownKnob Tryd.prog.godebug = none := by kernel_rfl
theorem laidOut : laidOutB Tryd.prog = true := by kernel_rfl
set_option maxHeartbeats 4000000 in
set_option maxRecDepth 100000 in
theorem walk (w : World) (hK : Longer w) (a0 : Int) (w0 : (Lit.int .i64 a0).wf = true) (a1 : Int) (w1 : (Lit.int .i64 a1).wf = true) :
    Calls Tryd.prog 5 #[.int .i64 a0, .int .i64 a1] w fun e w' => e = .returned (.bool true) ∧ Nb w w' := by
  have HK := Lib.hid hK
  clear hK
  have hS := Lib.hid (fun w' (h : Nb w w') => size5_any a0 a1 w' (HK.out.below h))
  have hC := Lib.hid (fun w' (h : Nb w w') => code_any a0 a1 w' (HK.out.below h))
  have hS2 := Lib.hid (fun w' (h : Nb w w') => size5_any a0 (codeV a0 a1 : Int) w' (HK.out.below h))
  have hF := Lib.hid (fun w' (h : Nb w w') => fit5_any a0 a1 w' (HK.out.below h))
  cases hA : isC a0 a1
  · cases hB : hasF a0 a1
    · cases hD : fitsF a0 a1
      · rw [show sizeE a0 a1 = 2 by simp [sizeE, hA]] at hS
        rw [show codeE a0 a1 = 2 by simp [codeE, hB]] at hC
        rw [show fitE a0 a1 = 2 by simp [fitE, hD], show fitV a0 a1 = 0 by simp [fitV, hD]] at hF
        clear hA hB hD
        go_enter Tryd.func5, Tryd.ntmps5
        go_wp2_with fail
        refine (alive5_any w HK.out).mono ?_
        rintro e w1 ⟨rfl, m1⟩
        go_wp2_with fail
        refine (hS.out _ m1).mono ?_
        rintro e w2 ⟨rfl, n2⟩
        have m2 := m1.tr n2
        go_wp2_with fail
        refine (hC.out _ m2).mono ?_
        rintro e w3 ⟨rfl, n3⟩
        have m3 := m2.tr n3
        go_wp2_with fail
        refine (hS2.out _ m3).mono ?_
        rintro e w4 ⟨rfl, n4⟩
        have m4 := m3.tr n4
        go_wp2_with fail
        refine (hF.out _ m4).mono ?_
        rintro e w5 ⟨rfl, n5⟩
        have m5 := m4.tr n5
        go_wp2
        go_ret
        exact ⟨rfl, m5⟩
      · rw [show sizeE a0 a1 = 2 by simp [sizeE, hA]] at hS
        rw [show codeE a0 a1 = 2 by simp [codeE, hB]] at hC
        have hC3 := Lib.hid (fun w' (h : Nb w w') => code_any a0 (fitV a0 a1 : Int) w' (HK.out.below h))
        obtain ⟨e1, e2, e3⟩ := back_fit hD
        rw [show fitE a0 a1 = 0 by simp [fitE, hD]] at hF
        rw [e1] at hC3
        have e4 : ((fitV a0 a1 : Int) == a1) = false := by
          rw [beq_eq_false_iff_ne]
          intro h
          rw [e3.1 h] at hB
          exact Bool.noConfusion hB
        clear e1 e3
        clear hA hB hD
        generalize fitV a0 a1 = fv at *
        go_enter Tryd.func5, Tryd.ntmps5
        go_wp2_with fail
        refine (alive5_any w HK.out).mono ?_
        rintro e w1 ⟨rfl, m1⟩
        go_wp2_with fail
        refine (hS.out _ m1).mono ?_
        rintro e w2 ⟨rfl, n2⟩
        have m2 := m1.tr n2
        go_wp2_with fail
        refine (hC.out _ m2).mono ?_
        rintro e w3 ⟨rfl, n3⟩
        have m3 := m2.tr n3
        go_wp2_with fail
        refine (hS2.out _ m3).mono ?_
        rintro e w4 ⟨rfl, n4⟩
        have m4 := m3.tr n4
        go_wp2_with fail
        refine (hF.out _ m4).mono ?_
        rintro e w5 ⟨rfl, n5⟩
        have m5 := m4.tr n5
        go_wp2_with fail
        refine (hC3.out _ m5).mono ?_
        rintro e w6 ⟨rfl, n6⟩
        have m6 := m5.tr n6
        go_wp2
        go_ret
        exact ⟨rfl, m6⟩
    · have hD := has_fits hB
      rw [show sizeE a0 a1 = 2 by simp [sizeE, hA]] at hS
      have hB1 := back_code hB
      rw [hB1.1, hB1.2] at hS2
      rw [show codeE a0 a1 = 0 by simp [codeE, hB]] at hC
      have hC3 := Lib.hid (fun w' (h : Nb w w') => code_any a0 (fitV a0 a1 : Int) w' (HK.out.below h))
      obtain ⟨e1, e2, e3⟩ := back_fit hD
      rw [show fitE a0 a1 = 0 by simp [fitE, hD]] at hF
      rw [e1] at hC3
      rw [e3.2 hB] at hC3 hF
      clear e1 e2 e3
      clear hA hB hD hB1
      go_enter Tryd.func5, Tryd.ntmps5
      go_wp2_with fail
      refine (alive5_any w HK.out).mono ?_
      rintro e w1 ⟨rfl, m1⟩
      go_wp2_with fail
      refine (hS.out _ m1).mono ?_
      rintro e w2 ⟨rfl, n2⟩
      have m2 := m1.tr n2
      go_wp2_with fail
      refine (hC.out _ m2).mono ?_
      rintro e w3 ⟨rfl, n3⟩
      have m3 := m2.tr n3
      go_wp2_with fail
      refine (hS2.out _ m3).mono ?_
      rintro e w4 ⟨rfl, n4⟩
      have m4 := m3.tr n4
      go_wp2_with fail
      refine (hF.out _ m4).mono ?_
      rintro e w5 ⟨rfl, n5⟩
      have m5 := m4.tr n5
      go_wp2_with fail
      refine (hC3.out _ m5).mono ?_
      rintro e w6 ⟨rfl, n6⟩
      have m6 := m5.tr n6
      go_wp2
      go_ret
      exact ⟨rfl, m6⟩
  · cases hB : hasF a0 a1
    · cases hD : fitsF a0 a1
      · have hC1 := Lib.hid (fun w' (h : Nb w w') => code_any a0 (sizeV a0 a1 : Int) w' (HK.out.below h))
        rw [show sizeE a0 a1 = 0 by simp [sizeE, hA]] at hS
        have hA1 : (codeV a0 (sizeV a0 a1 : Int) : Int) = a1 ∧ codeE a0 (sizeV a0 a1 : Int) = 0 := by
          obtain ⟨d, rfl⟩ := Int.eq_ofNat_of_zero_le ((isC_iff a0 a1).1 hA).1
          have := back_size hA
          exact ⟨by rw [this.1], this.2⟩
        rw [hA1.1, hA1.2] at hC1
        rw [show codeE a0 a1 = 2 by simp [codeE, hB]] at hC
        rw [show fitE a0 a1 = 2 by simp [fitE, hD], show fitV a0 a1 = 0 by simp [fitV, hD]] at hF
        clear hA hB hD hA1
        go_enter Tryd.func5, Tryd.ntmps5
        go_wp2_with fail
        refine (alive5_any w HK.out).mono ?_
        rintro e w1 ⟨rfl, m1⟩
        go_wp2_with fail
        refine (hS.out _ m1).mono ?_
        rintro e w2 ⟨rfl, n2⟩
        have m2 := m1.tr n2
        go_wp2_with fail
        refine (hC1.out _ m2).mono ?_
        rintro e w3 ⟨rfl, n3⟩
        have m3 := m2.tr n3
        go_wp2_with fail
        refine (hC.out _ m3).mono ?_
        rintro e w4 ⟨rfl, n4⟩
        have m4 := m3.tr n4
        go_wp2_with fail
        refine (hS2.out _ m4).mono ?_
        rintro e w5 ⟨rfl, n5⟩
        have m5 := m4.tr n5
        go_wp2_with fail
        refine (hF.out _ m5).mono ?_
        rintro e w6 ⟨rfl, n6⟩
        have m6 := m5.tr n6
        go_wp2
        go_ret
        exact ⟨rfl, m6⟩
      · have hC1 := Lib.hid (fun w' (h : Nb w w') => code_any a0 (sizeV a0 a1 : Int) w' (HK.out.below h))
        rw [show sizeE a0 a1 = 0 by simp [sizeE, hA]] at hS
        have hA1 : (codeV a0 (sizeV a0 a1 : Int) : Int) = a1 ∧ codeE a0 (sizeV a0 a1 : Int) = 0 := by
          obtain ⟨d, rfl⟩ := Int.eq_ofNat_of_zero_le ((isC_iff a0 a1).1 hA).1
          have := back_size hA
          exact ⟨by rw [this.1], this.2⟩
        rw [hA1.1, hA1.2] at hC1
        rw [show codeE a0 a1 = 2 by simp [codeE, hB]] at hC
        have hC3 := Lib.hid (fun w' (h : Nb w w') => code_any a0 (fitV a0 a1 : Int) w' (HK.out.below h))
        obtain ⟨e1, e2, e3⟩ := back_fit hD
        rw [show fitE a0 a1 = 0 by simp [fitE, hD]] at hF
        rw [e1] at hC3
        have e4 : ((fitV a0 a1 : Int) == a1) = false := by
          rw [beq_eq_false_iff_ne]
          intro h
          rw [e3.1 h] at hB
          exact Bool.noConfusion hB
        clear e1 e3
        clear hA hB hD hA1
        generalize fitV a0 a1 = fv at *
        go_enter Tryd.func5, Tryd.ntmps5
        go_wp2_with fail
        refine (alive5_any w HK.out).mono ?_
        rintro e w1 ⟨rfl, m1⟩
        go_wp2_with fail
        refine (hS.out _ m1).mono ?_
        rintro e w2 ⟨rfl, n2⟩
        have m2 := m1.tr n2
        go_wp2_with fail
        refine (hC1.out _ m2).mono ?_
        rintro e w3 ⟨rfl, n3⟩
        have m3 := m2.tr n3
        go_wp2_with fail
        refine (hC.out _ m3).mono ?_
        rintro e w4 ⟨rfl, n4⟩
        have m4 := m3.tr n4
        go_wp2_with fail
        refine (hS2.out _ m4).mono ?_
        rintro e w5 ⟨rfl, n5⟩
        have m5 := m4.tr n5
        go_wp2_with fail
        refine (hF.out _ m5).mono ?_
        rintro e w6 ⟨rfl, n6⟩
        have m6 := m5.tr n6
        go_wp2_with fail
        refine (hC3.out _ m6).mono ?_
        rintro e w7 ⟨rfl, n7⟩
        have m7 := m6.tr n7
        go_wp2
        go_ret
        exact ⟨rfl, m7⟩
    · have hD := has_fits hB
      have hC1 := Lib.hid (fun w' (h : Nb w w') => code_any a0 (sizeV a0 a1 : Int) w' (HK.out.below h))
      rw [show sizeE a0 a1 = 0 by simp [sizeE, hA]] at hS
      have hA1 : (codeV a0 (sizeV a0 a1 : Int) : Int) = a1 ∧ codeE a0 (sizeV a0 a1 : Int) = 0 := by
        obtain ⟨d, rfl⟩ := Int.eq_ofNat_of_zero_le ((isC_iff a0 a1).1 hA).1
        have := back_size hA
        exact ⟨by rw [this.1], this.2⟩
      rw [hA1.1, hA1.2] at hC1
      have hB1 := back_code hB
      rw [hB1.1, hB1.2] at hS2
      rw [show codeE a0 a1 = 0 by simp [codeE, hB]] at hC
      have hC3 := Lib.hid (fun w' (h : Nb w w') => code_any a0 (fitV a0 a1 : Int) w' (HK.out.below h))
      obtain ⟨e1, e2, e3⟩ := back_fit hD
      rw [show fitE a0 a1 = 0 by simp [fitE, hD]] at hF
      rw [e1] at hC3
      rw [e3.2 hB] at hC3 hF
      clear e1 e2 e3
      clear hA hB hD hA1 hB1
      go_enter Tryd.func5, Tryd.ntmps5
      go_wp2_with fail
      refine (alive5_any w HK.out).mono ?_
      rintro e w1 ⟨rfl, m1⟩
      go_wp2_with fail
      refine (hS.out _ m1).mono ?_
      rintro e w2 ⟨rfl, n2⟩
      have m2 := m1.tr n2
      go_wp2_with fail
      refine (hC1.out _ m2).mono ?_
      rintro e w3 ⟨rfl, n3⟩
      have m3 := m2.tr n3
      go_wp2_with fail
      refine (hC.out _ m3).mono ?_
      rintro e w4 ⟨rfl, n4⟩
      have m4 := m3.tr n4
      go_wp2_with fail
      refine (hS2.out _ m4).mono ?_
      rintro e w5 ⟨rfl, n5⟩
      have m5 := m4.tr n5
      go_wp2_with fail
      refine (hF.out _ m5).mono ?_
      rintro e w6 ⟨rfl, n6⟩
      have m6 := m5.tr n6
      go_wp2_with fail
      refine (hC3.out _ m6).mono ?_
      rintro e w7 ⟨rfl, n7⟩
      have m7 := m6.tr n7
      go_wp2
      go_ret
      exact ⟨rfl, m7⟩

theorem door_met (os : Os) (args : Array Value) : laidMetH Tryd.prog Rows.frameBackRow.laid ((World.doorLaid Tryd.prog 14 os).forCall (fun _ _ => 0) ⟨#[], args, []⟩).memory :=
  laidMetH_of_parts3 (fuel := 8) (laidMet_of_run' 8 (by kernel_rfl) (by kernel_rfl)) (by kernel_rfl) (by kernel_rfl)
set_option maxHeartbeats 2000000 in
set_option maxRecDepth 100000 in
theorem lifted (os : Os) (started : os.Started) (H : Type) (enc : TypeId × Value → H) :
    ReturnsInHanded {} Tryd.checked os 5 .any (fun w args => (Rows.frameBackSpec.pre enc Tryd.prog Tryd.f5 [] false w args ∧ laidMetH Tryd.prog Rows.frameBackRow.laid w) ∧ sizedMet enc Tryd.prog Tryd.f5 (OpenSpec.ofChange Rows.frameBackSpec) false w args)
      (Rows.frameBackSpec.post enc Tryd.prog Tryd.f5 false true false false) := by
  refine returnsInHanded_of_change_and (C := Tryd.checked) (X := fun w _ => laidMetH Tryd.prog Rows.frameBackRow.laid w) (fun _ _ _ hh h => h.of_heap hh) own started (by kernel_rfl) Tryd.func5
    (ChangeSpec.witness_shaped (enc := enc) (C := Tryd.checked) (os := os) (X := fun w _ => laidMetH Tryd.prog Rows.frameBackRow.laid w) false (World.doorLaid Tryd.prog 14 os) #[.int .i64 0, .int .i64 0] 8 rfl (World.shaped_of_RefB (by kernel_rfl) (by kernel_rfl)) (by kernel_rfl) (by kernel_rfl) (by kernel_rfl) (door_met os _)) ?_
  intro W base args ds gs before hval0 hW _ hR hL _
  have hval : ∀ (j : Nat) t v, Tryd.f5.params[j]? = some t → args[j]? = some v → Value.okWide Tryd.prog W .any base t v := hval0
  have hW' := hW
  obtain ⟨p, q, hA0, hV, rfl, hfz, hnd⟩ := hW
  have hA : DataW.TrodAll enc Tryd.prog W 0 (fun _ => true) true Tryd.f5.params.toList args.toList ds p := hA0
  rw [Tryd.params5] at hA hval
  obtain ⟨v0, vs0, d0, ds0, p0, q0, hargs, rfl, rfl, h0, r0⟩ := trodAll_cons hA
  obtain ⟨v1, vs1, d1, ds1, p1, q1, rfl, rfl, rfl, h1, r1⟩ := trodAll_cons r0
  obtain ⟨rfl, rfl, rfl⟩ := trodAll_nil r1
  obtain rfl : args = #[v0, v1] := by cases args; simp_all
  obtain ⟨rfl, rfl⟩ := trodVars_none hV
  have k0 := h0
  have lt0 : ∀ x ∈ p0, x.block < W.heap.size := by obtain ⟨m, hm⟩ := k0; exact DataW.trod_lt m _ _ _ hm
  have k1 := h1
  have lt1 : ∀ x ∈ p1, x.block < W.heap.size := by obtain ⟨m, hm⟩ := k1; exact DataW.trod_lt m _ _ _ hm
  clear hA0
  obtain ⟨a0, rfl, rfl, rfl, w0⟩ := open_int Tryd.underlying3 (hval 0 3 v0 rfl rfl) h0
  obtain ⟨a1, rfl, rfl, rfl, w1⟩ := open_int Tryd.underlying3 (hval 1 3 v1 rfl rfl) h1
  refine (walk W (longer_of hL) a0 w0 a1 w1).mono fun e W' ⟨he, bel⟩ => ?_
  subst he
  exact ⟨_, rfl, _, _, _, [], _, [], hW', trodAll_mk1 (shut_bool Tryd.underlying4 _), (trodAll_cons_mk (Below.trod laidOut (by kernel_rfl) (of_decide_eq_true (by kernel_rfl)) k0 bel lt0) (trodAll_cons_mk (Below.trod laidOut (by kernel_rfl) (of_decide_eq_true (by kernel_rfl)) k1 bel lt1) trodAll_mk0)), rfl, bel.frame _, fun h => by cases h⟩

theorem over : Rows.frameBackRow.holds Tryd.pinned (OpenSpec.ofChange Rows.frameBackSpec) :=
  OpenClaim.holds_of_wide 5 Tryd.f5 rfl rfl rfl rfl rfl rfl rfl ⟨rfl, rfl, rfl, rfl, rfl⟩ rfl rfl rfl rfl rfl (by kernel_rfl) Tryd.func5 (by kernel_rfl)
    (of_decide_eq_true (by kernel_rfl)) (by unfold Func.isWrapper; first | (rw [if_pos (by decide +kernel)]; kernel_rfl) | (rw [if_neg (by decide +kernel)]; exact ⟨rfl, rfl⟩))
    (fun os started H enc _ => lifted os started H enc)

theorem plain (f : FuncId) (fn : Func) (hf : Tryd.pinned.checked.prog.funcNamed "omnibus/omnibuslaw05.FrameBack" = some f) (hfn : Tryd.pinned.checked.prog.funcs[f]? = some fn) :
    false = Tryd.pinned.checked.prog.looks [] ∧ ∀ (j : Nat) t, fn.params[j]? = some t → Tryd.pinned.checked.prog.wantsStandIn t = false := by
  obtain rfl : f = 5 := Option.some.inj ((show Tryd.prog.funcNamed "omnibus/omnibuslaw05.FrameBack" = some 5 by kernel_rfl).symm.trans hf) |>.symm
  obtain rfl : fn = Tryd.f5 := (Option.some.inj (Tryd.func5.symm.trans hfn)).symm
  refine ⟨by kernel_rfl, fun j t ht => ?_⟩
  rw [Tryd.params5] at ht
  have hm : t ∈ [3] := by have := Array.mem_of_getElem? ht; simp at this ⊢; omega
  have hall : ([3].all fun u => !Tryd.prog.wantsStandIn u) = true := by kernel_rfl
  exact (show Tryd.prog.wantsStandIn t = false by simpa using List.all_eq_true.1 hall t hm)
theorem proved : Rows.FrameBackCardSaid :=
  Claim7.holds_tied_plain_at .later [] _ _ _ _ over (fun _ h => by cases h) (by kernel_rfl) (fun _ h => by cases h) frameBack_row_tie rfl ⟨rfl, rfl⟩ (by kernel_rfl) rfl plain (by kernel_rfl)
#print axioms proved
end Go.Proofs.YtfclicghkhemlaaDoor.frameBack
