/- For every kind and pair of numbers the law FrameRises answers true; the package's table of longer sizes is tied to the program's text. No conditions. -/
import Derived.Test.YtfclicghkhemlaaDoorRows
import Derived.Test.YtfclicghkhemlaaDoorCards
import Derived.Test.YtfclicghkhemlaaDoorTie
import Derived.Test.YtfclicghkhemlaaDoorFrmA
import Derived.Test.YtfclicghkhemlaaDoorFrmL
import Derived.WalkKit
import Derived.ProofKit
import Derived.OpenShut
import Derived.ShutString
import Derived.ChangeOld
import Derived.Below
import Derived.Carry
import Derived.Lib.SmallJoins
import Derived.Deep.RegionWith
import Derived.Deep.RegionHeld3
import Derived.LaidMore
import Derived.LaidLaws
import Derived.Stop.Joined
import Derived.SevenTiedAt
namespace Go.Proofs.YtfclicghkhemlaaDoor.frameRises
open Go.ChangeShapes Go.WideShapes Go.ChangeAt Go.RowKit Go.Joins
set_option linter.unusedVariables false
theorem own : ownKnob Tryd.prog.godebug = none := by kernel_rfl
theorem laidOut : laidOutB Tryd.prog = true := by kernel_rfl
set_option maxHeartbeats 4000000 in
set_option maxRecDepth 100000 in
theorem walk (w : World) (hK : Longer w) (a0 : Int) (w0 : (Lit.int .i64 a0).wf = true) (a1 : Int) (w1 : (Lit.int .i64 a1).wf = true) (a2 : Int) (w2 : (Lit.int .i64 a2).wf = true) :
    Calls Tryd.prog 6 #[.int .i64 a0, .int .i64 a1, .int .i64 a2] w fun e w' => e = .returned (.bool true) ∧ Nb w w' := by
  have HK := Lib.hid hK
  clear hK
  have r1 : ∀ ts t w, (Builtin.min_ ts t #[.int .i64 a1, .int .i64 a2]).run Tryd.prog w = .ok (.int .i64 (min a1 a2)) w := fun ts t w => run_min2 w ts t _ _ _ _
  have r2 : ∀ ts t w, (Builtin.max_ ts t #[.int .i64 a1, .int .i64 a2]).run Tryd.prog w = .ok (.int .i64 (max a1 a2)) w := fun ts t w => run_max2 w ts t _ _ _ _
  have hpq : min a1 a2 ≤ max a1 a2 := by omega
  obtain ⟨p, hp⟩ : ∃ p, min a1 a2 = p := ⟨_, rfl⟩
  obtain ⟨q, hq⟩ : ∃ q, max a1 a2 = q := ⟨_, rfl⟩
  rw [hp] at r1 hpq
  rw [hq] at r2 hpq
  clear hp hq
  have hFp := Lib.hid (fun w' (h : Nb w w') => fit5_any a0 p w' (HK.out.below h))
  have hFq := Lib.hid (fun w' (h : Nb w w') => fit5_any a0 q w' (HK.out.below h))
  have hCp := Lib.hid (fun w' (h : Nb w w') => code_any a0 p w' (HK.out.below h))
  have hCq := Lib.hid (fun w' (h : Nb w w') => code_any a0 q w' (HK.out.below h))
  have H1 : ∃ (x xe y ye : Nat), (∀ w', Nb w w' → Calls Tryd.prog 18 #[.int .i64 a0, .int .i64 p] w' fun e w'' => e = .returned (.tuple #[.int .i64 x, .int .i64 xe]) ∧ Nb w' w'') ∧ (∀ w', Nb w w' → Calls Tryd.prog 18 #[.int .i64 a0, .int .i64 q] w' fun e w'' => e = .returned (.tuple #[.int .i64 y, .int .i64 ye]) ∧ Nb w' w'') ∧ (ye = 2 ∨ (ye = 0 ∧ p < 0) ∨ (ye = 0 ∧ 0 ≤ p ∧ xe = 0 ∧ x ≤ y)) := by
    refine ⟨_, _, _, _, hFp.out, hFq.out, ?_⟩
    cases hD : fitsF a0 q with
    | false => exact .inl (by simp [fitE, hD])
    | true =>
      by_cases h0 : p < 0
      · exact .inr (.inl ⟨by simp [fitE, hD], h0⟩)
      · obtain ⟨e1, e2⟩ := rise_fit hpq (by omega) hD
        exact .inr (.inr ⟨by simp [fitE, hD], by omega, by simp [fitE, e1], e2⟩)
  have H2 : ∃ (c ce d de : Nat), (∀ w', Nb w w' → Calls Tryd.prog 14 #[.int .i64 a0, .int .i64 p] w' fun e w'' => e = .returned (.tuple #[.int .i64 c, .int .i64 ce]) ∧ Nb w' w'') ∧ (∀ w', Nb w w' → Calls Tryd.prog 14 #[.int .i64 a0, .int .i64 q] w' fun e w'' => e = .returned (.tuple #[.int .i64 d, .int .i64 de]) ∧ Nb w' w'') ∧ (ce = 2 ∨ (ce = 0 ∧ de = 2) ∨ (ce = 0 ∧ de = 0 ∧ decide (p < q) = decide ((c : Int) < (d : Int)))) := by
    refine ⟨_, _, _, _, hCp.out, hCq.out, ?_⟩
    cases hA : hasF a0 p with
    | false => exact .inl (by simp [codeE, hA])
    | true =>
      cases hB : hasF a0 q with
      | false => exact .inr (.inl ⟨by simp [codeE, hA], by simp [codeE, hB]⟩)
      | true => exact .inr (.inr ⟨by simp [codeE, hA], by simp [codeE, hB], rise_code hA hB⟩)
  clear hFp hFq hCp hCq hpq
  obtain ⟨x, xe, y, ye, hFp, hFq, h1⟩ := H1
  obtain ⟨c, ce, d, de, hCp, hCq, h2⟩ := H2
  have hFp := Lib.hid hFp
  have hFq := Lib.hid hFq
  have hCp := Lib.hid hCp
  have hCq := Lib.hid hCq
  rcases h1 with rfl | ⟨rfl, h1⟩ | ⟨rfl, h1, rfl, h3⟩ <;> rcases h2 with rfl | ⟨rfl, rfl⟩ | ⟨rfl, rfl, h2⟩
  all_goals
    go_enter Tryd.func6, Tryd.ntmps6
    go_wp2_with fail
    refine (alive5_any w HK.out).mono ?_
    rintro e w1 ⟨rfl, m1⟩
    go_wp2_with fail
    refine (hFp.out _ m1).mono ?_
    rintro e w2 ⟨rfl, n2⟩
    have m2 := m1.tr n2
    go_wp2_with fail
    refine (hFq.out _ m2).mono ?_
    rintro e w3 ⟨rfl, n3⟩
    have m3 := m2.tr n3
    go_wp2_with fail
    refine (hCp.out _ m3).mono ?_
    rintro e w4 ⟨rfl, n4⟩
    have m4 := m3.tr n4
    go_wp2_with fail
    refine (hCq.out _ m4).mono ?_
    rintro e w5 ⟨rfl, n5⟩
    go_wp2
    go_ret
    first
      | exact ⟨rfl, m4.tr n5⟩
      | exact ⟨by simp, m4.tr n5⟩
      | exact ⟨by simp_all, m4.tr n5⟩

theorem door_met (os : Os) (args : Array Value) : laidMetH Tryd.prog Rows.frameRisesRow.laid ((World.doorLaid Tryd.prog 14 os).forCall (fun _ _ => 0) ⟨#[], args, []⟩).memory :=
  laidMetH_of_parts3 (fuel := 8) (laidMet_of_run' 8 (by kernel_rfl) (by kernel_rfl)) (by kernel_rfl) (by kernel_rfl)
set_option maxHeartbeats 2000000 in
set_option maxRecDepth 100000 in
theorem lifted (os : Os) (started : os.Started) (H : Type) (enc : TypeId × Value → H) :
    ReturnsInHanded {} Tryd.checked os 6 .any (fun w args => (Rows.frameRisesSpec.pre enc Tryd.prog Tryd.f6 [] false w args ∧ laidMetH Tryd.prog Rows.frameRisesRow.laid w) ∧ sizedMet enc Tryd.prog Tryd.f6 (OpenSpec.ofChange Rows.frameRisesSpec) false w args)
      (Rows.frameRisesSpec.post enc Tryd.prog Tryd.f6 false true false false) := by
  refine returnsInHanded_of_change_and (C := Tryd.checked) (X := fun w _ => laidMetH Tryd.prog Rows.frameRisesRow.laid w) (fun _ _ _ hh h => h.of_heap hh) own started (by kernel_rfl) Tryd.func6
    (ChangeSpec.witness_shaped (enc := enc) (C := Tryd.checked) (os := os) (X := fun w _ => laidMetH Tryd.prog Rows.frameRisesRow.laid w) false (World.doorLaid Tryd.prog 14 os) #[.int .i64 0, .int .i64 0, .int .i64 0] 8 rfl (World.shaped_of_RefB (by kernel_rfl) (by kernel_rfl)) (by kernel_rfl) (by kernel_rfl) (by kernel_rfl) (door_met os _)) ?_
  intro W base args ds gs before hval0 hW _ hR hL _
  have hval : ∀ (j : Nat) t v, Tryd.f6.params[j]? = some t → args[j]? = some v → Value.okWide Tryd.prog W .any base t v := hval0
  have hW' := hW
  obtain ⟨p, q, hA0, hV, rfl, hfz, hnd⟩ := hW
  have hA : DataW.TrodAll enc Tryd.prog W 0 (fun _ => true) true Tryd.f6.params.toList args.toList ds p := hA0
  rw [Tryd.params6] at hA hval
  obtain ⟨v0, vs0, d0, ds0, p0, q0, hargs, rfl, rfl, h0, r0⟩ := trodAll_cons hA
  obtain ⟨v1, vs1, d1, ds1, p1, q1, rfl, rfl, rfl, h1, r1⟩ := trodAll_cons r0
  obtain ⟨v2, vs2, d2, ds2, p2, q2, rfl, rfl, rfl, h2, r2⟩ := trodAll_cons r1
  obtain ⟨rfl, rfl, rfl⟩ := trodAll_nil r2
  obtain rfl : args = #[v0, v1, v2] := by cases args; simp_all
  obtain ⟨rfl, rfl⟩ := trodVars_none hV
  have k0 := h0
  have lt0 : ∀ x ∈ p0, x.block < W.heap.size := by obtain ⟨m, hm⟩ := k0; exact DataW.trod_lt m _ _ _ hm
  have k1 := h1
  have lt1 : ∀ x ∈ p1, x.block < W.heap.size := by obtain ⟨m, hm⟩ := k1; exact DataW.trod_lt m _ _ _ hm
  have k2 := h2
  have lt2 : ∀ x ∈ p2, x.block < W.heap.size := by obtain ⟨m, hm⟩ := k2; exact DataW.trod_lt m _ _ _ hm
  clear hA0
  obtain ⟨a0, rfl, rfl, rfl, w0⟩ := open_int Tryd.underlying3 (hval 0 3 v0 rfl rfl) h0
  obtain ⟨a1, rfl, rfl, rfl, w1⟩ := open_int Tryd.underlying3 (hval 1 3 v1 rfl rfl) h1
  obtain ⟨a2, rfl, rfl, rfl, w2⟩ := open_int Tryd.underlying3 (hval 2 3 v2 rfl rfl) h2
  refine (walk W (longer_of hL) a0 w0 a1 w1 a2 w2).mono fun e W' ⟨he, bel⟩ => ?_
  subst he
  exact ⟨_, rfl, _, _, _, [], _, [], hW', trodAll_mk1 (shut_bool Tryd.underlying4 _), (trodAll_cons_mk (Below.trod laidOut (by kernel_rfl) (of_decide_eq_true (by kernel_rfl)) k0 bel lt0) (trodAll_cons_mk (Below.trod laidOut (by kernel_rfl) (of_decide_eq_true (by kernel_rfl)) k1 bel lt1) (trodAll_cons_mk (Below.trod laidOut (by kernel_rfl) (of_decide_eq_true (by kernel_rfl)) k2 bel lt2) trodAll_mk0))), rfl, bel.frame _, fun h => by cases h⟩

theorem over : Rows.frameRisesRow.holds Tryd.pinned (OpenSpec.ofChange Rows.frameRisesSpec) :=
  OpenClaim.holds_of_wide 6 Tryd.f6 rfl rfl rfl rfl rfl rfl rfl ⟨rfl, rfl, rfl, rfl, rfl⟩ rfl rfl rfl rfl rfl (by kernel_rfl) Tryd.func6 (by kernel_rfl)
    (of_decide_eq_true (by kernel_rfl)) (by unfold Func.isWrapper; first | (rw [if_pos (by decide +kernel)]; kernel_rfl) | (rw [if_neg (by decide +kernel)]; exact ⟨rfl, rfl⟩))
    (fun os started H enc _ => lifted os started H enc)

theorem plain (f : FuncId) (fn : Func) (hf : Tryd.pinned.checked.prog.funcNamed "omnibus/omnibuslaw05.FrameRises" = some f) (hfn : Tryd.pinned.checked.prog.funcs[f]? = some fn) :
    false = Tryd.pinned.checked.prog.looks [] ∧ ∀ (j : Nat) t, fn.params[j]? = some t → Tryd.pinned.checked.prog.wantsStandIn t = false := by
  obtain rfl : f = 6 := Option.some.inj ((show Tryd.prog.funcNamed "omnibus/omnibuslaw05.FrameRises" = some 6 by kernel_rfl).symm.trans hf) |>.symm
  obtain rfl : fn = Tryd.f6 := (Option.some.inj (Tryd.func6.symm.trans hfn)).symm
  refine ⟨by kernel_rfl, fun j t ht => ?_⟩
  rw [Tryd.params6] at ht
  have hm : t ∈ [3] := by have := Array.mem_of_getElem? ht; simp at this ⊢; omega
  have hall : ([3].all fun u => !Tryd.prog.wantsStandIn u) = true := by kernel_rfl
  exact (show Tryd.prog.wantsStandIn t = false by simpa using List.all_eq_true.1 hall t hm)
theorem proved : Rows.FrameRisesCardSaid :=
  Claim7.holds_tied_plain_at .later [] _ _ _ _ over (fun _ h => by cases h) (by kernel_rfl) (fun _ h => by cases h) frameRises_row_tie rfl ⟨rfl, rfl⟩ (by kernel_rfl) rfl plain (by kernel_rfl)
#print axioms proved
end Go.Proofs.YtfclicghkhemlaaDoor.frameRises
