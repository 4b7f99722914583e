/- For every kind, sum and row of bytes the law CrcSums answers true and leaves its arguments as they were; the package's table of kinds is tied to the program's text. No conditions. -/
import Derived.Test.YtmfahnfmahahjaaDoorRows
import Derived.Test.YtmfahnfmahahjaaDoorCards
import Derived.Test.YtmfahnfmahahjaaDoorTie
import Derived.Test.YtmfahnfmahahjaaDoorCrcA
import Derived.Test.YtmfahnfmahahjaaDoorCrcB
import Derived.WalkKit
import Derived.ProofKit
import Derived.OpenShut
import Derived.ShutString
import Derived.ChangeOld
import Derived.Below
import Derived.Carry
import Derived.Lib.SmallJoins
import Derived.LaidMore
import Derived.LaidLaws
import Derived.Stop.Joined
import Derived.SevenTiedAt
namespace Go.Proofs.YtmfahnfmahahjaaDoor.crcSums
open Go.ChangeShapes Go.WideShapes Go.ChangeAt Go.RowKit Go.Joins
set_option linter.unusedVariables false
theorem own : ownKnob Tryd.prog.godebug = none := by kernel_rfl
theorem laidOut : laidOutB Tryd.prog = true := by kernel_rfl
set_option maxHeartbeats 4000000 in
set_option maxRecDepth 100000 in
theorem walk (w : World) (hK : Kinds w) (a0 : Int) (w0 : (Lit.int .i64 a0).wf = true) (a1 : Int) (w1 : (Lit.int .u64 a1).wf = true) (a2 : Option Addr) (cap2 : Nat) (l2 : List Nat) (h2 : Bs w a2 cap2 l2) (n2 : a2 = none → cap2 = 0) (r2 : cap2 ≤ 140737488351232) :
    Calls Tryd.prog 3 #[.int .i64 a0, .int .u64 a1, .slice a2 l2.length cap2] w fun e w' => e = .returned (.bool true) ∧ Nb w w' := by
  obtain ⟨s, rfl, hs⟩ := u64_of_wf w1
  have H := Lib.hid h2
  have HK := Lib.hid hK
  have hL := h2.len
  clear h2 hK w0 w1
  have hs64 : s < 18446744073709551616 := hs
  clear hs
  cases hg : goodB l2.length with
  | false =>
    have hg1 := good_any a2 cap2 l2.length
    rw [hg] at hg1
    have HG := Lib.hid hg1
    clear hg hg1
    go_enter Tryd.func3, Tryd.ntmps3
    go_wp2_with fail
    refine (alive2_any w HK.out).mono ?_
    rintro e w1 ⟨rfl, n1⟩
    go_wp2_with fail
    refine (HG.out _ hL).mono ?_
    rintro e w2 ⟨rfl, rfl⟩
    go_wp2
    go_ret
    exact ⟨rfl, n1⟩
  | true =>
    have hg1 := good_any a2 cap2 l2.length
    rw [hg] at hg1
    have HG := Lib.hid hg1
    clear hg hg1
    go_enter Tryd.func3, Tryd.ntmps3
    go_wp2_with fail
    refine (alive2_any w HK.out).mono ?_
    rintro e w1 ⟨rfl, n1⟩
    go_wp2_with fail
    refine (HG.out _ hL).mono ?_
    rintro e w2 ⟨rfl, rfl⟩
    go_wp2_with fail
    refine (sum_u a0 a2 cap2 l2 _ (HK.out.below n1) (H.out.below n1)).mono ?_
    rintro e w2 ⟨rfl, n2⟩
    go_wp2_with fail
    refine (refsum_u a0 a2 cap2 l2 _ (H.out.below (n1.tr n2))).mono ?_
    rintro e w3 ⟨rfl, n3⟩
    go_wp2_with fail
    refine (more_u a0 s a2 cap2 l2 _ (HK.out.below ((n1.tr n2).tr n3)) (H.out.below ((n1.tr n2).tr n3)) hs64).mono ?_
    rintro e w4 ⟨rfl, n4⟩
    go_wp2_with fail
    refine (refmore_u a0 s a2 cap2 l2 _ (H.out.below (((n1.tr n2).tr n3).tr n4)) hs64).mono ?_
    rintro e w5 ⟨rfl, n5⟩
    go_wp2_with fail
    refine (of_any a0 _).mono ?_
    rintro e w6 ⟨rfl, rfl⟩
    go_wp2_with fail
    refine (size_any a0 _ (HK.out.below ((((n1.tr n2).tr n3).tr n4).tr n5))).mono ?_
    rintro e w6 ⟨rfl, n6⟩
    go_wp2
    go_ret
    exact ⟨rfl, ((((n1.tr n2).tr n3).tr n4).tr n5).tr n6⟩

theorem door_met (os : Os) (args : Array Value) : laidMetH Tryd.prog Rows.crcSumsRow.laid ((World.doorLaid Tryd.prog 19 os).forCall (fun _ _ => 0) ⟨#[], args, []⟩).memory :=
  laidMetH_of_parts3 (fuel := 8) (laidMet_of_run' 8 (by kernel_rfl) (by kernel_rfl)) (by kernel_rfl) (by kernel_rfl)
set_option maxHeartbeats 2000000 in
set_option maxRecDepth 100000 in
theorem lifted (os : Os) (started : os.Started) (H : Type) (enc : TypeId × Value → H) :
    ReturnsInHanded {} Tryd.checked os 3 .any (fun w args => (Rows.crcSumsSpec.pre enc Tryd.prog Tryd.f3 [] false w args ∧ laidMetH Tryd.prog Rows.crcSumsRow.laid w) ∧ sizedMet enc Tryd.prog Tryd.f3 (OpenSpec.ofChange Rows.crcSumsSpec) false w args)
      (Rows.crcSumsSpec.post enc Tryd.prog Tryd.f3 false true false false) := by
  refine returnsInHanded_of_change_and (C := Tryd.checked) (X := fun w _ => laidMetH Tryd.prog Rows.crcSumsRow.laid w) (fun _ _ _ hh h => h.of_heap hh) own started (by kernel_rfl) Tryd.func3
    (ChangeSpec.witness_shaped (enc := enc) (C := Tryd.checked) (os := os) (X := fun w _ => laidMetH Tryd.prog Rows.crcSumsRow.laid w) false (World.doorLaid Tryd.prog 19 os) #[.int .i64 0, .int .u64 0, .slice none 0 0] 8 rfl (World.shaped_of_RefB (by kernel_rfl) (by kernel_rfl)) (by kernel_rfl) (by kernel_rfl) (by kernel_rfl) (door_met os _)) ?_
  intro W base args ds gs before hval0 hW _ hR hL _
  have hval : ∀ (j : Nat) t v, Tryd.f3.params[j]? = some t → args[j]? = some v → Value.okWide Tryd.prog W .any base t v := hval0
  have hW' := hW
  obtain ⟨p, q, hA0, hV, rfl, hfz, hnd⟩ := hW
  have hA : DataW.TrodAll enc Tryd.prog W 0 (fun _ => true) true Tryd.f3.params.toList args.toList ds p := hA0
  rw [Tryd.params3] at hA hval
  obtain ⟨v0, vs0, d0, ds0, p0, q0, hargs, rfl, rfl, h0, r0⟩ := trodAll_cons hA
  obtain ⟨v1, vs1, d1, ds1, p1, q1, rfl, rfl, rfl, h1, r1⟩ := trodAll_cons r0
  obtain ⟨v2, vs2, d2, ds2, p2, q2, rfl, rfl, rfl, h2, r2⟩ := trodAll_cons r1
  obtain ⟨rfl, rfl, rfl⟩ := trodAll_nil r2
  obtain rfl : args = #[v0, v1, v2] := by cases args; simp_all
  obtain ⟨rfl, rfl⟩ := trodVars_none hV
  have k0 := h0
  have lt0 : ∀ x ∈ p0, x.block < W.heap.size := by obtain ⟨m, hm⟩ := k0; exact DataW.trod_lt m _ _ _ hm
  have k1 := h1
  have lt1 : ∀ x ∈ p1, x.block < W.heap.size := by obtain ⟨m, hm⟩ := k1; exact DataW.trod_lt m _ _ _ hm
  have k2 := h2
  have lt2 : ∀ x ∈ p2, x.block < W.heap.size := by obtain ⟨m, hm⟩ := k2; exact DataW.trod_lt m _ _ _ hm
  clear hA0
  rw [Tryd.params3] at hR
  have hR0 : (DataW.weightsEach Tryd.prog ([3, 22, 23] ++ Rows.crcSumsSpec.plain.varTypes Tryd.prog) ([d0, d1, d2] ++ [])).all (· ≤ reachBytes) = true := hR
  simp only [List.cons_append, List.nil_append, DataW.weightsEach, List.append_nil, List.all_append, Bool.and_eq_true] at hR0
  obtain ⟨hR0, hR1, hR2, _⟩ := hR0
  obtain ⟨a0, rfl, rfl, rfl, w0⟩ := open_int Tryd.underlying3 (hval 0 3 v0 rfl rfl) h0
  obtain ⟨a1, rfl, rfl, rfl, w1⟩ := open_int Tryd.underlying22 (hval 1 22 v1 rfl rfl) h1
  obtain ⟨fu2, hf2⟩ := h2
  obtain ⟨a2, lc2, cap2, rfl⟩ := okWide_slice Tryd.underlying23 (hval 2 23 v2 rfl rfl)
  have hc2 : DataW.trod enc Tryd.prog W 0 (fun _ => true) true fu2 23 [.slice a2 lc2 cap2] = some (d2, p2) := hf2
  obtain ⟨l2, rfl, hb2, n2, rr2⟩ := bytes_of_slice hc2 hR2
  refine (walk W (kinds_of hL) a0 w0 a1 w1 a2 cap2 l2 hb2 n2 rr2).mono fun e W' ⟨he, bel⟩ => ?_
  subst he
  exact ⟨_, rfl, _, _, _, [], _, [], hW', trodAll_mk1 (shut_bool Tryd.underlying4 _), (trodAll_cons_mk (Below.trod laidOut (by kernel_rfl) (of_decide_eq_true (by kernel_rfl)) k0 bel lt0) (trodAll_cons_mk (Below.trod laidOut (by kernel_rfl) (of_decide_eq_true (by kernel_rfl)) k1 bel lt1) (trodAll_cons_mk (Below.trod laidOut (by kernel_rfl) (of_decide_eq_true (by kernel_rfl)) k2 bel lt2) trodAll_mk0))), rfl, bel.frame _, fun h => by cases h⟩

theorem over : Rows.crcSumsRow.holds Tryd.pinned (OpenSpec.ofChange Rows.crcSumsSpec) :=
  OpenClaim.holds_of_wide 3 Tryd.f3 rfl rfl rfl rfl rfl rfl rfl ⟨rfl, rfl, rfl, rfl, rfl⟩ rfl rfl rfl rfl rfl (by kernel_rfl) Tryd.func3 (by kernel_rfl)
    (of_decide_eq_true (by kernel_rfl)) (by unfold Func.isWrapper; first | (rw [if_pos (by decide +kernel)]; kernel_rfl) | (rw [if_neg (by decide +kernel)]; exact ⟨rfl, rfl⟩))
    (fun os started H enc _ => lifted os started H enc)

theorem plain (f : FuncId) (fn : Func) (hf : Tryd.pinned.checked.prog.funcNamed "omnibus/omnibuslaw02.CrcSums" = some f) (hfn : Tryd.pinned.checked.prog.funcs[f]? = some fn) :
    false = Tryd.pinned.checked.prog.looks [] ∧ ∀ (j : Nat) t, fn.params[j]? = some t → Tryd.pinned.checked.prog.wantsStandIn t = false := by
  obtain rfl : f = 3 := Option.some.inj ((show Tryd.prog.funcNamed "omnibus/omnibuslaw02.CrcSums" = some 3 by kernel_rfl).symm.trans hf) |>.symm
  obtain rfl : fn = Tryd.f3 := (Option.some.inj (Tryd.func3.symm.trans hfn)).symm
  refine ⟨by kernel_rfl, fun j t ht => ?_⟩
  rw [Tryd.params3] at ht
  have hm : t ∈ [3, 22, 23] := by have := Array.mem_of_getElem? ht; simp at this ⊢; omega
  have hall : ([3, 22, 23].all fun u => !Tryd.prog.wantsStandIn u) = true := by kernel_rfl
  exact (show Tryd.prog.wantsStandIn t = false by simpa using List.all_eq_true.1 hall t hm)
theorem proved : Rows.CrcSumsCardSaid :=
  Claim7.holds_tied_plain_at .later [] _ _ _ _ over (fun _ h => by cases h) (by kernel_rfl) (fun _ h => by cases h) crcSums_row_tie rfl ⟨rfl, rfl⟩ (by kernel_rfl) rfl plain (by kernel_rfl)
#print axioms proved
end Go.Proofs.YtmfahnfmahahjaaDoor.crcSums
