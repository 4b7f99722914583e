/- For every bit, row, way and second row the law FixedBack answers true and leaves its arguments as they were. No conditions. -/
import Derived.Test.YtjccmnmjbffikaaRows
import Derived.Test.YtjccmnmjbffikaaFixL
import Derived.WalkKit
import Derived.ProofKit
import Derived.OpenShut
import Derived.ShutString
import Derived.ChangeOld
import Derived.Below
import Derived.Carry
import Derived.Lib.SmallJoins
namespace Go.Proofs.Ytjccmnmjbffikaa.fixedBack
open Go.ChangeShapes Go.WideShapes Go.ChangeAt Go.RowKit Go.Joins
set_option linter.unusedVariables false
theorem own : ownKnob Try.prog.godebug = none := by kernel_rfl
theorem laidOut : laidOutB Try.prog = true := by kernel_rfl
theorem arr4 {α : Type} {cs : Array α} (h : cs.size = 4) : ∃ c0 c1 c2 c3, cs = #[c0, c1, c2, c3] := by
  obtain ⟨l⟩ := cs
  match l, h with
  | [c0, c1, c2, c3], _ => exact ⟨c0, c1, c2, c3, rfl⟩
set_option maxHeartbeats 8000000 in
set_option maxRecDepth 100000 in
theorem walk (w : World) (a0_0 : Int) (w0_0 : (Lit.int .u8 a0_0).wf = true) (a0_1 : Option Addr) (cap0_1 : Nat) (l0_1 : List Nat) (h0_1 : Bs w a0_1 cap0_1 l0_1) (n0_1 : a0_1 = none → cap0_1 = 0) (a0_2_0 : Int) (w0_2_0 : (Lit.int .i64 a0_2_0).wf = true) (a0_2_1 : Bool) (a1 : Option Addr) (cap1 : Nat) (l1 : List Nat) (h1 : Bs w a1 cap1 l1) (n1 : a1 = none → cap1 = 0) :
    Calls Try.prog 5 #[.agg #[.int .u8 a0_0, .slice a0_1 l0_1.length cap0_1, .int .i64 a0_2_0, .bool a0_2_1], .slice a1 l1.length cap1] w fun e w' => e = .returned (.bool true) ∧ Nb w w' := by
  obtain ⟨p, rfl, hp⟩ := u8_of_wf w0_0
  have hL := h0_1.len
  have hR := h1.len
  have H := Lib.hid h0_1
  have H' := Lib.hid h1
  have hmp : Blk (w.alloc (.cells #[.int .u8 p, .slice a0_1 l0_1.length cap0_1, .int .i64 a0_2_0, .bool a0_2_1] 26)) w.heap.size #[.int .u8 p, .slice a0_1 l0_1.length cap0_1, .int .i64 a0_2_0, .bool a0_2_1] _ := Blk.new w _ _
  have HM := Lib.hid hmp
  clear h0_1 n0_1 h1 n1 w0_0 hmp
  by_cases hbig : 3000 < l0_1.length ∨ 3000 < l1.length
  · by_cases hb1 : 3000 < l0_1.length
    · clear hbig
      go_enter Try.func5, Try.ntmps5
      go_wp2_with fail
      refine (alive4_any _).mono ?_
      rintro e w1 ⟨rfl, n1⟩
      have hB := HM.out.nb n1
      obtain ⟨c0, c1, c2, c3⟩ := hB.c4
      go_wp2
      go_ret
      exact ⟨rfl, (Nb.rfl.al _).tr n1⟩
    · have hb2 : 3000 < l1.length := by omega
      clear hbig
      go_enter Try.func5, Try.ntmps5
      go_wp2_with fail
      refine (alive4_any _).mono ?_
      rintro e w1 ⟨rfl, n1⟩
      have hB := HM.out.nb n1
      obtain ⟨c0, c1, c2, c3⟩ := hB.c4
      go_wp2
      go_ret
      exact ⟨rfl, (Nb.rfl.al _).tr n1⟩
  · have hb1 : l0_1.length ≤ 3000 := by omega
    have hb2 : l1.length ≤ 3000 := by omega
    clear hbig
    obtain ⟨O2, hO2⟩ : ∃ O, O = fgL p l1 a0_2_0 a0_2_1 := ⟨_, rfl⟩
    obtain ⟨E2, hE2⟩ : ∃ E, E = fgE p l1 a0_2_0 a0_2_1 := ⟨_, rfl⟩
    have hg2 := fun w hb => fxget_u p a1 cap1 l1 a0_2_0 a0_2_1 w hp hb
    have herr : E2 ≠ 0 → O2 = [] := fun h => by rw [hO2]; rw [hE2] at h; exact fg_err h
    have hback : E2 = 0 → fpE p O2 a0_2_0 a0_2_1 = 0 ∧ fpL p O2 a0_2_0 a0_2_1 = l1 := fun h => by rw [hO2]; rw [hE2] at h; exact fg_back h
    rw [← hO2, ← hE2] at hg2
    have G2 := Lib.hid hg2
    have HErr := Lib.hid herr
    have HBack := Lib.hid hback
    have h1 := fun w hb => fxput_u p a0_1 cap0_1 l0_1 a0_2_0 a0_2_1 w hp hb
    clear hg2 herr hback hO2 hE2
    cases hc : fpOk p l0_1 a0_2_0 a0_2_1 with
    | true =>
      obtain ⟨q0, q1, q2, q3, q4, q5⟩ := fp_back hc
      have h2 := fun a c w hb => fxget_u p a c (fpL p l0_1 a0_2_0 a0_2_1) a0_2_0 a0_2_1 w hp hb
      have h3 := fun w => fxsize_u l0_1.length a0_2_0 a0_2_1 w
      rw [q0] at h1
      rw [q1, q2] at h2
      rw [q3, q4] at h3
      generalize fpL p l0_1 a0_2_0 a0_2_1 = X at *
      have H1 := Lib.hid h1
      have H2 := Lib.hid h2
      have H3 := Lib.hid h3
      have dX : ((X.length : Int) != (X.length : Int)) = false := by simp
      clear h1 h2 h3 q0 q1 q2 q3 q4 hc
      go_enter Try.func5, Try.ntmps5
      go_wp2_with fail
      refine (alive4_any _).mono ?_
      rintro e w1 ⟨rfl, n1⟩
      have hB := HM.out.nb n1
      obtain ⟨c0, c1, c2, c3⟩ := hB.c4
      have m1 : Nb w w1 := (Nb.rfl.al _).tr n1
      have hlt1 := hB.lt
      go_wp2_with fail
      have hW2 := Blk.new w1 #[.int .i64 a0_2_0, .bool a0_2_1] 29
      have hB2' := hB.al (.cells #[.int .i64 a0_2_0, .bool a0_2_1] 29)
      have m2' : Nb w (w1.alloc (.cells #[.int .i64 a0_2_0, .bool a0_2_1] 29)) := m1.al _
      clear c0 c1 c2 c3 hB
      refine (H1.out _ (H.out.below m2')).mono ?_
      rintro e w3 ⟨⟨aA, cA, rfl, hfA⟩, n3⟩
      have FA := Lib.hid hfA
      have hB3 := hB2'.nb n3
      have hW3 := hW2.nb n3
      have m3 := m2'.tr n3
      obtain ⟨c0, c1, c2, c3⟩ := hB3.c4
      obtain ⟨v0, v1⟩ := hW3.c2
      clear hfA hB2' hW2 m2'
      go_wp2_with fail
      refine (H2.out _ _ _ FA.out.bs.1).mono ?_
      rintro e w4 ⟨⟨aB, cB, rfl, hfB⟩, n4⟩
      have FB := Lib.hid hfB
      have hB4 := hB3.nb n4
      have hW4 := hW3.nb n4
      have m4 := m3.tr n4
      clear hfB c0 c1 c2 c3 v0 v1 hB3 hW3
      obtain ⟨c0, c1, c2, c3⟩ := hB4.c4
      obtain ⟨v0, v1⟩ := hW4.c2
      go_wp2_with fail
      refine (H3.out _).mono ?_
      rintro e w5 ⟨rfl, n5⟩
      have hB5 := hB4.nb n5
      have hW5 := hW4.nb n5
      have m5 := m4.tr n5
      clear c0 c1 c2 c3 v0 v1 hB4 hW4
      obtain ⟨c0, c1, c2, c3⟩ := hB5.c4
      obtain ⟨v0, v1⟩ := hW5.c2
      go_wp2_with fail
      refine (same_any aB a0_1 cB cap0_1 _ _ _ (FB.out.bs.1.below n5) (H.out.below m5)).mono ?_
      rintro e w6 ⟨rfl, n6⟩
      have hB6 := hB5.nb n6
      have hW6 := hW5.nb n6
      have m6 := m5.tr n6
      clear c0 c1 c2 c3 v0 v1 hB5 hW5
      obtain ⟨c0, c1, c2, c3⟩ := hB6.c4
      obtain ⟨v0, v1⟩ := hW6.c2
      go_wp2_with fail
      refine (G2.out _ (H'.out.below m6)).mono ?_
      rintro e w7 ⟨⟨aD, cD, rfl, hfD⟩, n7⟩
      have FD := Lib.hid hfD
      have hB7 := hB6.nb n7
      have hW7 := hW6.nb n7
      have m7 := m6.tr n7
      clear hfD c0 c1 c2 c3 v0 v1 hB6 hW6
      obtain ⟨c0, c1, c2, c3⟩ := hB7.c4
      obtain ⟨v0, v1⟩ := hW7.c2
      cases hz : decide (E2 = 0) with
      | false =>
        have hz' : E2 ≠ 0 := of_decide_eq_false hz
        have hO2 := HErr.out hz'
        subst hO2
        have hd2 : ((E2 : Int) != 0) = true := by rw [bne_iff_ne]; omega
        clear FD hz hz'
        go_wp2
        go_ret
        exact ⟨rfl, m7⟩
      | true =>
        have hz' : E2 = 0 := of_decide_eq_true hz
        have hb := HBack.out hz'
        have hd2 : ((E2 : Int) != 0) = false := by rw [bne_eq_false_iff_eq]; omega
        have hpt := fun w hb => fxput_u p aD cD O2 a0_2_0 a0_2_1 w hp hb
        rw [hb.1, hb.2] at hpt
        have HP := Lib.hid hpt
        clear hz hz' hb hpt HErr HBack
        go_wp2_with fail
        refine (HP.out _ FD.out.bs.1).mono ?_
        rintro e w8 ⟨⟨aE, cE, rfl, hfE⟩, n8⟩
        have FE := Lib.hid hfE
        clear hfE
        go_wp2_with fail
        refine (same_any aE a1 cE cap1 _ _ _ FE.out.bs.1 (H'.out.below (m7.tr n8))).mono ?_
        rintro e w9 ⟨rfl, n9⟩
        go_wp2
        go_ret
        exact ⟨rfl, (m7.tr n8).tr n9⟩
    | false =>
      obtain ⟨q0, q1⟩ := fp_err hc
      rw [q0, q1] at h1
      have H1 := Lib.hid h1
      clear h1 q0 q1 hc
      go_enter Try.func5, Try.ntmps5
      go_wp2_with fail
      refine (alive4_any _).mono ?_
      rintro e w1 ⟨rfl, n1⟩
      have hB := HM.out.nb n1
      obtain ⟨c0, c1, c2, c3⟩ := hB.c4
      have m1 : Nb w w1 := (Nb.rfl.al _).tr n1
      have hlt1 := hB.lt
      go_wp2_with fail
      have hW2 := Blk.new w1 #[.int .i64 a0_2_0, .bool a0_2_1] 29
      have hB2' := hB.al (.cells #[.int .i64 a0_2_0, .bool a0_2_1] 29)
      have m2' : Nb w (w1.alloc (.cells #[.int .i64 a0_2_0, .bool a0_2_1] 29)) := m1.al _
      clear c0 c1 c2 c3 hB
      refine (H1.out _ (H.out.below m2')).mono ?_
      rintro e w6 ⟨⟨aA, cA, rfl, hfA⟩, n6⟩
      have hB6 := hB2'.nb n6
      have hW6 := hW2.nb n6
      have m6 := m2'.tr n6
      obtain ⟨c0, c1, c2, c3⟩ := hB6.c4
      obtain ⟨v0, v1⟩ := hW6.c2
      clear hfA hB2' hW2 m2'
      go_wp2_with fail
      refine (G2.out _ (H'.out.below m6)).mono ?_
      rintro e w7 ⟨⟨aD, cD, rfl, hfD⟩, n7⟩
      have FD := Lib.hid hfD
      have hB7 := hB6.nb n7
      have hW7 := hW6.nb n7
      have m7 := m6.tr n7
      clear hfD c0 c1 c2 c3 v0 v1 hB6 hW6
      obtain ⟨c0, c1, c2, c3⟩ := hB7.c4
      obtain ⟨v0, v1⟩ := hW7.c2
      cases hz : decide (E2 = 0) with
      | false =>
        have hz' : E2 ≠ 0 := of_decide_eq_false hz
        have hO2 := HErr.out hz'
        subst hO2
        have hd2 : ((E2 : Int) != 0) = true := by rw [bne_iff_ne]; omega
        clear FD hz hz'
        go_wp2
        go_ret
        exact ⟨rfl, m7⟩
      | true =>
        have hz' : E2 = 0 := of_decide_eq_true hz
        have hb := HBack.out hz'
        have hd2 : ((E2 : Int) != 0) = false := by rw [bne_eq_false_iff_eq]; omega
        have hpt := fun w hb => fxput_u p aD cD O2 a0_2_0 a0_2_1 w hp hb
        rw [hb.1, hb.2] at hpt
        have HP := Lib.hid hpt
        clear hz hz' hb hpt HErr HBack
        go_wp2_with fail
        refine (HP.out _ FD.out.bs.1).mono ?_
        rintro e w8 ⟨⟨aE, cE, rfl, hfE⟩, n8⟩
        have FE := Lib.hid hfE
        clear hfE
        go_wp2_with fail
        refine (same_any aE a1 cE cap1 _ _ _ FE.out.bs.1 (H'.out.below (m7.tr n8))).mono ?_
        rintro e w9 ⟨rfl, n9⟩
        go_wp2
        go_ret
        exact ⟨rfl, (m7.tr n8).tr n9⟩

set_option maxHeartbeats 2000000 in
set_option maxRecDepth 100000 in
theorem lifted (os : Os) (started : os.Started) (H : Type) (enc : TypeId × Value → H) :
    ReturnsInHanded {} Try.checked os 5 .any (Rows.fixedBackSpec.pre6 enc Try.prog Try.f5 Rows.fixedBackRow.domain false) (Rows.fixedBackSpec.post enc Try.prog Try.f5 false true false false) := by
  refine returnsInHanded_of_change (C := Try.checked) own started (by kernel_rfl) Try.func5
    (ChangeSpec.witness6 (enc := enc) (C := Try.checked) false ⟨#[], #[.agg #[.int .u8 0, .slice none 0 0, .int .i64 0, .bool false], .slice none 0 0], []⟩ 8 (by kernel_rfl) (by kernel_rfl) (by kernel_rfl) (by kernel_rfl)) ?_
  intro W base args ds gs before hval0 hW hcnd _
  have hval : ∀ (j : Nat) t v, Try.f5.params[j]? = some t → args[j]? = some v → Value.okWide Try.prog W .any base t v := hval0
  have hW' := hW
  obtain ⟨p, q, hA0, hV, rfl, hfz, hnd⟩ := hW
  have hA : DataW.TrodAll enc Try.prog W 0 (fun _ => true) true Try.f5.params.toList args.toList ds p := hA0
  rw [Try.params5] at hA hval
  obtain ⟨v0, vs0, d0, ds0, p0, q0, hargs, rfl, rfl, h0, r0⟩ := trodAll_cons hA
  obtain ⟨v1, vs1, d1, ds1, p1, q1, rfl, rfl, rfl, h1, r1⟩ := trodAll_cons r0
  obtain ⟨rfl, rfl, rfl⟩ := trodAll_nil r1
  obtain rfl : args = #[v0, v1] := by cases args; simp_all
  obtain ⟨rfl, rfl⟩ := trodVars_none hV
  have k0 := h0
  have lt0 : ∀ x ∈ p0, x.block < W.heap.size := by obtain ⟨m, hm⟩ := k0; exact DataW.trod_lt m _ _ _ hm
  have k1 := h1
  have lt1 : ∀ x ∈ p1, x.block < W.heap.size := by obtain ⟨m, hm⟩ := k1; exact DataW.trod_lt m _ _ _ hm
  clear hA0
  obtain ⟨cs0, rfl, hz0⟩ := okWide_struct Try.underlying26 (hval 0 26 v0 rfl rfl)
  obtain ⟨c0_0, c0_1, c0_2, c0_3, rfl⟩ := arr4 (hz0.trans (by kernel_rfl))
  obtain ⟨fu0, hf0⟩ := h0
  have hc0 : DataW.trod enc Try.prog W 0 (fun _ => true) true fu0 26 [c0_0, c0_1, c0_2, c0_3] = some (d0, p0) := hf0
  obtain ⟨m0_0, y0_0, g0_0⟩ := open_fld Try.underlying26 hc0 0 _ rfl
  have t0_0 : DataW.trod enc Try.prog W 0 (fun _ => true) true m0_0 5 (([c0_0, c0_1, c0_2, c0_3].drop 0).take (Try.prog.cellsOf 5)) = some y0_0 := g0_0
  rw [show Try.prog.cellsOf 5 = 1 from by kernel_rfl] at t0_0
  have u0_0 : DataW.trod enc Try.prog W 0 (fun _ => true) true m0_0 5 [c0_0] = some y0_0 := t0_0
  obtain ⟨m0_1, y0_1, g0_1⟩ := open_fld Try.underlying26 hc0 1 _ rfl
  have t0_1 : DataW.trod enc Try.prog W 0 (fun _ => true) true m0_1 22 (([c0_0, c0_1, c0_2, c0_3].drop 1).take (Try.prog.cellsOf 22)) = some y0_1 := g0_1
  rw [show Try.prog.cellsOf 22 = 1 from by kernel_rfl] at t0_1
  have u0_1 : DataW.trod enc Try.prog W 0 (fun _ => true) true m0_1 22 [c0_1] = some y0_1 := t0_1
  obtain ⟨m0_2, y0_2, g0_2⟩ := open_fld Try.underlying26 hc0 2 _ rfl
  have t0_2 : DataW.trod enc Try.prog W 0 (fun _ => true) true m0_2 24 (([c0_0, c0_1, c0_2, c0_3].drop 2).take (Try.prog.cellsOf 24)) = some y0_2 := g0_2
  rw [show Try.prog.cellsOf 24 = 2 from by kernel_rfl] at t0_2
  have u0_2 : DataW.trod enc Try.prog W 0 (fun _ => true) true m0_2 24 [c0_2, c0_3] = some y0_2 := t0_2
  obtain ⟨m0_2_0, y0_2_0, g0_2_0⟩ := open_fld Try.underlying24 u0_2 0 _ rfl
  have t0_2_0 : DataW.trod enc Try.prog W 0 (fun _ => true) true m0_2_0 3 (([c0_2, c0_3].drop 0).take (Try.prog.cellsOf 3)) = some y0_2_0 := g0_2_0
  rw [show Try.prog.cellsOf 3 = 1 from by kernel_rfl] at t0_2_0
  have u0_2_0 : DataW.trod enc Try.prog W 0 (fun _ => true) true m0_2_0 3 [c0_2] = some y0_2_0 := t0_2_0
  obtain ⟨m0_2_1, y0_2_1, g0_2_1⟩ := open_fld Try.underlying24 u0_2 1 _ rfl
  have t0_2_1 : DataW.trod enc Try.prog W 0 (fun _ => true) true m0_2_1 4 (([c0_2, c0_3].drop 1).take (Try.prog.cellsOf 4)) = some y0_2_1 := g0_2_1
  rw [show Try.prog.cellsOf 4 = 1 from by kernel_rfl] at t0_2_1
  have u0_2_1 : DataW.trod enc Try.prog W 0 (fun _ => true) true m0_2_1 4 [c0_3] = some y0_2_1 := t0_2_1
  obtain ⟨a0_2_0, e0_2_0, x0_2_0, w0_2_0⟩ := DataW.trod_int Try.underlying3 u0_2_0
  obtain rfl : c0_2 = .int .i64 a0_2_0 := by simpa using e0_2_0
  obtain ⟨a0_2_1, e0_2_1, x0_2_1⟩ := DataW.trod_bool Try.underlying4 u0_2_1
  obtain rfl : c0_3 = .bool a0_2_1 := by simpa using e0_2_1
  obtain ⟨a0_0, e0_0, x0_0, w0_0⟩ := DataW.trod_int Try.underlying5 u0_0
  obtain rfl : c0_0 = .int .u8 a0_0 := by simpa using e0_0
  obtain ⟨a0_1, cap0_1, l0_1, e0_1, hb0_1, n0_1⟩ := bytes_open u0_1
  subst e0_1
  obtain ⟨a1, lc1, cap1, rfl⟩ := okWide_slice Try.underlying22 (hval 1 22 v1 rfl rfl)
  obtain ⟨fu1, hf1⟩ := h1
  have hc1 : DataW.trod enc Try.prog W 0 (fun _ => true) true fu1 22 [.slice a1 lc1 cap1] = some (d1, p1) := hf1
  obtain ⟨b1, cb1, l1, e1, hb1, n1⟩ := bytes_open hc1
  simp only [Value.slice.injEq] at e1
  obtain ⟨rfl, rfl, rfl⟩ := e1
  refine (walk W a0_0 w0_0 a0_1 cap0_1 l0_1 hb0_1 n0_1 a0_2_0 w0_2_0 a0_2_1 a1 cap1 l1 hb1 n1).mono fun e W' ⟨he, bel⟩ => ?_
  subst he
  exact ⟨_, rfl, _, _, _, [], _, [], hW', trodAll_mk1 (shut_bool Try.underlying4 _), (trodAll_cons_mk (Below.trod laidOut (by kernel_rfl) (of_decide_eq_true (by kernel_rfl)) k0 bel lt0) (trodAll_cons_mk (Below.trod laidOut (by kernel_rfl) (of_decide_eq_true (by kernel_rfl)) k1 bel lt1) trodAll_mk0)), rfl, bel.frame _, fun h => by cases h⟩

theorem over : Rows.fixedBackRow.holds Try.pinned (OpenSpec.ofChange Rows.fixedBackSpec) :=
  OpenClaim.holds_of_wide 5 Try.f5 rfl rfl rfl rfl rfl rfl rfl ⟨rfl, rfl, rfl, rfl, rfl⟩ rfl rfl rfl rfl rfl (by kernel_rfl) Try.func5 (by kernel_rfl)
    (of_decide_eq_true (by kernel_rfl)) (by unfold Func.isWrapper; first | (rw [if_pos (by decide +kernel)]; kernel_rfl) | (rw [if_neg (by decide +kernel)]; exact ⟨rfl, rfl⟩))
    (fun os started H enc _ => lifted os started H enc)
theorem proved : Rows.FixedBackSaid := over
#print axioms proved
end Go.Proofs.Ytjccmnmjbffikaa.fixedBack
