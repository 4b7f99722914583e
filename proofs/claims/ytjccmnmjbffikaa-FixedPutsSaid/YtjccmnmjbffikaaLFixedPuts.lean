/- For every bit, row, way and second row the law FixedPuts answers true and leaves its arguments as they were. No conditions. -/
import Derived.Test.YtjccmnmjbffikaaRows
import Derived.Test.YtjccmnmjbffikaaFixA
import Derived.WalkKit
import Derived.ProofKit
import Derived.OpenShut
import Derived.ShutString
import Derived.ChangeOld
import Derived.Below
import Derived.Carry
import Derived.Lib.SmallJoins
namespace Go.Proofs.Ytjccmnmjbffikaa.fixedPuts
open Go.ChangeShapes Go.WideShapes Go.ChangeAt Go.RowKit Go.Joins
set_option linter.unusedVariables false
theorem own : ownKnob Try.prog.godebug = none := by kernel_rfl
theorem laidOut : laidOutB Try.prog = true := by kernel_rfl
theorem arr4 {α : Type} {cs : Array α} (h : cs.size = 4) : ∃ c0 c1 c2 c3, cs = #[c0, c1, c2, c3] := by
  obtain ⟨l⟩ := cs
  match l, h with
  | [c0, c1, c2, c3], _ => exact ⟨c0, c1, c2, c3, rfl⟩
set_option maxHeartbeats 4000000 in
set_option maxRecDepth 100000 in
theorem walk (w : World) (a0_0 : Int) (w0_0 : (Lit.int .u8 a0_0).wf = true) (a0_1 : Option Addr) (cap0_1 : Nat) (l0_1 : List Nat) (h0_1 : Bs w a0_1 cap0_1 l0_1) (n0_1 : a0_1 = none → cap0_1 = 0) (a0_2_0 : Int) (w0_2_0 : (Lit.int .i64 a0_2_0).wf = true) (a0_2_1 : Bool) (a1 : Option Addr) (cap1 : Nat) (l1 : List Nat) (h1 : Bs w a1 cap1 l1) (n1 : a1 = none → cap1 = 0) :
    Calls Try.prog 3 #[.agg #[.int .u8 a0_0, .slice a0_1 l0_1.length cap0_1, .int .i64 a0_2_0, .bool a0_2_1], .slice a1 l1.length cap1] w fun e w' => e = .returned (.bool true) ∧ Nb w w' := by
  obtain ⟨p, rfl, hp⟩ := u8_of_wf w0_0
  have hL := h0_1.len
  have hR := h1.len
  have H := Lib.hid h0_1
  have H' := Lib.hid h1
  have hmp : Blk (w.alloc (.cells #[.int .u8 p, .slice a0_1 l0_1.length cap0_1, .int .i64 a0_2_0, .bool a0_2_1] 26)) w.heap.size #[.int .u8 p, .slice a0_1 l0_1.length cap0_1, .int .i64 a0_2_0, .bool a0_2_1] _ := Blk.new w _ _
  have HM := Lib.hid hmp
  clear h0_1 n0_1 h1 n1 w0_0 hmp
  have hg1 := fun w hn => good4_any p a0_1 cap0_1 l0_1.length a0_2_0 a0_2_1 w hn
  cases hg : goodB l0_1.length with
  | false =>
    rw [hg] at hg1
    have HG := Lib.hid hg1
    clear hg hg1
    go_enter Try.func3, Try.ntmps3
    go_wp2_with fail
    refine (alive4_any _).mono ?_
    rintro e w1 ⟨rfl, n1⟩
    have hB := HM.out.nb n1
    obtain ⟨c0, c1, c2, c3⟩ := hB.c4
    have m1 : Nb w w1 := (Nb.rfl.al _).tr n1
    go_wp2_with fail
    refine (HG.out _ hL).mono ?_
    rintro e w2 ⟨rfl, n2⟩
    go_wp2
    go_ret
    exact ⟨rfl, m1.tr n2⟩
  | true =>
    rw [hg] at hg1
    have HG := Lib.hid hg1
    clear hg hg1
    by_cases hmid : 3000 < l1.length ∧ l1.length ≤ 65536
    · have r1 := hmid.1
      have r2 := hmid.2
      clear hmid
      go_enter Try.func3, Try.ntmps3
      go_wp2_with fail
      refine (alive4_any _).mono ?_
      rintro e w1 ⟨rfl, n1⟩
      have hB := HM.out.nb n1
      obtain ⟨c0, c1, c2, c3⟩ := hB.c4
      have m1 : Nb w w1 := (Nb.rfl.al _).tr n1
      go_wp2_with fail
      refine (HG.out _ hL).mono ?_
      rintro e w2 ⟨rfl, n2⟩
      go_wp2
      go_ret
      exact ⟨rfl, m1.tr n2⟩
    · have hmid2 : l1.length ≤ 3000 ∨ 65536 < l1.length := by omega
      have h1 := fun w hb => fxput_u p a0_1 cap0_1 l0_1 a0_2_0 a0_2_1 w hp hb
      have h2 := fun w hb => refput_u p a0_1 cap0_1 l0_1 a0_2_0 a0_2_1 w hp hb
      have h3 := fun w hb => fxget_u p a1 cap1 l1 a0_2_0 a0_2_1 w hp hb
      have h4 := fun w hb => refget_u p a1 cap1 l1 a0_2_0 a0_2_1 w hp hb
      obtain ⟨O, hO⟩ : ∃ O, O = fpL p l0_1 a0_2_0 a0_2_1 := ⟨_, rfl⟩
      obtain ⟨E, hE⟩ : ∃ E, E = fpE p l0_1 a0_2_0 a0_2_1 := ⟨_, rfl⟩
      obtain ⟨O2, hO2⟩ : ∃ O, O = fgL p l1 a0_2_0 a0_2_1 := ⟨_, rfl⟩
      obtain ⟨E2, hE2⟩ : ∃ E, E = fgE p l1 a0_2_0 a0_2_1 := ⟨_, rfl⟩
      rw [← hO, ← hE] at h1 h2
      rw [← hO2, ← hE2] at h3 h4
      have H1 := Lib.hid h1
      have H2 := Lib.hid h2
      have H3 := Lib.hid h3
      have H4 := Lib.hid h4
      have d1 : ((E : Int) == (E : Int)) = true := by simp
      have d2 : ((E2 : Int) == (E2 : Int)) = true := by simp
      clear h1 h2 h3 h4 hO hE hO2 hE2 hmid
      rcases hmid2 with hs | hs
      · go_enter Try.func3, Try.ntmps3
        go_wp2_with fail
        refine (alive4_any _).mono ?_
        rintro e w1 ⟨rfl, n1⟩
        have hB := HM.out.nb n1
        obtain ⟨c0, c1, c2, c3⟩ := hB.c4
        have m1 : Nb w w1 := (Nb.rfl.al _).tr n1
        go_wp2_with fail
        refine (HG.out _ hL).mono ?_
        rintro e w2 ⟨rfl, n2⟩
        have hB2 := hB.nb n2
        obtain ⟨e0, e1, e2, e3⟩ := hB2.c4
        have m2 := m1.tr n2
        have hlt2 : w.heap.size < w2.heap.size := hB2.lt
        clear c0 c1 c2 c3 hB
        go_wp2_with fail
        have hW2 := Blk.new w2 #[.int .i64 a0_2_0, .bool a0_2_1] 29
        have hB2' := hB2.al (.cells #[.int .i64 a0_2_0, .bool a0_2_1] 29)
        have m2' : Nb w (w2.alloc (.cells #[.int .i64 a0_2_0, .bool a0_2_1] 29)) := m2.al _
        clear e0 e1 e2 e3 hB2
        refine (H1.out _ (H.out.below m2')).mono ?_
        rintro e w3 ⟨⟨aA, cA, rfl, hfA⟩, n3⟩
        have FA := Lib.hid hfA
        have hB3 := hB2'.nb n3
        have hW3 := hW2.nb n3
        have m3 := m2'.tr n3
        obtain ⟨c0, c1, c2, c3⟩ := hB3.c4
        obtain ⟨v0, v1⟩ := hW3.c2
        clear hfA hB2' hW2 m2'
        go_wp2_with fail
        refine (H2.out _ (H.out.below m3)).mono ?_
        rintro e w4 ⟨⟨aB, cB, rfl, hbB⟩, n4⟩
        have FB := Lib.hid hbB
        have hB4 := hB3.nb n4
        have hW4 := hW3.nb n4
        have m4 := m3.tr n4
        clear hbB c0 c1 c2 c3 v0 v1 hB3 hW3
        obtain ⟨c0, c1, c2, c3⟩ := hB4.c4
        obtain ⟨v0, v1⟩ := hW4.c2
        go_wp2_with fail
        refine (H3.out _ (H'.out.below m4)).mono ?_
        rintro e w5 ⟨⟨aC, cC, rfl, hfC⟩, n5⟩
        have FC := Lib.hid hfC
        have hB5 := hB4.nb n5
        have m5 := m4.tr n5
        clear hfC c0 c1 c2 c3 v0 v1 hB4 hW4
        obtain ⟨c0, c1, c2, c3⟩ := hB5.c4
        go_wp2_with fail
        refine (H4.out _ (H'.out.below m5)).mono ?_
        rintro e w6 ⟨⟨aD, cD, rfl, hfD⟩, n6⟩
        have FD := Lib.hid hfD
        have m6 := m5.tr n6
        clear hfD c0 c1 c2 c3 hB5
        have n46 := n4.tr (n5.tr n6)
        go_wp2_with fail
        refine (same_any aA aB cA cB _ _ _ (FA.out.bs.1.below n46) (FB.out.below (n5.tr n6))).mono ?_
        rintro e w7 ⟨rfl, n7⟩
        go_wp2_with fail
        refine (same_any aC aD cC cD _ _ _ (FC.out.bs.1.below (n6.tr n7)) (FD.out.bs.1.below n7)).mono ?_
        rintro e w8 ⟨rfl, n8⟩
        go_wp2
        go_ret
        exact ⟨rfl, (m6.tr n7).tr n8⟩
      · go_enter Try.func3, Try.ntmps3
        go_wp2_with fail
        refine (alive4_any _).mono ?_
        rintro e w1 ⟨rfl, n1⟩
        have hB := HM.out.nb n1
        obtain ⟨c0, c1, c2, c3⟩ := hB.c4
        have m1 : Nb w w1 := (Nb.rfl.al _).tr n1
        go_wp2_with fail
        refine (HG.out _ hL).mono ?_
        rintro e w2 ⟨rfl, n2⟩
        have hB2 := hB.nb n2
        obtain ⟨e0, e1, e2, e3⟩ := hB2.c4
        have m2 := m1.tr n2
        have hlt2 : w.heap.size < w2.heap.size := hB2.lt
        clear c0 c1 c2 c3 hB
        go_wp2_with fail
        have hW2 := Blk.new w2 #[.int .i64 a0_2_0, .bool a0_2_1] 29
        have hB2' := hB2.al (.cells #[.int .i64 a0_2_0, .bool a0_2_1] 29)
        have m2' : Nb w (w2.alloc (.cells #[.int .i64 a0_2_0, .bool a0_2_1] 29)) := m2.al _
        clear e0 e1 e2 e3 hB2
        refine (H1.out _ (H.out.below m2')).mono ?_
        rintro e w3 ⟨⟨aA, cA, rfl, hfA⟩, n3⟩
        have FA := Lib.hid hfA
        have hB3 := hB2'.nb n3
        have hW3 := hW2.nb n3
        have m3 := m2'.tr n3
        obtain ⟨c0, c1, c2, c3⟩ := hB3.c4
        obtain ⟨v0, v1⟩ := hW3.c2
        clear hfA hB2' hW2 m2'
        go_wp2_with fail
        refine (H2.out _ (H.out.below m3)).mono ?_
        rintro e w4 ⟨⟨aB, cB, rfl, hbB⟩, n4⟩
        have FB := Lib.hid hbB
        have hB4 := hB3.nb n4
        have hW4 := hW3.nb n4
        have m4 := m3.tr n4
        clear hbB c0 c1 c2 c3 v0 v1 hB3 hW3
        obtain ⟨c0, c1, c2, c3⟩ := hB4.c4
        obtain ⟨v0, v1⟩ := hW4.c2
        go_wp2_with fail
        refine (H3.out _ (H'.out.below m4)).mono ?_
        rintro e w5 ⟨⟨aC, cC, rfl, hfC⟩, n5⟩
        have FC := Lib.hid hfC
        have hB5 := hB4.nb n5
        have m5 := m4.tr n5
        clear hfC c0 c1 c2 c3 v0 v1 hB4 hW4
        obtain ⟨c0, c1, c2, c3⟩ := hB5.c4
        go_wp2_with fail
        refine (H4.out _ (H'.out.below m5)).mono ?_
        rintro e w6 ⟨⟨aD, cD, rfl, hfD⟩, n6⟩
        have FD := Lib.hid hfD
        have m6 := m5.tr n6
        clear hfD c0 c1 c2 c3 hB5
        have n46 := n4.tr (n5.tr n6)
        go_wp2_with fail
        refine (same_any aA aB cA cB _ _ _ (FA.out.bs.1.below n46) (FB.out.below (n5.tr n6))).mono ?_
        rintro e w7 ⟨rfl, n7⟩
        go_wp2_with fail
        refine (same_any aC aD cC cD _ _ _ (FC.out.bs.1.below (n6.tr n7)) (FD.out.bs.1.below n7)).mono ?_
        rintro e w8 ⟨rfl, n8⟩
        go_wp2
        go_ret
        exact ⟨rfl, (m6.tr n7).tr n8⟩

set_option maxHeartbeats 2000000 in
set_option maxRecDepth 100000 in
theorem lifted (os : Os) (started : os.Started) (H : Type) (enc : TypeId × Value → H) :
    ReturnsInHanded {} Try.checked os 3 .any (Rows.fixedPutsSpec.pre6 enc Try.prog Try.f3 Rows.fixedPutsRow.domain false) (Rows.fixedPutsSpec.post enc Try.prog Try.f3 false true false false) := by
  refine returnsInHanded_of_change (C := Try.checked) own started (by kernel_rfl) Try.func3
    (ChangeSpec.witness6 (enc := enc) (C := Try.checked) false ⟨#[], #[.agg #[.int .u8 0, .slice none 0 0, .int .i64 0, .bool false], .slice none 0 0], []⟩ 8 (by kernel_rfl) (by kernel_rfl) (by kernel_rfl) (by kernel_rfl)) ?_
  intro W base args ds gs before hval0 hW hcnd _
  have hval : ∀ (j : Nat) t v, Try.f3.params[j]? = some t → args[j]? = some v → Value.okWide Try.prog W .any base t v := hval0
  have hW' := hW
  obtain ⟨p, q, hA0, hV, rfl, hfz, hnd⟩ := hW
  have hA : DataW.TrodAll enc Try.prog W 0 (fun _ => true) true Try.f3.params.toList args.toList ds p := hA0
  rw [Try.params3] at hA hval
  obtain ⟨v0, vs0, d0, ds0, p0, q0, hargs, rfl, rfl, h0, r0⟩ := trodAll_cons hA
  obtain ⟨v1, vs1, d1, ds1, p1, q1, rfl, rfl, rfl, h1, r1⟩ := trodAll_cons r0
  obtain ⟨rfl, rfl, rfl⟩ := trodAll_nil r1
  obtain rfl : args = #[v0, v1] := by cases args; simp_all
  obtain ⟨rfl, rfl⟩ := trodVars_none hV
  have k0 := h0
  have lt0 : ∀ x ∈ p0, x.block < W.heap.size := by obtain ⟨m, hm⟩ := k0; exact DataW.trod_lt m _ _ _ hm
  have k1 := h1
  have lt1 : ∀ x ∈ p1, x.block < W.heap.size := by obtain ⟨m, hm⟩ := k1; exact DataW.trod_lt m _ _ _ hm
  clear hA0
  obtain ⟨cs0, rfl, hz0⟩ := okWide_struct Try.underlying26 (hval 0 26 v0 rfl rfl)
  obtain ⟨c0_0, c0_1, c0_2, c0_3, rfl⟩ := arr4 (hz0.trans (by kernel_rfl))
  obtain ⟨fu0, hf0⟩ := h0
  have hc0 : DataW.trod enc Try.prog W 0 (fun _ => true) true fu0 26 [c0_0, c0_1, c0_2, c0_3] = some (d0, p0) := hf0
  obtain ⟨m0_0, y0_0, g0_0⟩ := open_fld Try.underlying26 hc0 0 _ rfl
  have t0_0 : DataW.trod enc Try.prog W 0 (fun _ => true) true m0_0 5 (([c0_0, c0_1, c0_2, c0_3].drop 0).take (Try.prog.cellsOf 5)) = some y0_0 := g0_0
  rw [show Try.prog.cellsOf 5 = 1 from by kernel_rfl] at t0_0
  have u0_0 : DataW.trod enc Try.prog W 0 (fun _ => true) true m0_0 5 [c0_0] = some y0_0 := t0_0
  obtain ⟨m0_1, y0_1, g0_1⟩ := open_fld Try.underlying26 hc0 1 _ rfl
  have t0_1 : DataW.trod enc Try.prog W 0 (fun _ => true) true m0_1 22 (([c0_0, c0_1, c0_2, c0_3].drop 1).take (Try.prog.cellsOf 22)) = some y0_1 := g0_1
  rw [show Try.prog.cellsOf 22 = 1 from by kernel_rfl] at t0_1
  have u0_1 : DataW.trod enc Try.prog W 0 (fun _ => true) true m0_1 22 [c0_1] = some y0_1 := t0_1
  obtain ⟨m0_2, y0_2, g0_2⟩ := open_fld Try.underlying26 hc0 2 _ rfl
  have t0_2 : DataW.trod enc Try.prog W 0 (fun _ => true) true m0_2 24 (([c0_0, c0_1, c0_2, c0_3].drop 2).take (Try.prog.cellsOf 24)) = some y0_2 := g0_2
  rw [show Try.prog.cellsOf 24 = 2 from by kernel_rfl] at t0_2
  have u0_2 : DataW.trod enc Try.prog W 0 (fun _ => true) true m0_2 24 [c0_2, c0_3] = some y0_2 := t0_2
  obtain ⟨m0_2_0, y0_2_0, g0_2_0⟩ := open_fld Try.underlying24 u0_2 0 _ rfl
  have t0_2_0 : DataW.trod enc Try.prog W 0 (fun _ => true) true m0_2_0 3 (([c0_2, c0_3].drop 0).take (Try.prog.cellsOf 3)) = some y0_2_0 := g0_2_0
  rw [show Try.prog.cellsOf 3 = 1 from by kernel_rfl] at t0_2_0
  have u0_2_0 : DataW.trod enc Try.prog W 0 (fun _ => true) true m0_2_0 3 [c0_2] = some y0_2_0 := t0_2_0
  obtain ⟨m0_2_1, y0_2_1, g0_2_1⟩ := open_fld Try.underlying24 u0_2 1 _ rfl
  have t0_2_1 : DataW.trod enc Try.prog W 0 (fun _ => true) true m0_2_1 4 (([c0_2, c0_3].drop 1).take (Try.prog.cellsOf 4)) = some y0_2_1 := g0_2_1
  rw [show Try.prog.cellsOf 4 = 1 from by kernel_rfl] at t0_2_1
  have u0_2_1 : DataW.trod enc Try.prog W 0 (fun _ => true) true m0_2_1 4 [c0_3] = some y0_2_1 := t0_2_1
  obtain ⟨a0_2_0, e0_2_0, x0_2_0, w0_2_0⟩ := DataW.trod_int Try.underlying3 u0_2_0
  obtain rfl : c0_2 = .int .i64 a0_2_0 := by simpa using e0_2_0
  obtain ⟨a0_2_1, e0_2_1, x0_2_1⟩ := DataW.trod_bool Try.underlying4 u0_2_1
  obtain rfl : c0_3 = .bool a0_2_1 := by simpa using e0_2_1
  obtain ⟨a0_0, e0_0, x0_0, w0_0⟩ := DataW.trod_int Try.underlying5 u0_0
  obtain rfl : c0_0 = .int .u8 a0_0 := by simpa using e0_0
  obtain ⟨a0_1, cap0_1, l0_1, e0_1, hb0_1, n0_1⟩ := bytes_open u0_1
  subst e0_1
  obtain ⟨a1, lc1, cap1, rfl⟩ := okWide_slice Try.underlying22 (hval 1 22 v1 rfl rfl)
  obtain ⟨fu1, hf1⟩ := h1
  have hc1 : DataW.trod enc Try.prog W 0 (fun _ => true) true fu1 22 [.slice a1 lc1 cap1] = some (d1, p1) := hf1
  obtain ⟨b1, cb1, l1, e1, hb1, n1⟩ := bytes_open hc1
  simp only [Value.slice.injEq] at e1
  obtain ⟨rfl, rfl, rfl⟩ := e1
  refine (walk W a0_0 w0_0 a0_1 cap0_1 l0_1 hb0_1 n0_1 a0_2_0 w0_2_0 a0_2_1 a1 cap1 l1 hb1 n1).mono fun e W' ⟨he, bel⟩ => ?_
  subst he
  exact ⟨_, rfl, _, _, _, [], _, [], hW', trodAll_mk1 (shut_bool Try.underlying4 _), (trodAll_cons_mk (Below.trod laidOut (by kernel_rfl) (of_decide_eq_true (by kernel_rfl)) k0 bel lt0) (trodAll_cons_mk (Below.trod laidOut (by kernel_rfl) (of_decide_eq_true (by kernel_rfl)) k1 bel lt1) trodAll_mk0)), rfl, bel.frame _, fun h => by cases h⟩

theorem over : Rows.fixedPutsRow.holds Try.pinned (OpenSpec.ofChange Rows.fixedPutsSpec) :=
  OpenClaim.holds_of_wide 3 Try.f3 rfl rfl rfl rfl rfl rfl rfl ⟨rfl, rfl, rfl, rfl, rfl⟩ rfl rfl rfl rfl rfl (by kernel_rfl) Try.func3 (by kernel_rfl)
    (of_decide_eq_true (by kernel_rfl)) (by unfold Func.isWrapper; first | (rw [if_pos (by decide +kernel)]; kernel_rfl) | (rw [if_neg (by decide +kernel)]; exact ⟨rfl, rfl⟩))
    (fun os started H enc _ => lifted os started H enc)
theorem proved : Rows.FixedPutsSaid := over
#print axioms proved
end Go.Proofs.Ytjccmnmjbffikaa.fixedPuts
