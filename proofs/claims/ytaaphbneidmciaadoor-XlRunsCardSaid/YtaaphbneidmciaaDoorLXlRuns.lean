/- For every frame the law XlRuns answers true and leaves its argument as it was; the package's tables of kinds of sums and of longer sizes are tied to the program's text. No conditions. -/
import Derived.Test.YtaaphbneidmciaaDoorRows
import Derived.Test.YtaaphbneidmciaaDoorCards
import Derived.Test.YtaaphbneidmciaaDoorTie
import Derived.Test.YtaaphbneidmciaaDoorXlA
import Derived.Test.YtaaphbneidmciaaDoorClaQ
import Derived.Test.YtaaphbneidmciaaDoorGa
import Derived.WalkKit
import Derived.ProofKit
import Derived.OpenShut
import Derived.ShutString
import Derived.ChangeOld
import Derived.Below
import Derived.Carry
import Derived.Lib.SmallJoins
import Derived.Deep.RegionWith
import Derived.Deep.RegionHeld3
import Derived.LaidMore
import Derived.LaidLaws
import Derived.Stop.Joined
import Derived.SevenTiedAt
namespace Go.Proofs.YtaaphbneidmciaaDoor.xlRuns
open Go.ChangeShapes Go.WideShapes Go.ChangeAt Go.RowKit Go.Joins
set_option linter.unusedVariables false
set_option linter.unusedSimpArgs false
theorem own : ownKnob Tryd.prog.godebug = none := by kernel_rfl
theorem laidOut : laidOutB Tryd.prog = true := by kernel_rfl
theorem arr11 {α : Type} {cs : Array α} (h : cs.size = 11) : ∃ c0 c1 c2 c3 c4 c5 c6 c7 c8 c9 c10, cs = #[c0, c1, c2, c3, c4, c5, c6, c7, c8, c9, c10] := by
  obtain ⟨l⟩ := cs
  match l, h with
  | [c0, c1, c2, c3, c4, c5, c6, c7, c8, c9, c10], _ => exact ⟨c0, c1, c2, c3, c4, c5, c6, c7, c8, c9, c10, rfl⟩
set_option maxHeartbeats 8000000 in
set_option maxRecDepth 100000 in
theorem walk (w : World) (hK : Both w) (a0_0 : Int) (w0_0 : (Lit.int .i64 a0_0).wf = true) (a0_1 : Int) (w0_1 : (Lit.int .u32 a0_1).wf = true) (a0_2 : Bool) (a0_3 : Bool) (a0_4 : Bool) (a0_5 : Bool) (a0_6 : Bool) (a0_7 : Int) (w0_7 : (Lit.int .u8 a0_7).wf = true) (a0_8 : Int) (w0_8 : (Lit.int .u8 a0_8).wf = true) (a0_9 : Int) (w0_9 : (Lit.int .u32 a0_9).wf = true) (a0_10 : Option Addr) (cap0_10 : Nat) (l0_10 : List Nat) (h0_10 : Bs w a0_10 cap0_10 l0_10) (n0_10 : a0_10 = none → cap0_10 = 0) :
    Calls Tryd.prog 5 #[.agg #[.int .i64 a0_0, .int .u32 a0_1, .bool a0_2, .bool a0_3, .bool a0_4, .bool a0_5, .bool a0_6, .int .u8 a0_7, .int .u8 a0_8, .int .u32 a0_9, .slice a0_10 l0_10.length cap0_10]] w fun e w' => e = .returned (.bool true) ∧ Nb w w' := by
  have hL0 := h0_10.len
  have hI : WdX ⟨a0_0, a0_1, a0_2, a0_3, a0_4, a0_5, a0_6, a0_7, a0_8, a0_9⟩ := by
    simp [Lit.wf, IntKind.min, IntKind.max, IntKind.signed, IntKind.bits] at w0_1 w0_7 w0_8 w0_9
    simp only [WdX]
    omega
  have HK := Lib.hid hK
  have HA := Lib.hid h0_10
  have F1 := Lib.hid (fun w' (n : Nb w w') => mine8_any ⟨a0_0, a0_1, a0_2, a0_3, a0_4, a0_5, a0_6, a0_7, a0_8, a0_9⟩ a0_10 cap0_10 l0_10 w' (HA.out.below n) (HK.out.below n).2)
  have F2 := Lib.hid (fun w' (n : Nb w w') => wire8_any ⟨a0_0, a0_1, a0_2, a0_3, a0_4, a0_5, a0_6, a0_7, a0_8, a0_9⟩ a0_10 cap0_10 l0_10 w' (HA.out.below n) hI (HK.out.below n).1 (HK.out.below n).2)
  have QA := Lib.hid (Blk.new w #[.int .i64 a0_0, .int .u32 a0_1, .bool a0_2, .bool a0_3, .bool a0_4, .bool a0_5, .bool a0_6, .int .u8 a0_7, .int .u8 a0_8, .int .u32 a0_9, .slice a0_10 l0_10.length cap0_10] 25)
  clear hK h0_10 w0_0 w0_1 w0_7 w0_8 w0_9 n0_10
  cases hok : okX ⟨a0_0, a0_1, a0_2, a0_3, a0_4, a0_5, a0_6, a0_7, a0_8, a0_9⟩ l0_10 with
  | false =>
    rw [hok] at F1
    clear hok F2
    simp only [Hd.cs] at F1
    go_enter Tryd.func5, Tryd.ntmps5
    go_wp2_with fail
    refine (alive8_any _ (HK.out.below (Nb.rfl.al _))).mono ?_
    rintro e w1 ⟨rfl, n1⟩
    have Q1 := Lib.hid (QA.out.nb n1)
    have M1 := Lib.hid ((Nb.rfl.al _).tr n1 : Nb w w1)
    clear n1
    obtain ⟨c0, c1, c2, c3, c4, c5, c6, c7, c8, c9, c10⟩ := Q1.out.c11
    go_wp2_with fail
    refine (F1.out _ M1.out).mono ?_
    rintro e w2 ⟨rfl, n2⟩
    have M2 := Lib.hid (M1.out.tr n2)
    clear n2
    go_wp2
    go_ret
    exact ⟨rfl, M2.out⟩
  | true =>
    rw [hok] at F1
    have v4 : okXE ⟨a0_0, a0_1, a0_2, a0_3, a0_4, a0_5, a0_6, a0_7, a0_8, a0_9⟩ l0_10 = 0 := by rw [okXE, if_pos hok]
    rw [v4] at F2
    obtain ⟨P, hP, g1, g2, g3, g4, g5, g6, g7, g8, g9, g10, g11, g12⟩ := wx_ends hok
    have hr : ∀ k, k ≤ P → (runS ((wxC ⟨a0_0, a0_1, a0_2, a0_3, a0_4, a0_5, a0_6, a0_7, a0_8, a0_9⟩ l0_10).take k)).2 ≤ 9 := g10
    have hra : ∀ k, k ≤ wArbX ⟨a0_0, a0_1, a0_2, a0_3, a0_4, a0_5, a0_6, a0_7, a0_8, a0_9⟩ l0_10 → (runS ((wxC ⟨a0_0, a0_1, a0_2, a0_3, a0_4, a0_5, a0_6, a0_7, a0_8, a0_9⟩ l0_10).take k)).2 ≤ 5 := g11
    generalize wxC ⟨a0_0, a0_1, a0_2, a0_3, a0_4, a0_5, a0_6, a0_7, a0_8, a0_9⟩ l0_10 = W at *
    generalize wArbX ⟨a0_0, a0_1, a0_2, a0_3, a0_4, a0_5, a0_6, a0_7, a0_8, a0_9⟩ l0_10 = N at *
    generalize wAckX ⟨a0_0, a0_1, a0_2, a0_3, a0_4, a0_5, a0_6, a0_7, a0_8, a0_9⟩ l0_10 = C at *
    clear hok v4 hP
    simp only [Hd.cs] at F1 F2
    have ew : wrap64 ((C : Int) - 1) = (C : Int) - 1 := by unfold wrap64; omega
    have eP : ((P : Nat) : Int) = (C : Int) - 1 := by omega
    have EP := Lib.hid eP
    have G2 := Lib.hid g2
    have G4 := Lib.hid g4
    have GR := Lib.hid hr
    have GA := Lib.hid hra
    clear g1 g2 g3 g4 g5 g6 g7 g8 g9 g10 g11 g12 hr hra eP
    by_cases h300 : 300 < l0_10.length
    · have d0 : decide (300 < (l0_10.length : Int)) = true := decide_eq_true (by omega)
      clear F2 ew h300
      go_enter Tryd.func5, Tryd.ntmps5
      go_wp2_with fail
      refine (alive8_any _ (HK.out.below (Nb.rfl.al _))).mono ?_
      rintro e w1 ⟨rfl, n1⟩
      have Q1 := Lib.hid (QA.out.nb n1)
      have M1 := Lib.hid ((Nb.rfl.al _).tr n1 : Nb w w1)
      clear n1
      obtain ⟨c0, c1, c2, c3, c4, c5, c6, c7, c8, c9, c10⟩ := Q1.out.c11
      go_wp2_with fail
      refine (F1.out _ M1.out).mono ?_
      rintro e w2 ⟨rfl, n2⟩
      have Q2 := Lib.hid (Q1.out.nb n2)
      have M2 := Lib.hid (M1.out.tr n2)
      clear n2 c0 c1 c2 c3 c4 c5 c6 c7 c8 c9 c10
      obtain ⟨c0, c1, c2, c3, c4, c5, c6, c7, c8, c9, c10⟩ := Q2.out.c11
      go_wp2
      go_ret
      exact ⟨rfl, M2.out⟩
    have d0 : decide (300 < (l0_10.length : Int)) = false := decide_eq_false (by omega)
    clear h300
    go_enter Tryd.func5, Tryd.ntmps5
    go_wp2_with fail
    refine (alive8_any _ (HK.out.below (Nb.rfl.al _))).mono ?_
    rintro e w1 ⟨rfl, n1⟩
    have Q1 := Lib.hid (QA.out.nb n1)
    have M1 := Lib.hid ((Nb.rfl.al _).tr n1 : Nb w w1)
    clear n1
    obtain ⟨c0, c1, c2, c3, c4, c5, c6, c7, c8, c9, c10⟩ := Q1.out.c11
    go_wp2_with fail
    refine (F1.out _ M1.out).mono ?_
    rintro e w2 ⟨rfl, n2⟩
    have Q2 := Lib.hid (Q1.out.nb n2)
    have M2 := Lib.hid (M1.out.tr n2)
    clear n2 c0 c1 c2 c3 c4 c5 c6 c7 c8 c9 c10
    obtain ⟨c0, c1, c2, c3, c4, c5, c6, c7, c8, c9, c10⟩ := Q2.out.c11
    go_wp2_with fail
    refine (F2.out _ M2.out).mono ?_
    rintro e w3 ⟨⟨a3, d3, rfl, f3⟩, n3⟩
    have M3 := Lib.hid (M2.out.tr n3)
    have W3 := Lib.hid (fun w' (n : Nb w3 w') => f3.1.asBs.1.below n)
    have hcap := f3.1.asBs.1.hcap
    have hmax := f3.1.asBs.1.hmax
    unfold maxLen at hmax
    clear f3 n3 c0 c1 c2 c3 c4 c5 c6 c7 c8 c9 c10
    obtain ⟨b, o, rfl, _⟩ := (W3.out _ Nb.rfl).hcells (by have := G2.out; omega)
    have hcut := run_cutH (some ⟨b, o, none⟩) W.length d3 P (by have := G2.out; omega)
    rw [EP.out] at hcut
    have X3 := Lib.hid (Blk.new w3 #[.slice (some ⟨b, o, none⟩) W.length d3, .int .i64 N, .int .i64 C] 28)
    have eb : (0 : Int) ≤ (C : Int) - 1 ∧ (C : Int) - 1 ≤ (d3 : Int) := by rw [← EP.out]; have := G2.out; omega
    go_wp2
    go_loopw [5, 32] (fun r i wr => ∃ j : Nat, j ≤ P ∧ i = .int .i64 j ∧ r = .int .i64 ((runS (W.take j)).2 : Nat) ∧ Nb (w3.alloc (.cells #[.slice (some ⟨b, o, none⟩) W.length d3, .int .i64 N, .int .i64 C] 28)) wr) (fun _ i _ => P - (intOf i).toNat)
    case atStart => exact ⟨0, Nat.zero_le _, rfl, rfl, Nb.rfl⟩
    case round =>
      obtain ⟨j, hj, rfl, rfl, hnb⟩ := hrel
      have NB := Lib.hid hnb
      clear hnb
      by_cases hlt : j < P
      · have hWl : W.length = P + 10 := G2.out
        have hjW : (j : Int) < (W.length : Int) := by omega
        obtain ⟨b', o', he, hcl⟩ := (W3.out _ ((Nb.rfl.al _).tr NB.out)).hcells (by omega)
        simp only [Option.some.injEq, Addr.mk.injEq, and_true] at he
        obtain ⟨rfl, rfl⟩ := he
        have y1 := hcl j (by omega)
        obtain ⟨x0, x1, x2⟩ := (X3.out.nb NB.out).c3
        have hstep := run_step (W := W) (j := j) (by omega)
        have h5 := GR.out (j + 1) (by omega)
        have hlp : (j : Int) < (P : Int) := by omega
        obtain ⟨T, hT⟩ : ∃ T, T = (runS (W.take (j + 1))).2 := ⟨_, rfl⟩
        rw [← hT] at hstep h5
        have HT := Lib.hid hT
        clear hT
        by_cases hz : 0 < j
        · obtain ⟨m, rfl⟩ : ∃ m, j = m + 1 := ⟨j - 1, by omega⟩
          have y2 := hcl m (by omega)
          rw [Nat.add_sub_cancel] at hstep
          have hmW : (m : Int) < (W.length : Int) := by omega
          have z1 : decide (0 < (((m + 1 : Nat)) : Int)) = true := decide_eq_true (by omega)
          generalize (runS (W.take (m + 1))).2 = r at *
          generalize W.getD (m + 1) 0 = u at *
          generalize W.getD m 0 = v at *
          by_cases huv : u = v
          · subst huv
            rw [if_pos ⟨hz, rfl⟩] at hstep
            have HS := Lib.hid hstep
            have dq : decide (9 < (r : Int) + 1) = false := by simp; omega
            have dr : r ≤ 9 := by omega
            clear hcl hstep hz
            go_wp2_with fail
            go_quiet (fail)
            rename_i nq
            have NB2 := Lib.hid (NB.out.tr (Nb.drewN wr nq))
            obtain ⟨z0, z1', z2⟩ := (X3.out.nb NB2.out).c3
            generalize wr.drewN nq = wd at *
            clear y1 y2 x0 x1 x2
            by_cases hjN : m + 1 < N
            · have dN : decide (((m + 1 : Nat) : Int) < (N : Int)) = true := by simp; omega
              have dN' : decide ((m : Int) + 1 < (N : Int)) = true := by simp; omega
              have h5a := GA.out (m + 1 + 1) (by omega)
              rw [← HT.out, HS.out] at h5a
              have dq5 : decide (5 < (r : Int) + 1) = false := by simp; omega
              clear hjN h5a
              go_wp2
              go_roundw
              case rel => exact ⟨m + 1 + 1, by omega, by go_num, by rw [← HT.out, HS.out]; go_num, NB2.out⟩
              case measure => simp [intOf]; omega
            · have dN : decide (((m + 1 : Nat) : Int) < (N : Int)) = false := by simp; omega
              have dN' : decide ((m : Int) + 1 < (N : Int)) = false := by simp; omega
              clear hjN
              go_wp2
              go_roundw
              case rel => exact ⟨m + 1 + 1, by omega, by go_num, by rw [← HT.out, HS.out]; go_num, NB2.out⟩
              case measure => simp [intOf]; omega
          · rw [if_neg (by intro h; exact huv h.2)] at hstep
            have HS := Lib.hid hstep
            have du : ((u : Int) == (v : Int)) = false := by rw [beq_eq_false_iff_ne]; omega
            clear hcl hstep hz
            go_wp2_with fail
            go_quiet (fail)
            rename_i nq
            have NB2 := Lib.hid (NB.out.tr (Nb.drewN wr nq))
            obtain ⟨z0, z1', z2⟩ := (X3.out.nb NB2.out).c3
            generalize wr.drewN nq = wd at *
            clear y1 y2 x0 x1 x2
            by_cases hjN : m + 1 < N
            · have dN : decide (((m + 1 : Nat) : Int) < (N : Int)) = true := by simp; omega
              have dN' : decide ((m : Int) + 1 < (N : Int)) = true := by simp; omega
              clear hjN
              go_wp2
              go_roundw
              case rel => exact ⟨m + 1 + 1, by omega, by go_num, by rw [← HT.out, HS.out]; rfl, NB2.out⟩
              case measure => simp [intOf]; omega
            · have dN : decide (((m + 1 : Nat) : Int) < (N : Int)) = false := by simp; omega
              have dN' : decide ((m : Int) + 1 < (N : Int)) = false := by simp; omega
              clear hjN
              go_wp2
              go_roundw
              case rel => exact ⟨m + 1 + 1, by omega, by go_num, by rw [← HT.out, HS.out]; rfl, NB2.out⟩
              case measure => simp [intOf]; omega
        · obtain rfl : j = 0 := by omega
          rw [if_neg (by omega)] at hstep
          have HS := Lib.hid hstep
          generalize W.getD 0 0 = u at *
          generalize (runS (W.take 0)).2 = r at *
          have z1 : decide ((0 : Int) < 0) = false := by decide
          clear hcl hstep hz
          go_wp2_with fail
          go_quiet (fail)
          rename_i nq
          have NB2 := Lib.hid (NB.out.tr (Nb.drewN wr nq))
          obtain ⟨z0, z1', z2⟩ := (X3.out.nb NB2.out).c3
          generalize wr.drewN nq = wd at *
          clear y1 x0 x1 x2
          by_cases hjN : 0 < N
          · have dN : decide ((0 : Int) < (N : Int)) = true := by simp; omega
            go_wp2
            go_roundw
            case rel => exact ⟨0 + 1, by omega, by go_num, by rw [← HT.out, HS.out]; rfl, NB2.out⟩
            case measure => simp [intOf]; omega
          · have dN : decide ((0 : Int) < (N : Int)) = false := by simp; omega
            obtain rfl : N = 0 := by omega
            go_wp2
            go_roundw
            case rel => exact ⟨0 + 1, by omega, by go_num, by rw [← HT.out, HS.out]; rfl, NB2.out⟩
            case measure => simp [intOf]; omega
      · obtain rfl : j = P := by omega
        have M9 := Lib.hid ((M3.out.al _).tr NB.out)
        clear NB
        go_wp2
        go_ret
        exact ⟨rfl, M9.out⟩

theorem door_met (os : Os) (args : Array Value) : laidMetH Tryd.prog Rows.xlRunsRow.laid ((World.doorLaid Tryd.prog 24 os).forCall (fun _ _ => 0) ⟨#[], args, []⟩).memory :=
  laidMetH_of_parts3 (fuel := 8) (laidMet_of_run' 8 (by kernel_rfl) (by kernel_rfl)) (by kernel_rfl) (by kernel_rfl)
set_option maxHeartbeats 2000000 in
set_option maxRecDepth 100000 in
theorem lifted (os : Os) (started : os.Started) (H : Type) (enc : TypeId × Value → H) :
    ReturnsInHanded {} Tryd.checked os 5 .any (fun w args => (Rows.xlRunsSpec.pre enc Tryd.prog Tryd.f5 [] false w args ∧ laidMetH Tryd.prog Rows.xlRunsRow.laid w) ∧ sizedMet enc Tryd.prog Tryd.f5 (OpenSpec.ofChange Rows.xlRunsSpec) false w args)
      (Rows.xlRunsSpec.post enc Tryd.prog Tryd.f5 false true false false) := by
  refine returnsInHanded_of_change_and (C := Tryd.checked) (X := fun w _ => laidMetH Tryd.prog Rows.xlRunsRow.laid w) (fun _ _ _ hh h => h.of_heap hh) own started (by kernel_rfl) Tryd.func5
    (ChangeSpec.witness_shaped (enc := enc) (C := Tryd.checked) (os := os) (X := fun w _ => laidMetH Tryd.prog Rows.xlRunsRow.laid w) false (World.doorLaid Tryd.prog 24 os) #[.agg #[.int .i64 0, .int .u32 0, .bool false, .bool false, .bool false, .bool false, .bool false, .int .u8 0, .int .u8 0, .int .u32 0, .slice none 0 0]] 8 rfl (World.shaped_of_RefB (by kernel_rfl) (by kernel_rfl)) (by kernel_rfl) (by kernel_rfl) (by kernel_rfl) (door_met os _)) ?_
  intro W base args ds gs before hval0 hW _ hR hL _
  have hval : ∀ (j : Nat) t v, Tryd.f5.params[j]? = some t → args[j]? = some v → Value.okWide Tryd.prog W .any base t v := hval0
  have hW' := hW
  obtain ⟨p, q, hA0, hV, rfl, hfz, hnd⟩ := hW
  have hA : DataW.TrodAll enc Tryd.prog W 0 (fun _ => true) true Tryd.f5.params.toList args.toList ds p := hA0
  rw [Tryd.params5] at hA hval
  obtain ⟨v0, vs0, d0, ds0, p0, q0, hargs, rfl, rfl, h0, r0⟩ := trodAll_cons hA
  obtain ⟨rfl, rfl, rfl⟩ := trodAll_nil r0
  obtain rfl : args = #[v0] := by cases args; simp_all
  obtain ⟨rfl, rfl⟩ := trodVars_none hV
  have k0 := h0
  have lt0 : ∀ x ∈ p0, x.block < W.heap.size := by obtain ⟨m, hm⟩ := k0; exact DataW.trod_lt m _ _ _ hm
  clear hA0
  obtain ⟨cs0, rfl, hz0⟩ := okWide_struct Tryd.underlying25 (hval 0 25 v0 rfl rfl)
  obtain ⟨c0_0, c0_1, c0_2, c0_3, c0_4, c0_5, c0_6, c0_7, c0_8, c0_9, c0_10, rfl⟩ := arr11 (hz0.trans (by kernel_rfl))
  obtain ⟨fu0, hf0⟩ := h0
  have hc0 : DataW.trod enc Tryd.prog W 0 (fun _ => true) true fu0 25 [c0_0, c0_1, c0_2, c0_3, c0_4, c0_5, c0_6, c0_7, c0_8, c0_9, c0_10] = some (d0, p0) := hf0
  obtain ⟨m0_0, y0_0, g0_0⟩ := open_fld Tryd.underlying25 hc0 0 _ rfl
  have t0_0 : DataW.trod enc Tryd.prog W 0 (fun _ => true) true m0_0 3 (([c0_0, c0_1, c0_2, c0_3, c0_4, c0_5, c0_6, c0_7, c0_8, c0_9, c0_10].drop 0).take (Tryd.prog.cellsOf 3)) = some y0_0 := g0_0
  rw [show Tryd.prog.cellsOf 3 = 1 from by kernel_rfl] at t0_0
  have u0_0 : DataW.trod enc Tryd.prog W 0 (fun _ => true) true m0_0 3 [c0_0] = some y0_0 := t0_0
  obtain ⟨m0_1, y0_1, g0_1⟩ := open_fld Tryd.underlying25 hc0 1 _ rfl
  have t0_1 : DataW.trod enc Tryd.prog W 0 (fun _ => true) true m0_1 22 (([c0_0, c0_1, c0_2, c0_3, c0_4, c0_5, c0_6, c0_7, c0_8, c0_9, c0_10].drop 1).take (Tryd.prog.cellsOf 22)) = some y0_1 := g0_1
  rw [show Tryd.prog.cellsOf 22 = 1 from by kernel_rfl] at t0_1
  have u0_1 : DataW.trod enc Tryd.prog W 0 (fun _ => true) true m0_1 22 [c0_1] = some y0_1 := t0_1
  obtain ⟨m0_2, y0_2, g0_2⟩ := open_fld Tryd.underlying25 hc0 2 _ rfl
  have t0_2 : DataW.trod enc Tryd.prog W 0 (fun _ => true) true m0_2 4 (([c0_0, c0_1, c0_2, c0_3, c0_4, c0_5, c0_6, c0_7, c0_8, c0_9, c0_10].drop 2).take (Tryd.prog.cellsOf 4)) = some y0_2 := g0_2
  rw [show Tryd.prog.cellsOf 4 = 1 from by kernel_rfl] at t0_2
  have u0_2 : DataW.trod enc Tryd.prog W 0 (fun _ => true) true m0_2 4 [c0_2] = some y0_2 := t0_2
  obtain ⟨m0_3, y0_3, g0_3⟩ := open_fld Tryd.underlying25 hc0 3 _ rfl
  have t0_3 : DataW.trod enc Tryd.prog W 0 (fun _ => true) true m0_3 4 (([c0_0, c0_1, c0_2, c0_3, c0_4, c0_5, c0_6, c0_7, c0_8, c0_9, c0_10].drop 3).take (Tryd.prog.cellsOf 4)) = some y0_3 := g0_3
  rw [show Tryd.prog.cellsOf 4 = 1 from by kernel_rfl] at t0_3
  have u0_3 : DataW.trod enc Tryd.prog W 0 (fun _ => true) true m0_3 4 [c0_3] = some y0_3 := t0_3
  obtain ⟨m0_4, y0_4, g0_4⟩ := open_fld Tryd.underlying25 hc0 4 _ rfl
  have t0_4 : DataW.trod enc Tryd.prog W 0 (fun _ => true) true m0_4 4 (([c0_0, c0_1, c0_2, c0_3, c0_4, c0_5, c0_6, c0_7, c0_8, c0_9, c0_10].drop 4).take (Tryd.prog.cellsOf 4)) = some y0_4 := g0_4
  rw [show Tryd.prog.cellsOf 4 = 1 from by kernel_rfl] at t0_4
  have u0_4 : DataW.trod enc Tryd.prog W 0 (fun _ => true) true m0_4 4 [c0_4] = some y0_4 := t0_4
  obtain ⟨m0_5, y0_5, g0_5⟩ := open_fld Tryd.underlying25 hc0 5 _ rfl
  have t0_5 : DataW.trod enc Tryd.prog W 0 (fun _ => true) true m0_5 4 (([c0_0, c0_1, c0_2, c0_3, c0_4, c0_5, c0_6, c0_7, c0_8, c0_9, c0_10].drop 5).take (Tryd.prog.cellsOf 4)) = some y0_5 := g0_5
  rw [show Tryd.prog.cellsOf 4 = 1 from by kernel_rfl] at t0_5
  have u0_5 : DataW.trod enc Tryd.prog W 0 (fun _ => true) true m0_5 4 [c0_5] = some y0_5 := t0_5
  obtain ⟨m0_6, y0_6, g0_6⟩ := open_fld Tryd.underlying25 hc0 6 _ rfl
  have t0_6 : DataW.trod enc Tryd.prog W 0 (fun _ => true) true m0_6 4 (([c0_0, c0_1, c0_2, c0_3, c0_4, c0_5, c0_6, c0_7, c0_8, c0_9, c0_10].drop 6).take (Tryd.prog.cellsOf 4)) = some y0_6 := g0_6
  rw [show Tryd.prog.cellsOf 4 = 1 from by kernel_rfl] at t0_6
  have u0_6 : DataW.trod enc Tryd.prog W 0 (fun _ => true) true m0_6 4 [c0_6] = some y0_6 := t0_6
  obtain ⟨m0_7, y0_7, g0_7⟩ := open_fld Tryd.underlying25 hc0 7 _ rfl
  have t0_7 : DataW.trod enc Tryd.prog W 0 (fun _ => true) true m0_7 5 (([c0_0, c0_1, c0_2, c0_3, c0_4, c0_5, c0_6, c0_7, c0_8, c0_9, c0_10].drop 7).take (Tryd.prog.cellsOf 5)) = some y0_7 := g0_7
  rw [show Tryd.prog.cellsOf 5 = 1 from by kernel_rfl] at t0_7
  have u0_7 : DataW.trod enc Tryd.prog W 0 (fun _ => true) true m0_7 5 [c0_7] = some y0_7 := t0_7
  obtain ⟨m0_8, y0_8, g0_8⟩ := open_fld Tryd.underlying25 hc0 8 _ rfl
  have t0_8 : DataW.trod enc Tryd.prog W 0 (fun _ => true) true m0_8 5 (([c0_0, c0_1, c0_2, c0_3, c0_4, c0_5, c0_6, c0_7, c0_8, c0_9, c0_10].drop 8).take (Tryd.prog.cellsOf 5)) = some y0_8 := g0_8
  rw [show Tryd.prog.cellsOf 5 = 1 from by kernel_rfl] at t0_8
  have u0_8 : DataW.trod enc Tryd.prog W 0 (fun _ => true) true m0_8 5 [c0_8] = some y0_8 := t0_8
  obtain ⟨m0_9, y0_9, g0_9⟩ := open_fld Tryd.underlying25 hc0 9 _ rfl
  have t0_9 : DataW.trod enc Tryd.prog W 0 (fun _ => true) true m0_9 22 (([c0_0, c0_1, c0_2, c0_3, c0_4, c0_5, c0_6, c0_7, c0_8, c0_9, c0_10].drop 9).take (Tryd.prog.cellsOf 22)) = some y0_9 := g0_9
  rw [show Tryd.prog.cellsOf 22 = 1 from by kernel_rfl] at t0_9
  have u0_9 : DataW.trod enc Tryd.prog W 0 (fun _ => true) true m0_9 22 [c0_9] = some y0_9 := t0_9
  obtain ⟨m0_10, y0_10, g0_10⟩ := open_fld Tryd.underlying25 hc0 10 _ rfl
  have t0_10 : DataW.trod enc Tryd.prog W 0 (fun _ => true) true m0_10 23 (([c0_0, c0_1, c0_2, c0_3, c0_4, c0_5, c0_6, c0_7, c0_8, c0_9, c0_10].drop 10).take (Tryd.prog.cellsOf 23)) = some y0_10 := g0_10
  rw [show Tryd.prog.cellsOf 23 = 1 from by kernel_rfl] at t0_10
  have u0_10 : DataW.trod enc Tryd.prog W 0 (fun _ => true) true m0_10 23 [c0_10] = some y0_10 := t0_10
  obtain ⟨a0_0, e0_0, x0_0, w0_0⟩ := DataW.trod_int Tryd.underlying3 u0_0
  obtain rfl : c0_0 = .int .i64 a0_0 := by simpa using e0_0
  obtain ⟨a0_1, e0_1, x0_1, w0_1⟩ := DataW.trod_int Tryd.underlying22 u0_1
  obtain rfl : c0_1 = .int .u32 a0_1 := by simpa using e0_1
  obtain ⟨a0_2, e0_2, x0_2⟩ := DataW.trod_bool Tryd.underlying4 u0_2
  obtain rfl : c0_2 = .bool a0_2 := by simpa using e0_2
  obtain ⟨a0_3, e0_3, x0_3⟩ := DataW.trod_bool Tryd.underlying4 u0_3
  obtain rfl : c0_3 = .bool a0_3 := by simpa using e0_3
  obtain ⟨a0_4, e0_4, x0_4⟩ := DataW.trod_bool Tryd.underlying4 u0_4
  obtain rfl : c0_4 = .bool a0_4 := by simpa using e0_4
  obtain ⟨a0_5, e0_5, x0_5⟩ := DataW.trod_bool Tryd.underlying4 u0_5
  obtain rfl : c0_5 = .bool a0_5 := by simpa using e0_5
  obtain ⟨a0_6, e0_6, x0_6⟩ := DataW.trod_bool Tryd.underlying4 u0_6
  obtain rfl : c0_6 = .bool a0_6 := by simpa using e0_6
  obtain ⟨a0_7, e0_7, x0_7, w0_7⟩ := DataW.trod_int Tryd.underlying5 u0_7
  obtain rfl : c0_7 = .int .u8 a0_7 := by simpa using e0_7
  obtain ⟨a0_8, e0_8, x0_8, w0_8⟩ := DataW.trod_int Tryd.underlying5 u0_8
  obtain rfl : c0_8 = .int .u8 a0_8 := by simpa using e0_8
  obtain ⟨a0_9, e0_9, x0_9, w0_9⟩ := DataW.trod_int Tryd.underlying22 u0_9
  obtain rfl : c0_9 = .int .u32 a0_9 := by simpa using e0_9
  obtain ⟨a0_10, cap0_10, l0_10, e0_10, hb0_10, n0_10⟩ := bytes_open u0_10
  subst e0_10
  refine (walk W (both_of hL) a0_0 w0_0 a0_1 w0_1 a0_2 a0_3 a0_4 a0_5 a0_6 a0_7 w0_7 a0_8 w0_8 a0_9 w0_9 a0_10 cap0_10 l0_10 hb0_10 n0_10).mono fun e W' ⟨he, bel⟩ => ?_
  subst he
  exact ⟨_, rfl, _, _, _, [], _, [], hW', trodAll_mk1 (shut_bool Tryd.underlying4 _), (trodAll_cons_mk (Below.trod laidOut (by kernel_rfl) (of_decide_eq_true (by kernel_rfl)) k0 bel lt0) trodAll_mk0), rfl, bel.frame _, fun h => by cases h⟩

theorem over : Rows.xlRunsRow.holds Tryd.pinned (OpenSpec.ofChange Rows.xlRunsSpec) :=
  OpenClaim.holds_of_wide 5 Tryd.f5 rfl rfl rfl rfl rfl rfl rfl ⟨rfl, rfl, rfl, rfl, rfl⟩ rfl rfl rfl rfl rfl (by kernel_rfl) Tryd.func5 (by kernel_rfl)
    (of_decide_eq_true (by kernel_rfl)) (by unfold Func.isWrapper; first | (rw [if_pos (by decide +kernel)]; kernel_rfl) | (rw [if_neg (by decide +kernel)]; exact ⟨rfl, rfl⟩))
    (fun os started H enc _ => lifted os started H enc)

theorem plain (f : FuncId) (fn : Func) (hf : Tryd.pinned.checked.prog.funcNamed "omnibus/omnibuslaw08.XlRuns" = some f) (hfn : Tryd.pinned.checked.prog.funcs[f]? = some fn) :
    false = Tryd.pinned.checked.prog.looks [] ∧ ∀ (j : Nat) t, fn.params[j]? = some t → Tryd.pinned.checked.prog.wantsStandIn t = false := by
  obtain rfl : f = 5 := Option.some.inj ((show Tryd.prog.funcNamed "omnibus/omnibuslaw08.XlRuns" = some 5 by kernel_rfl).symm.trans hf) |>.symm
  obtain rfl : fn = Tryd.f5 := (Option.some.inj (Tryd.func5.symm.trans hfn)).symm
  refine ⟨by kernel_rfl, fun j t ht => ?_⟩
  rw [Tryd.params5] at ht
  have hm : t ∈ [25] := by have := Array.mem_of_getElem? ht; simp at this ⊢; omega
  have hall : ([25].all fun u => !Tryd.prog.wantsStandIn u) = true := by kernel_rfl
  exact (show Tryd.prog.wantsStandIn t = false by simpa using List.all_eq_true.1 hall t hm)
theorem proved : Rows.XlRunsCardSaid :=
  Claim7.holds_tied_plain_at .later [] _ _ _ _ over (fun _ h => by cases h) (by kernel_rfl) (fun _ h => by cases h) xlRuns_row_tie rfl ⟨rfl, rfl⟩ (by kernel_rfl) rfl plain (by kernel_rfl)
#print axioms proved
end Go.Proofs.YtaaphbneidmciaaDoor.xlRuns
