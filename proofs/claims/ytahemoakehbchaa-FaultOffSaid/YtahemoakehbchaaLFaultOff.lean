/- For every state and all events the law FaultOff answers true and leaves its arguments as they were. No conditions. -/
import Derived.Test.YtahemoakehbchaaRows
import Derived.Test.YtahemoakehbchaaFaA
import Derived.Test.YtahemoakehbchaaFaE
import Derived.Test.YtahemoakehbchaaFaP
import Derived.Test.YtahemoakehbchaaInI
import Derived.WalkKit
import Derived.ProofKit
import Derived.OpenShut
import Derived.ShutString
import Derived.ChangeOld
import Derived.Below
import Derived.Carry
import Derived.Lib.SmallJoins
import Derived.Deep.RegionWith
import Derived.Deep.RegionHeld3
namespace Go.Proofs.Ytahemoakehbchaa.faultOff
open Go.ChangeShapes Go.WideShapes Go.ChangeAt Go.RowKit Go.Joins
set_option linter.unusedVariables false
set_option linter.unusedSimpArgs false
theorem own : ownKnob Try.prog.godebug = none := by kernel_rfl
theorem laidOut : laidOutB Try.prog = true := by kernel_rfl
theorem arr3 {α : Type} {cs : Array α} (h : cs.size = 3) : ∃ c0 c1 c2, cs = #[c0, c1, c2] := by
  obtain ⟨l⟩ := cs
  match l, h with
  | [c0, c1, c2], _ => exact ⟨c0, c1, c2, rfl⟩
theorem off_step {T R : Int} {j m : Nat} (h1 : 0 ≤ T) (h3 : 0 ≤ R) (h4 : R ≤ 255) (hm : (m : Int) = (255 - T) / 8 + 1) (hT : T ≤ 255) (hj : j < m) :
    okFa ⟨T + 8 * j, R, false⟩ = true ∧ doFa ⟨T + 8 * j, R, false⟩ 3 = ⟨T + 8 * ((j + 1 : Nat) : Int), R, decide (255 < T + 8 * ((j + 1 : Nat) : Int))⟩ := by
  have hb : T + 8 * (j : Int) ≤ 255 := by omega
  refine ⟨(okFa_iff _).2 ⟨by simp only; omega, by simp only; omega, h3, h4, by simp only; exact (decide_eq_false (by omega)).symm⟩, ?_⟩
  rw [fa_sends rfl]
  have e : T + 8 * (j : Int) + 8 = T + 8 * ((j + 1 : Nat) : Int) := by omega
  simp only [e]
set_option maxHeartbeats 4000000 in
set_option maxRecDepth 100000 in
theorem walk (w : World) (a0_0 : Int) (w0_0 : (Lit.int .i64 a0_0).wf = true) (a0_1 : Int) (w0_1 : (Lit.int .i64 a0_1).wf = true) (a0_2 : Bool) (a1 : Option Addr) (cap1 : Nat) (l1 : List Int) (h1 : Is w a1 cap1 l1) (n1 : a1 = none → cap1 = 0) :
    Calls Try.prog 6 #[.agg #[.int .i64 a0_0, .int .i64 a0_1, .bool a0_2], .slice a1 l1.length cap1] w fun e w' => e = .returned (.bool true) ∧ Nb w w' := by
  have hL := h1.len
  have HL := Lib.hid h1
  have AL := Lib.hid (fun w' => alive11_any w')
  obtain ⟨y0, hy0⟩ : ∃ y0, y0 = w.alloc (.cells #[.int .i64 a0_0, .int .i64 a0_1, .bool a0_2] 23) := ⟨_, rfl⟩
  have B0 := Lib.hid (show Blk y0 w.heap.size #[.int .i64 a0_0, .int .i64 a0_1, .bool a0_2] 23 by rw [hy0]; exact Blk.new _ _ _)
  have NY := Lib.hid (show Nb w y0 by rw [hy0]; exact Nb.rfl.al _)
  have HY := Lib.hid hy0
  clear hy0 h1 n1
  by_cases hbig : 2000 < l1.length
  · have d0 : decide ((2000 : Int) < (l1.length : Int)) = true := decide_eq_true (by omega)
    clear hbig
    go_enter Try.func6, Try.ntmps6
    go_wp2_with fail
    rw [← HY.out]
    refine (AL.out _).mono ?_
    rintro e z1 ⟨rfl, q1⟩
    have M1 := Lib.hid (NY.out.tr q1)
    obtain ⟨c0, c1, c2⟩ : z1.cell? ⟨w.heap.size, 0, none⟩ = some (.int .i64 a0_0) ∧ z1.cell? ⟨w.heap.size, 1, none⟩ = some (.int .i64 a0_1) ∧ z1.cell? ⟨w.heap.size, 2, none⟩ = some (.bool a0_2) := ⟨(B0.out.nb q1).cell 0, (B0.out.nb q1).cell 1, (B0.out.nb q1).cell 2⟩
    clear q1
    go_wp2
    go_ret
    exact ⟨rfl, M1.out.al _⟩
  have d0 : decide ((2000 : Int) < (l1.length : Int)) = false := decide_eq_false (by omega)
  have hle : l1.length ≤ 2000 := by omega
  clear hbig
  have hc := fun w' => fchk11_any ⟨a0_0, a0_1, a0_2⟩ w'
  simp only [Fa.cs] at hc
  by_cases hgood : okFa ⟨a0_0, a0_1, a0_2⟩ = true ∧ a0_2 = false
  rotate_left
  · have hbad : (errFa ⟨a0_0, a0_1, a0_2⟩ = 2) ∨ (errFa ⟨a0_0, a0_1, a0_2⟩ = 0 ∧ a0_2 = true) := by
      unfold errFa
      cases hok : okFa ⟨a0_0, a0_1, a0_2⟩
      · exact .inl rfl
      · right
        refine ⟨rfl, ?_⟩
        cases a0_2
        · exact absurd ⟨hok, rfl⟩ hgood
        · rfl
    clear hgood
    generalize errFa ⟨a0_0, a0_1, a0_2⟩ = E at *
    have HC := Lib.hid hc
    clear hc
    go_enter Try.func6, Try.ntmps6
    go_wp2_with fail
    rw [← HY.out]
    refine (AL.out _).mono ?_
    rintro e z1 ⟨rfl, q1⟩
    have M1 := Lib.hid (NY.out.tr q1)
    obtain ⟨c0, c1, c2⟩ : z1.cell? ⟨w.heap.size, 0, none⟩ = some (.int .i64 a0_0) ∧ z1.cell? ⟨w.heap.size, 1, none⟩ = some (.int .i64 a0_1) ∧ z1.cell? ⟨w.heap.size, 2, none⟩ = some (.bool a0_2) := ⟨(B0.out.nb q1).cell 0, (B0.out.nb q1).cell 1, (B0.out.nb q1).cell 2⟩
    clear q1
    go_wp2_with fail
    obtain ⟨z2, hz2⟩ : ∃ z2, z2 = z1.alloc (.cells #[.int .i64 a0_0, .int .i64 a0_1, .bool a0_2] 25) := ⟨_, rfl⟩
    have BX := Lib.hid (show Blk z2 z1.heap.size #[.int .i64 a0_0, .int .i64 a0_1, .bool a0_2] 25 by rw [hz2]; exact Blk.new _ _ _)
    have M2 := Lib.hid (show Nb w z2 by rw [hz2]; exact Nb.al M1.out _)
    rw [← hz2]
    clear hz2 c0 c1 c2
    refine (HC.out _).mono ?_
    rintro e z3 ⟨rfl, q3⟩
    have x2 : z3.cell? ⟨z1.heap.size, 2, none⟩ = some (.bool a0_2) := (BX.out.nb q3).cell 2
    have M3 := Lib.hid (M2.out.tr q3)
    clear q3
    rcases hbad with rfl | ⟨rfl, rfl⟩
    all_goals go_wp2
    all_goals go_ret
    all_goals exact ⟨rfl, M3.out⟩
  obtain ⟨hok, rfl⟩ := hgood
  rw [show errFa ⟨a0_0, a0_1, false⟩ = 0 by simp [errFa, hok]] at hc
  have HC := Lib.hid hc
  have HOK := Lib.hid hok
  clear hc hok
  go_enter Try.func6, Try.ntmps6
  go_wp2_with fail
  rw [← HY.out]
  refine (AL.out _).mono ?_
  rintro e z1 ⟨rfl, q1⟩
  have M1 := Lib.hid (NY.out.tr q1)
  obtain ⟨c0, c1, c2⟩ : z1.cell? ⟨w.heap.size, 0, none⟩ = some (.int .i64 a0_0) ∧ z1.cell? ⟨w.heap.size, 1, none⟩ = some (.int .i64 a0_1) ∧ z1.cell? ⟨w.heap.size, 2, none⟩ = some (.bool false) := ⟨(B0.out.nb q1).cell 0, (B0.out.nb q1).cell 1, (B0.out.nb q1).cell 2⟩
  clear q1
  go_wp2_with fail
  obtain ⟨z2, hz2⟩ : ∃ z2, z2 = z1.alloc (.cells #[.int .i64 a0_0, .int .i64 a0_1, .bool false] 25) := ⟨_, rfl⟩
  have BX := Lib.hid (show Blk z2 z1.heap.size #[.int .i64 a0_0, .int .i64 a0_1, .bool false] 25 by rw [hz2]; exact Blk.new _ _ _)
  have M2 := Lib.hid (show Nb w z2 by rw [hz2]; exact Nb.al M1.out _)
  rw [← hz2]
  clear hz2 c0 c1 c2
  refine (HC.out _).mono ?_
  rintro e z3 ⟨rfl, q3⟩
  have BX3 := Lib.hid (BX.out.nb q3)
  have M3 := Lib.hid (M2.out.tr q3)
  clear q3
  obtain ⟨lx, x0, x1, x2, _, _, _⟩ := blk3 BX3.out
  have BXA := Lib.hid (BX3.out.nb (Nb.rfl.al (.cells #[.int .i64 a0_0, .int .i64 a0_1, .bool false] 25)))
  have BYA := Lib.hid (Blk.new z3 #[.int .i64 a0_0, .int .i64 a0_1, .bool false] 25)
  have MA := Lib.hid (M3.out.al (.cells #[.int .i64 a0_0, .int .i64 a0_1, .bool false] 25))
  go_wp2
  clear x0 x1 x2
  go_loopw [7, 30] (fun nv ix wr => ∃ (k nn : Nat) (s : Fa), k ≤ l1.length ∧ nn ≤ k ∧ nv = .int .i64 nn ∧ ix = .int .i64 k ∧ okFa s = true ∧ s.O = false ∧ s.T ≤ a0_0 ∧ Blk wr z1.heap.size #[.int .i64 a0_0, .int .i64 a0_1, .bool false] 25 ∧ Blk wr z3.heap.size s.cs 25 ∧ Nb w wr) (fun _ ix _ => l1.length - (intOf ix).toNat)
  case atStart => exact ⟨0, 0, ⟨a0_0, a0_1, false⟩, Nat.zero_le _, Nat.zero_le _, rfl, rfl, HOK.out, rfl, Int.le_refl _, BXA.out, BYA.out, MA.out⟩
  case round =>
    obtain ⟨k, nn, s, hk, hnn, rfl, rfl, hs, hsO, hsT, hbx, hby, hnb⟩ := hrel
    have BX4 := Lib.hid hbx
    have BY4 := Lib.hid hby
    have N := Lib.hid hnb
    have HS := Lib.hid hs
    clear hbx hby hnb hs BX3 BXA BYA MA HOK HC
    obtain ⟨T, R, O⟩ := s
    simp only at hsO hsT
    subst hsO
    simp only [Fa.cs] at BY4
    by_cases hlt : k < l1.length
    · obtain ⟨b, o, rfl, hcl⟩ := (HL.out.below N.out).hcells (by omega)
      have c9 := hcl k hlt
      clear hcl
      generalize l1.getD k 0 = x at *
      by_cases hskip : x = 3 ∨ x = 5 ∨ x < 1 ∨ 6 < x
      · have hcase : (x = 3) ∨ (x = 5) ∨ ((x == 3) = false ∧ (x == 5) = false ∧ decide (x < 1) = true) ∨ ((x == 3) = false ∧ (x == 5) = false ∧ decide (x < 1) = false ∧ decide (6 < x) = true) := by
          simp only [beq_eq_false_iff_ne, decide_eq_true_eq, decide_eq_false_iff_not]
          omega
        clear hskip
        rcases hcase with rfl | rfl | ⟨d1, d2, d3⟩ | ⟨d1, d2, d3, d4⟩
        all_goals go_wp2
        all_goals go_roundw
        all_goals first
          | exact ⟨k + 1, nn, ⟨T, R, false⟩, by omega, by omega, rfl, by go_num, HS.out, rfl, hsT, BX4.out, BY4.out, N.out⟩
          | (simp [intOf]; omega)
      · have d1 : (x == 3) = false := by rw [beq_eq_false_iff_ne]; omega
        have d2 : (x == 5) = false := by rw [beq_eq_false_iff_ne]; omega
        have d3 : decide (x < 1) = false := decide_eq_false (by omega)
        have d4 : decide (6 < x) = false := decide_eq_false (by omega)
        have hev : evOk x = true := (evOk_iff x).2 (by omega)
        obtain ⟨g1, g2⟩ := fa_low HS.out rfl hev (by omega) (by omega)
        have hn := fun w' => fnext11_any ⟨T, R, false⟩ x w'
        rw [(nx_good HS.out hev).1, (nx_good HS.out hev).2] at hn
        have g3 := doFa_ok HS.out x
        clear hskip hev
        generalize doFa ⟨T, R, false⟩ x = sn at *
        obtain ⟨T2, R2, O2⟩ := sn
        simp only at g1 g2
        subst g1
        simp only [Fa.cs] at hn
        have HN := Lib.hid hn
        have HS2 := Lib.hid g3
        have hT2 : T2 ≤ a0_0 := by omega
        have d5 : decide (a0_0 < T2) = false := decide_eq_false (by omega)
        clear hn g2 g3 hsT
        have hnw : IntKind.i64.wrap ((nn : Int) + 1) = ((nn + 1 : Nat) : Int) := by rw [IntWalk.i64_in _ (by omega)]; omega
        obtain ⟨l4, c0, c1, c2, f0, f1, f2⟩ := blk3 BY4.out
        go_wp2_with fail
        refine (HN.out _).mono ?_
        rintro e w2 ⟨rfl, n2⟩
        have BX5 := Lib.hid (BX4.out.nb n2)
        have BY5 := Lib.hid (BY4.out.nb n2)
        have N2 := Lib.hid (N.out.tr n2)
        clear c0 c1 c2 f0 f1 f2 n2 c9
        obtain ⟨l5, c0, c1, c2, f0, f1, f2⟩ := blk3 BY5.out
        have x0 : w2.cell? ⟨z1.heap.size, 0, none⟩ = some (.int .i64 a0_0) := BX5.out.cell 0
        have hxl := BX5.out.lt
        go_wp2
        go_roundw
        case rel =>
          refine ⟨k + 1, nn + 1, ⟨T2, R2, false⟩, by omega, by omega, by go_num, by go_num, HS2.out, rfl, hT2, ?_, ?_, ?_⟩
          · exact (((BX5.out.other (p := ⟨z3.heap.size, 0, none⟩) (by simp; omega) _).other (p := ⟨z3.heap.size, 1, none⟩) (by simp; omega) _).other (p := ⟨z3.heap.size, 2, none⟩) (by simp; omega) _).nb (Nb.rfl.al _)
          · exact (p3_blk (.int .i64 T2) (.int .i64 R2) (.bool false) BY5.out).nb (Nb.rfl.al _)
          · exact (p3_nb N2.out (M3.out.size) _ _ _).al _
        case measure => simp [intOf]; omega
    · obtain rfl : k = l1.length := by omega
      obtain ⟨h1, h2, h3, h4, h5⟩ := (okFa_iff _).1 HS.out
      simp only at h1 h2 h3 h4 h5
      have hT : T ≤ 255 := by
        have : ¬ 255 < T := by simpa using h5.symm
        omega
      clear h5 hlt hk
      obtain ⟨m, hm⟩ : ∃ m : Nat, (m : Int) = (255 - T) / 8 + 1 := ⟨((255 - T) / 8 + 1).toNat, by omega⟩
      have hm33 : m ≤ 33 := by omega
      have hm0 : 1 ≤ m := by omega
      have hmT : 255 < T + 8 * (m : Int) := by omega
      obtain ⟨l4, c0, c1, c2, f0, f1, f2⟩ := blk3 BY4.out
      have hdiv : Int.tdiv (255 - T) 8 = (255 - T) / 8 := Int.tdiv_eq_ediv_of_nonneg (by omega)
      have HK := Lib.hid (fun j hj => off_step (j := j) h1 h3 h4 hm hT hj)
      go_wp2
      go_loopw [76] (fun ix wq => ∃ j : Nat, j ≤ m ∧ ix = .int .i64 j ∧ Blk wq z3.heap.size #[.int .i64 (T + 8 * j), .int .i64 R, .bool (decide (255 < T + 8 * (j : Int)))] 25 ∧ Nb w wq) (fun ix _ => m - (intOf ix).toNat)
      case atStart => exact ⟨0, Nat.zero_le _, rfl, by rw [show T + 8 * ((0 : Nat) : Int) = T by omega, decide_eq_false (show ¬ 255 < T by omega)]; exact BY4.out, N.out⟩
      case round =>
        obtain ⟨j, hj, rfl, hby, hnb⟩ := hrel
        clear c0 c1 c2 f0 f1 f2
        by_cases hlt : j < m
        · have hlt' : decide ((j : Int) < (255 - T) / 8 + 1) = true := decide_eq_true (by omega)
          obtain ⟨o1, o2⟩ := HK.out j hlt
          rw [decide_eq_false (show ¬ 255 < T + 8 * (j : Int) by omega)] at hby
          have hn := fun w' => fnext11_any ⟨T + 8 * j, R, false⟩ 3 w'
          rw [(nx_good o1 rfl).1, (nx_good o1 rfl).2, o2] at hn
          obtain ⟨Tn, hTn⟩ : ∃ Tn, T + 8 * ((j + 1 : Nat) : Int) = Tn := ⟨_, rfl⟩
          rw [hTn] at hn
          have HTN := Lib.hid hTn
          simp only [Fa.cs] at hn
          have BY6 := Lib.hid hby
          have N6 := Lib.hid hnb
          have HN := Lib.hid hn
          clear hn o1 o2 hby hnb hTn
          generalize T + 8 * (j : Int) = Tj at *
          obtain ⟨l6, c0, c1, c2, f0, f1, f2⟩ := blk3 BY6.out
          go_wp2_with fail
          refine (HN.out _).mono ?_
          rintro e w7 ⟨rfl, n7⟩
          have BY7 := Lib.hid (BY6.out.nb n7)
          have N7 := Lib.hid (N6.out.tr n7)
          clear c0 c1 c2 f0 f1 f2 n7
          obtain ⟨l7, c0, c1, c2, f0, f1, f2⟩ := blk3 BY7.out
          go_wp2
          go_roundw
          case rel => exact ⟨j + 1, by omega, by go_num, by rw [HTN.out]; exact p3_blk _ _ _ BY7.out, p3_nb N7.out M3.out.size _ _ _⟩
          case measure => simp [intOf]; omega
        · obtain rfl : j = m := by omega
          have hlt' : decide ((j : Int) < (255 - T) / 8 + 1) = false := decide_eq_false (by omega)
          rw [decide_eq_true hmT] at hby
          have c2 : _ = some (Value.bool true) := hby.cell 2
          have N6 := Lib.hid hnb
          clear hby hnb
          go_wp2
          go_ret
          exact ⟨rfl, N6.out⟩

set_option maxHeartbeats 2000000 in
set_option maxRecDepth 100000 in
theorem lifted (os : Os) (started : os.Started) (H : Type) (enc : TypeId × Value → H) :
    ReturnsInHanded {} Try.checked os 6 .any (Rows.faultOffSpec.pre6 enc Try.prog Try.f6 Rows.faultOffRow.domain false) (Rows.faultOffSpec.post enc Try.prog Try.f6 false true false false) := by
  refine returnsInHanded_of_change (C := Try.checked) own started (by kernel_rfl) Try.func6
    (ChangeSpec.witness6 (enc := enc) (C := Try.checked) false ⟨#[], #[.agg #[.int .i64 0, .int .i64 0, .bool false], .slice none 0 0], []⟩ 8 (by kernel_rfl) (by kernel_rfl) (by kernel_rfl) (by kernel_rfl)) ?_
  intro W base args ds gs before hval0 hW hcnd _
  have hval : ∀ (j : Nat) t v, Try.f6.params[j]? = some t → args[j]? = some v → Value.okWide Try.prog W .any base t v := hval0
  have hW' := hW
  obtain ⟨p, q, hA0, hV, rfl, hfz, hnd⟩ := hW
  have hA : DataW.TrodAll enc Try.prog W 0 (fun _ => true) true Try.f6.params.toList args.toList ds p := hA0
  rw [Try.params6] at hA hval
  obtain ⟨v0, vs0, d0, ds0, p0, q0, hargs, rfl, rfl, h0, r0⟩ := trodAll_cons hA
  obtain ⟨v1, vs1, d1, ds1, p1, q1, rfl, rfl, rfl, h1, r1⟩ := trodAll_cons r0
  obtain ⟨rfl, rfl, rfl⟩ := trodAll_nil r1
  obtain rfl : args = #[v0, v1] := by cases args; simp_all
  obtain ⟨rfl, rfl⟩ := trodVars_none hV
  have k0 := h0
  have lt0 : ∀ x ∈ p0, x.block < W.heap.size := by obtain ⟨m, hm⟩ := k0; exact DataW.trod_lt m _ _ _ hm
  have k1 := h1
  have lt1 : ∀ x ∈ p1, x.block < W.heap.size := by obtain ⟨m, hm⟩ := k1; exact DataW.trod_lt m _ _ _ hm
  clear hA0
  obtain ⟨cs0, rfl, hz0⟩ := okWide_struct Try.underlying23 (hval 0 23 v0 rfl rfl)
  obtain ⟨c0_0, c0_1, c0_2, rfl⟩ := arr3 (hz0.trans (by kernel_rfl))
  obtain ⟨fu0, hf0⟩ := h0
  have hc0 : DataW.trod enc Try.prog W 0 (fun _ => true) true fu0 23 [c0_0, c0_1, c0_2] = some (d0, p0) := hf0
  obtain ⟨m0_0, y0_0, g0_0⟩ := open_fld Try.underlying23 hc0 0 _ rfl
  have t0_0 : DataW.trod enc Try.prog W 0 (fun _ => true) true m0_0 3 (([c0_0, c0_1, c0_2].drop 0).take (Try.prog.cellsOf 3)) = some y0_0 := g0_0
  rw [show Try.prog.cellsOf 3 = 1 from by kernel_rfl] at t0_0
  have u0_0 : DataW.trod enc Try.prog W 0 (fun _ => true) true m0_0 3 [c0_0] = some y0_0 := t0_0
  obtain ⟨m0_1, y0_1, g0_1⟩ := open_fld Try.underlying23 hc0 1 _ rfl
  have t0_1 : DataW.trod enc Try.prog W 0 (fun _ => true) true m0_1 3 (([c0_0, c0_1, c0_2].drop 1).take (Try.prog.cellsOf 3)) = some y0_1 := g0_1
  rw [show Try.prog.cellsOf 3 = 1 from by kernel_rfl] at t0_1
  have u0_1 : DataW.trod enc Try.prog W 0 (fun _ => true) true m0_1 3 [c0_1] = some y0_1 := t0_1
  obtain ⟨m0_2, y0_2, g0_2⟩ := open_fld Try.underlying23 hc0 2 _ rfl
  have t0_2 : DataW.trod enc Try.prog W 0 (fun _ => true) true m0_2 4 (([c0_0, c0_1, c0_2].drop 2).take (Try.prog.cellsOf 4)) = some y0_2 := g0_2
  rw [show Try.prog.cellsOf 4 = 1 from by kernel_rfl] at t0_2
  have u0_2 : DataW.trod enc Try.prog W 0 (fun _ => true) true m0_2 4 [c0_2] = some y0_2 := t0_2
  obtain ⟨a0_0, e0_0, x0_0, w0_0⟩ := DataW.trod_int Try.underlying3 u0_0
  obtain rfl : c0_0 = .int .i64 a0_0 := by simpa using e0_0
  obtain ⟨a0_1, e0_1, x0_1, w0_1⟩ := DataW.trod_int Try.underlying3 u0_1
  obtain rfl : c0_1 = .int .i64 a0_1 := by simpa using e0_1
  obtain ⟨a0_2, e0_2, x0_2⟩ := DataW.trod_bool Try.underlying4 u0_2
  obtain rfl : c0_2 = .bool a0_2 := by simpa using e0_2
  obtain ⟨a1, lc1, cap1, rfl⟩ := okWide_slice Try.underlying37 (hval 1 37 v1 rfl rfl)
  obtain ⟨fu1, hf1⟩ := h1
  have hc1 : DataW.trod enc Try.prog W 0 (fun _ => true) true fu1 37 [.slice a1 lc1 cap1] = some (d1, p1) := hf1
  obtain ⟨b1, cb1, l1, e1, hb1, n1⟩ := ints_open hc1
  simp only [Value.slice.injEq] at e1
  obtain ⟨rfl, rfl, rfl⟩ := e1
  refine (walk W a0_0 w0_0 a0_1 w0_1 a0_2 a1 cap1 l1 hb1 n1).mono fun e W' ⟨he, bel⟩ => ?_
  subst he
  exact ⟨_, rfl, _, _, _, [], _, [], hW', trodAll_mk1 (shut_bool Try.underlying4 _), (trodAll_cons_mk (Below.trod laidOut (by kernel_rfl) (of_decide_eq_true (by kernel_rfl)) k0 bel lt0) (trodAll_cons_mk (Below.trod laidOut (by kernel_rfl) (of_decide_eq_true (by kernel_rfl)) k1 bel lt1) trodAll_mk0)), rfl, bel.frame _, fun h => by cases h⟩

theorem over : Rows.faultOffRow.holds Try.pinned (OpenSpec.ofChange Rows.faultOffSpec) :=
  OpenClaim.holds_of_wide 6 Try.f6 rfl rfl rfl rfl rfl rfl rfl ⟨rfl, rfl, rfl, rfl, rfl⟩ rfl rfl rfl rfl rfl (by kernel_rfl) Try.func6 (by kernel_rfl)
    (of_decide_eq_true (by kernel_rfl)) (by unfold Func.isWrapper; first | (rw [if_pos (by decide +kernel)]; kernel_rfl) | (rw [if_neg (by decide +kernel)]; exact ⟨rfl, rfl⟩))
    (fun os started H enc _ => lifted os started H enc)
theorem proved : Rows.FaultOffSaid := over
#print axioms proved
end Go.Proofs.Ytahemoakehbchaa.faultOff
