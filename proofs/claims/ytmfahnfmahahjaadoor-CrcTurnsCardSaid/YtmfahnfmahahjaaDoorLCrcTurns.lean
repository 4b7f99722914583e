/- For every row, place and pair of flags the law CrcTurns answers true and leaves its argument as it was; the package's table of kinds is tied to the program's text. No conditions. -/
import Derived.Test.YtmfahnfmahahjaaDoorRows
import Derived.Test.YtmfahnfmahahjaaDoorCards
import Derived.Test.YtmfahnfmahahjaaDoorTie
import Derived.Test.YtmfahnfmahahjaaDoorCrcA
import Derived.Test.YtmfahnfmahahjaaDoorCrcB
import Derived.WalkKit
import Derived.ProofKit
import Derived.OpenShut
import Derived.ShutString
import Derived.ChangeOld
import Derived.Below
import Derived.Carry
import Derived.Lib.SmallJoins
import Derived.LaidMore
import Derived.LaidLaws
import Derived.Stop.Joined
import Derived.SevenTiedAt
namespace Go.Proofs.YtmfahnfmahahjaaDoor.crcTurns
open Go.ChangeShapes Go.WideShapes Go.ChangeAt Go.RowKit Go.Joins
set_option linter.unusedVariables false
theorem own : ownKnob Tryd.prog.godebug = none := by kernel_rfl
theorem laidOut : laidOutB Tryd.prog = true := by kernel_rfl
set_option maxHeartbeats 4000000 in
set_option maxRecDepth 100000 in
theorem walk (w : World) (hK : Kinds w) (a0_0 : Int) (w0_0 : (Lit.int .i64 a0_0).wf = true) (a0_1 : Option Addr) (cap0_1 : Nat) (l0_1 : List Nat) (h0_1 : Bs w a0_1 cap0_1 l0_1) (n0_1 : a0_1 = none → cap0_1 = 0) (r0_1 : cap0_1 ≤ 140737488351232) (a0_2 : Int) (w0_2 : (Lit.int .u16 a0_2).wf = true) (a0_3 : Bool) :
    Calls Tryd.prog 6 #[.agg #[.int .i64 a0_0, .slice a0_1 l0_1.length cap0_1, .int .u16 a0_2, .bool a0_3]] w fun e w' => e = .returned (.bool true) ∧ Nb w w' := by
  have H := Lib.hid h0_1
  have HK := Lib.hid hK
  have hL := h0_1.len
  clear h0_1 hK w0_0
  cases hg : goodB l0_1.length with
  | false =>
    have hg1 := good_any a0_1 cap0_1 l0_1.length
    rw [hg] at hg1
    have HG := Lib.hid hg1
    clear hg hg1
    go_enter Tryd.func6, Tryd.ntmps6
    go_wp2_with fail
    refine (alive2_any _ (HK.out.below (Nb.rfl.al _))).mono ?_
    rintro e w1 ⟨rfl, nb0⟩
    have hq := (Blk.new w #[.int .i64 a0_0, .slice a0_1 l0_1.length cap0_1, .int .u16 a0_2, .bool a0_3] 43).nb nb0
    have q0 : w1.cell? ⟨w.heap.size, 0, none⟩ = _ := hq.cell 0
    have q1 : w1.cell? ⟨w.heap.size, 1, none⟩ = _ := hq.cell 1
    have q2 : w1.cell? ⟨w.heap.size, 2, none⟩ = _ := hq.cell 2
    have q3 : w1.cell? ⟨w.heap.size, 3, none⟩ = _ := hq.cell 3
    have n1 : Nb w w1 := (Nb.rfl.al _).tr nb0
    clear hq nb0
    go_wp2_with fail
    go_quiet (fail)
    have nbd : Nb w (w1.drewN nq) := n1.tr (Nb.drewN _ _)
    clear q0 q1 q2 q3 n1
    obtain ⟨wd, hwd⟩ : ∃ wd, wd = w1.drewN nq := ⟨_, rfl⟩
    rw [← hwd] at nbd ⊢
    clear hwd
    have n1 : Nb w wd := nbd
    go_wp2_with fail
    refine (HG.out _ hL).mono ?_
    rintro e w2 ⟨rfl, rfl⟩
    go_wp2
    go_ret
    exact ⟨rfl, n1⟩
  | true =>
    have hgood : l0_1.length ≤ 3000 ∨ 65536 < l0_1.length := by simpa [goodB] using hg
    have hg1 := good_any a0_1 cap0_1 l0_1.length
    rw [hg] at hg1
    have HG := Lib.hid hg1
    clear hg hg1
    cases hm : moreOk a0_0 (startK a0_0) l0_1 with
    | false =>
      have ha : addL a0_0 l0_1 = [] := by simp [addL, hm]
      have h1 := add_u a0_0 a0_1 cap0_1 l0_1
      rw [(sumN_bad hm).2, ha] at h1
      have H1 := Lib.hid h1
      clear hm ha h1 hgood
      go_enter Tryd.func6, Tryd.ntmps6
      go_wp2_with fail
      refine (alive2_any _ (HK.out.below (Nb.rfl.al _))).mono ?_
      rintro e w1 ⟨rfl, nb0⟩
      have hq := (Blk.new w #[.int .i64 a0_0, .slice a0_1 l0_1.length cap0_1, .int .u16 a0_2, .bool a0_3] 43).nb nb0
      have q0 : w1.cell? ⟨w.heap.size, 0, none⟩ = _ := hq.cell 0
      have q1 : w1.cell? ⟨w.heap.size, 1, none⟩ = _ := hq.cell 1
      have q2 : w1.cell? ⟨w.heap.size, 2, none⟩ = _ := hq.cell 2
      have q3 : w1.cell? ⟨w.heap.size, 3, none⟩ = _ := hq.cell 3
      have nb1 : Nb w w1 := (Nb.rfl.al _).tr nb0
      clear hq nb0
      go_wp2_with fail
      go_quiet (fail)
      have nbd : Nb w (w1.drewN nq) := nb1.tr (Nb.drewN _ _)
      clear q0 q1 q2 q3 nb1
      obtain ⟨wd, hwd⟩ : ∃ wd, wd = w1.drewN nq := ⟨_, rfl⟩
      rw [← hwd] at nbd ⊢
      clear hwd
      have nb1 : Nb w wd := nbd
      go_wp2_with fail
      refine (HG.out _ hL).mono ?_
      rintro e w2 ⟨rfl, rfl⟩
      go_wp2_with fail
      refine (H1.out _ (HK.out.below nb1) (H.out.below nb1) n0_1).mono ?_
      rintro e w2 ⟨⟨aA, cA, rfl, hfA⟩, nb2⟩
      clear hfA
      go_wp2
      go_ret
      exact ⟨rfl, nb1.tr nb2⟩
    | true =>
      have hc := (moreOk_parts hm).2.2
      have hl3 : l0_1.length ≤ 3000 := by have := chk_len hc; omega
      have hz := (moreOk_parts hm).1
      obtain ⟨z1, z2, _, _, _⟩ := kindOk a0_0 hz
      obtain ⟨f1, f2, f3, f4⟩ := fits_add a0_0 l0_1 hm (by omega)
      have h1 := add_u a0_0 a0_1 cap0_1 l0_1
      rw [(sumN_ok hm).2] at h1
      obtain ⟨X, hX⟩ : ∃ X, X = addL a0_0 l0_1 := ⟨_, rfl⟩
      rw [← hX] at f1 f2 f3 f4 h1
      obtain ⟨t, rfl, ht⟩ := u16_of_wf w0_2
      obtain ⟨k, hk⟩ : ∃ k, k = t % X.length := ⟨_, rfl⟩
      have hkl : k < X.length := by rw [hk]; exact Nat.mod_lt _ (by omega)
      have hk1 : (t : Int).tmod (X.length : Int) = (k : Int) := by rw [hk]; push_cast; exact Int.tmod_eq_emod_of_nonneg (by omega)
      have hk2 : (t : Int) % (X.length : Int) = (k : Int) := by rw [hk]; push_cast; rfl
      have H1 := Lib.hid h1
      have F1 := Lib.hid f1
      have F2 := Lib.hid f2
      have F4 := Lib.hid f4
      have hX0 : ((X.length : Int) == 0) = false := by rw [beq_eq_false_iff_ne]; omega
      have hXl : l0_1.length ≤ X.length := by omega
      have hXs : X.length ≤ 4000 := by omega
      have hXp : 0 < X.length := by omega
      have F3 := Lib.hid f3
      clear hm h1 hgood hc hX hk f1 f2 f3 f4 w0_2
      go_enter Tryd.func6, Tryd.ntmps6
      go_wp2_with fail
      refine (alive2_any _ (HK.out.below (Nb.rfl.al _))).mono ?_
      rintro e w1 ⟨rfl, nb0⟩
      have hq := (Blk.new w #[.int .i64 a0_0, .slice a0_1 l0_1.length cap0_1, .int .u16 t, .bool a0_3] 43).nb nb0
      have q0 : w1.cell? ⟨w.heap.size, 0, none⟩ = _ := hq.cell 0
      have q1 : w1.cell? ⟨w.heap.size, 1, none⟩ = _ := hq.cell 1
      have q2 : w1.cell? ⟨w.heap.size, 2, none⟩ = _ := hq.cell 2
      have q3 : w1.cell? ⟨w.heap.size, 3, none⟩ = _ := hq.cell 3
      have nb1 : Nb w w1 := (Nb.rfl.al _).tr nb0
      clear hq nb0
      go_wp2_with fail
      go_quiet (fail)
      have nbd : Nb w (w1.drewN nq) := nb1.tr (Nb.drewN _ _)
      clear q0 q1 q2 q3 nb1
      obtain ⟨wd, hwd⟩ : ∃ wd, wd = w1.drewN nq := ⟨_, rfl⟩
      rw [← hwd] at nbd ⊢
      clear hwd
      have nb1 : Nb w wd := nbd
      go_wp2_with fail
      refine (HG.out _ hL).mono ?_
      rintro e w2 ⟨rfl, rfl⟩
      go_wp2_with fail
      refine (H1.out _ (HK.out.below nb1) (H.out.below nb1) n0_1).mono ?_
      rintro e w2 ⟨⟨aA, cA, rfl, hfA⟩, nb2⟩
      obtain ⟨g, cap, hv⟩ := hfA.1.shape (by omega)
      simp only [Value.slice.injEq, true_and] at hv
      obtain ⟨rfl, rfl⟩ := hv
      have nb12 := nb1.tr nb2
      have FA := Lib.hid hfA
      have BA := Lib.hid hfA.bs.1
      have hcapA := hfA.bs.1.hcap
      have hcapM := hfA.bs.1.hmax
      unfold maxLen at hcapM
      clear hfA
      go_wp2_with fail
      refine (fits_u a0_0 _ cA X _ (HK.out.below nb12) BA.out (by simp)).mono ?_
      rintro e w3 ⟨rfl, nb3⟩
      rw [F1.out]
      have hlX : (l0_1.length : Int) ≤ (X.length : Int) := by omega
      have hlT : (X.take l0_1.length).length = l0_1.length := by rw [List.length_take]; omega
      go_wp2_with fail
      have hsame := same_any (some ⟨g, 0, none⟩) a0_1 cA cap0_1 (X.take l0_1.length) l0_1 w3 ((BA.out.below nb3).head _) (H.out.below (nb12.tr nb3))
      rw [hlT, F2.out] at hsame
      refine hsame.mono ?_
      rintro e w4 ⟨rfl, nb4⟩
      have d1 : decide (l0_1 = l0_1) = true := by simp
      have nb34 := nb3.tr nb4
      have FX := Lib.hid (FA.out.keep nb34)
      obtain ⟨b, hb⟩ : ∃ b, b = X.getD k 0 := ⟨_, rfl⟩
      have hxk : b ≤ 1 := by
        have : X.getD k 0 ∈ X := by simp [List.getD, hkl]
        rw [hb]
        exact F4.out _ this
      have c0 : w4.cell? ⟨g, k, none⟩ = some (.int .u8 (b : Int)) := by rw [hb]; exact FX.out.1.cell k hkl
      have f0 := FX.out.1.frozen (g := g) rfl k
      have hset := FX.out.1.setByte (g := g) rfl k hkl (b ^^^ 1) (by have := xor1_le _ hxk; omega)
      have hy1 : (X.set k (b ^^^ 1)).length = X.length := List.length_set
      have hyb := set_bits F4.out k _ (xor1_le _ hxk)
      have hyk : (X.set k (b ^^^ 1)).getD k 0 = b ^^^ 1 := by rw [set_getD _ _ _ _ hkl, if_pos rfl]
      have hyo : ∀ i, i ≠ k → (X.set k (b ^^^ 1)).getD i 0 = X.getD i 0 := fun i hi => by rw [set_getD _ _ _ _ hkl, if_neg hi]
      have hne : X.set k (b ^^^ 1) ≠ X := fun he => by
        rw [he] at hyk
        rw [← hb] at hyk
        exact xor1_ne b hxk hyk.symm
      have hx1 := xor1 _ hxk
      have hw4 : Nb w w4 := nb12.tr nb34
      have hgw : w.heap.size ≤ g := Nat.le_trans nbd.size (FA.out.2 g rfl)
      have hbel : Nb w (w4.setCell ⟨g, k, none⟩ (.int .u8 ((b ^^^ 1 : Nat) : Int))) := hw4.st (by exact hgw) _
      have BEL := Lib.hid hbel
      have HS := Lib.hid hset
      have HX := Lib.hid hx1
      have HY1 := Lib.hid hy1
      have HYB := Lib.hid hyb
      have HYK := Lib.hid hyk
      have HYO := Lib.hid hyo
      have HNE := Lib.hid hne
      have HXK := Lib.hid hxk
      have HBX := Lib.hid hb
      generalize X.set k (b ^^^ 1) = Y at *
      clear hset hsame hlT hy1 hyb hyk hyo hne hx1 hbel hb
      cases a0_3 with
      | false =>
        go_wp2_with fail
        rw [HX.out]
        have hfit := fits_u a0_0 (some ⟨g, 0, none⟩) cA Y _ (HK.out.below BEL.out) HS.out.asBs.1 (by simp)
        have hfalse : fitsB a0_0 Y = false := by
          rw [fits_burst a0_0 X Y F1.out HY1.out HYB.out k (fun i hi => HYO.out i (by omega)), decide_eq_false_iff_not]
          exact HNE.out
        rw [HY1.out, hfalse] at hfit
        refine hfit.mono ?_
        rintro e wz ⟨rfl, nz⟩
        go_wp2
        go_ret
        exact ⟨rfl, BEL.out.tr nz⟩
      | true =>
        by_cases hk1l : k + 1 < X.length
        · obtain ⟨b1, hb1⟩ : ∃ b1, b1 = X.getD (k + 1) 0 := ⟨_, rfl⟩
          have hx1k : b1 ≤ 1 := by
            have : X.getD (k + 1) 0 ∈ X := by simp [List.getD, hk1l]
            rw [hb1]
            exact F4.out _ this
          have c1 : w4.cell? ⟨g, k + 1, none⟩ = some (.int .u8 (b1 : Int)) := by rw [hb1]; exact FX.out.1.cell (k + 1) hk1l
          have f1 := FX.out.1.frozen (g := g) rfl (k + 1)
          have hset2 := HS.out.setByte (g := g) rfl (k + 1) (by rw [HY1.out]; exact hk1l) (b1 ^^^ 1) (by have := xor1_le _ hx1k; omega)
          have hbel2 : Nb w ((w4.setCell ⟨g, k, none⟩ (.int .u8 ((b ^^^ 1 : Nat) : Int))).setCell ⟨g, k + 1, none⟩ (.int .u8 ((b1 ^^^ 1 : Nat) : Int))) := BEL.out.st (by exact hgw) _
          have HX1 := Lib.hid (xor1 _ hx1k)
          have hl2 : (Y.set (k + 1) (b1 ^^^ 1)).length = X.length := by rw [List.length_set]; exact HY1.out
          have hfalse : fitsB a0_0 (Y.set (k + 1) (b1 ^^^ 1)) = false := by
            rw [fits_burst a0_0 X _ F1.out hl2 (set_bits HYB.out _ _ (xor1_le _ hx1k)) k (fun i hi => by rw [set_getD _ _ _ _ (by rw [HY1.out]; exact hk1l), if_neg (by omega)]; exact HYO.out i (by omega)), decide_eq_false_iff_not]
            intro he
            have h2 : (Y.set (k + 1) (b1 ^^^ 1)).getD k 0 = b ^^^ 1 := by rw [set_getD _ _ _ _ (by rw [HY1.out]; exact hk1l), if_neg (by omega)]; exact HYK.out
            rw [he, ← HBX.out] at h2
            exact xor1_ne b hxk h2.symm
          have HF2 := Lib.hid hfalse
          have HS2 := Lib.hid hset2
          have HB2 := Lib.hid hbel2
          have HL2 := Lib.hid hl2
          clear hset2 hbel2 hfalse hl2 hb1
          go_wp2_with fail
          rw [HX.out, HX1.out]
          have hfit := fits_u a0_0 (some ⟨g, 0, none⟩) cA _ _ (HK.out.below HB2.out) HS2.out.asBs.1 (by simp)
          rw [HL2.out, HF2.out] at hfit
          refine hfit.mono ?_
          rintro e wz ⟨rfl, nz⟩
          go_wp2
          go_ret
          exact ⟨rfl, HB2.out.tr nz⟩
        · go_wp2_with fail
          rw [HX.out]
          have hfit := fits_u a0_0 (some ⟨g, 0, none⟩) cA Y _ (HK.out.below BEL.out) HS.out.asBs.1 (by simp)
          have hfalse : fitsB a0_0 Y = false := by
            rw [fits_burst a0_0 X Y F1.out HY1.out HYB.out k (fun i hi => HYO.out i (by omega)), decide_eq_false_iff_not]
            exact HNE.out
          rw [HY1.out, hfalse] at hfit
          refine hfit.mono ?_
          rintro e wz ⟨rfl, nz⟩
          go_wp2
          go_ret
          exact ⟨rfl, BEL.out.tr nz⟩

theorem door_met (os : Os) (args : Array Value) : laidMetH Tryd.prog Rows.crcTurnsRow.laid ((World.doorLaid Tryd.prog 19 os).forCall (fun _ _ => 0) ⟨#[], args, []⟩).memory :=
  laidMetH_of_parts3 (fuel := 8) (laidMet_of_run' 8 (by kernel_rfl) (by kernel_rfl)) (by kernel_rfl) (by kernel_rfl)
set_option maxHeartbeats 2000000 in
set_option maxRecDepth 100000 in
theorem lifted (os : Os) (started : os.Started) (H : Type) (enc : TypeId × Value → H) :
    ReturnsInHanded {} Tryd.checked os 6 .any (fun w args => (Rows.crcTurnsSpec.pre enc Tryd.prog Tryd.f6 [] false w args ∧ laidMetH Tryd.prog Rows.crcTurnsRow.laid w) ∧ sizedMet enc Tryd.prog Tryd.f6 (OpenSpec.ofChange Rows.crcTurnsSpec) false w args)
      (Rows.crcTurnsSpec.post enc Tryd.prog Tryd.f6 false true false false) := by
  refine returnsInHanded_of_change_and (C := Tryd.checked) (X := fun w _ => laidMetH Tryd.prog Rows.crcTurnsRow.laid w) (fun _ _ _ hh h => h.of_heap hh) own started (by kernel_rfl) Tryd.func6
    (ChangeSpec.witness_shaped (enc := enc) (C := Tryd.checked) (os := os) (X := fun w _ => laidMetH Tryd.prog Rows.crcTurnsRow.laid w) false (World.doorLaid Tryd.prog 19 os) #[.agg #[.int .i64 0, .slice none 0 0, .int .u16 0, .bool false]] 8 rfl (World.shaped_of_RefB (by kernel_rfl) (by kernel_rfl)) (by kernel_rfl) (by kernel_rfl) (by kernel_rfl) (door_met os _)) ?_
  intro W base args ds gs before hval0 hW _ hR hL _
  have hval : ∀ (j : Nat) t v, Tryd.f6.params[j]? = some t → args[j]? = some v → Value.okWide Tryd.prog W .any base t v := hval0
  have hW' := hW
  obtain ⟨p, q, hA0, hV, rfl, hfz, hnd⟩ := hW
  have hA : DataW.TrodAll enc Tryd.prog W 0 (fun _ => true) true Tryd.f6.params.toList args.toList ds p := hA0
  rw [Tryd.params6] at hA hval
  obtain ⟨v0, vs0, d0, ds0, p0, q0, hargs, rfl, rfl, h0, r0⟩ := trodAll_cons hA
  obtain ⟨rfl, rfl, rfl⟩ := trodAll_nil r0
  obtain rfl : args = #[v0] := by cases args; simp_all
  obtain ⟨rfl, rfl⟩ := trodVars_none hV
  have k0 := h0
  have lt0 : ∀ x ∈ p0, x.block < W.heap.size := by obtain ⟨m, hm⟩ := k0; exact DataW.trod_lt m _ _ _ hm
  clear hA0
  rw [Tryd.params6] at hR
  have hR0 : (DataW.weightsEach Tryd.prog ([43] ++ Rows.crcTurnsSpec.plain.varTypes Tryd.prog) ([d0] ++ [])).all (· ≤ reachBytes) = true := hR
  simp only [List.cons_append, List.nil_append, DataW.weightsEach, List.append_nil, List.all_append, Bool.and_eq_true] at hR0
  obtain ⟨hR0, _⟩ := hR0
  obtain ⟨v0_0, v0_1, v0_2, v0_3, y0_0, y0_1, y0_2, y0_3, m0, ev0, ed0, ep0, t0_0, t0_1, t0_2, t0_3⟩ := open_agg4 Tryd.underlying43 (by kernel_rfl) (by kernel_rfl) (hval 0 43 v0 rfl rfl) h0
  subst ev0
  subst ed0
  have hRs0 := hR0
  simp only [DataW.weights, Tryd.underlying43] at hRs0
  have hRt0 : (DataW.weightsEach Tryd.prog [3, 23, 38, 4] [y0_0.1, y0_1.1, y0_2.1, y0_3.1]).all (· ≤ reachBytes) = true := hRs0
  simp only [DataW.weightsEach, List.append_nil, List.all_append, Bool.and_eq_true] at hRt0
  obtain ⟨hR0_0, hR0_1, hR0_2, hR0_3⟩ := hRt0
  obtain ⟨a0_0, e0_0, x0_0, w0_0⟩ := DataW.trod_int Tryd.underlying3 t0_0
  obtain rfl : v0_0 = .int .i64 a0_0 := by simpa using e0_0
  obtain ⟨a0_1, cap0_1, l0_1, e0_1, hb0_1, n0_1, rr0_1⟩ := bytes_of_trod t0_1 hR0_1
  subst e0_1
  obtain ⟨a0_2, e0_2, x0_2, w0_2⟩ := DataW.trod_int Tryd.underlying38 t0_2
  obtain rfl : v0_2 = .int .u16 a0_2 := by simpa using e0_2
  obtain ⟨a0_3, e0_3, x0_3⟩ := DataW.trod_bool Tryd.underlying4 t0_3
  obtain rfl : v0_3 = .bool a0_3 := by simpa using e0_3
  refine (walk W (kinds_of hL) a0_0 w0_0 a0_1 cap0_1 l0_1 hb0_1 n0_1 rr0_1 a0_2 w0_2 a0_3).mono fun e W' ⟨he, bel⟩ => ?_
  subst he
  exact ⟨_, rfl, _, _, _, [], _, [], hW', trodAll_mk1 (shut_bool Tryd.underlying4 _), (trodAll_cons_mk (Below.trod laidOut (by kernel_rfl) (of_decide_eq_true (by kernel_rfl)) k0 bel lt0) trodAll_mk0), rfl, bel.frame _, fun h => by cases h⟩

theorem over : Rows.crcTurnsRow.holds Tryd.pinned (OpenSpec.ofChange Rows.crcTurnsSpec) :=
  OpenClaim.holds_of_wide 6 Tryd.f6 rfl rfl rfl rfl rfl rfl rfl ⟨rfl, rfl, rfl, rfl, rfl⟩ rfl rfl rfl rfl rfl (by kernel_rfl) Tryd.func6 (by kernel_rfl)
    (of_decide_eq_true (by kernel_rfl)) (by unfold Func.isWrapper; first | (rw [if_pos (by decide +kernel)]; kernel_rfl) | (rw [if_neg (by decide +kernel)]; exact ⟨rfl, rfl⟩))
    (fun os started H enc _ => lifted os started H enc)

theorem plain (f : FuncId) (fn : Func) (hf : Tryd.pinned.checked.prog.funcNamed "omnibus/omnibuslaw02.CrcTurns" = some f) (hfn : Tryd.pinned.checked.prog.funcs[f]? = some fn) :
    false = Tryd.pinned.checked.prog.looks [] ∧ ∀ (j : Nat) t, fn.params[j]? = some t → Tryd.pinned.checked.prog.wantsStandIn t = false := by
  obtain rfl : f = 6 := Option.some.inj ((show Tryd.prog.funcNamed "omnibus/omnibuslaw02.CrcTurns" = some 6 by kernel_rfl).symm.trans hf) |>.symm
  obtain rfl : fn = Tryd.f6 := (Option.some.inj (Tryd.func6.symm.trans hfn)).symm
  refine ⟨by kernel_rfl, fun j t ht => ?_⟩
  rw [Tryd.params6] at ht
  have hm : t ∈ [43] := by have := Array.mem_of_getElem? ht; simp at this ⊢; omega
  have hall : ([43].all fun u => !Tryd.prog.wantsStandIn u) = true := by kernel_rfl
  exact (show Tryd.prog.wantsStandIn t = false by simpa using List.all_eq_true.1 hall t hm)
theorem proved : Rows.CrcTurnsCardSaid :=
  Claim7.holds_tied_plain_at .later [] _ _ _ _ over (fun _ h => by cases h) (by kernel_rfl) (fun _ h => by cases h) crcTurns_row_tie rfl ⟨rfl, rfl⟩ (by kernel_rfl) rfl plain (by kernel_rfl)
#print axioms proved
end Go.Proofs.YtmfahnfmahahjaaDoor.crcTurns
