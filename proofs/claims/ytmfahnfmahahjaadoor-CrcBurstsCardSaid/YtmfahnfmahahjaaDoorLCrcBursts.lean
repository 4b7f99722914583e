/- For every row, place and burst of turned bits the law CrcBursts answers true and leaves its argument as it was; the package's table of kinds is tied to the program's text. No conditions. -/
import Derived.Test.YtmfahnfmahahjaaDoorRows
import Derived.Test.YtmfahnfmahahjaaDoorCards
import Derived.Test.YtmfahnfmahahjaaDoorTie
import Derived.Test.YtmfahnfmahahjaaDoorCrcA
import Derived.Test.YtmfahnfmahahjaaDoorCrcB
import Derived.WalkKit
import Derived.ProofKit
import Derived.OpenShut
import Derived.ShutString
import Derived.ChangeOld
import Derived.Below
import Derived.Carry
import Derived.Lib.SmallJoins
import Derived.LaidMore
import Derived.LaidLaws
import Derived.Stop.Joined
import Derived.SevenTiedAt
namespace Go.Proofs.YtmfahnfmahahjaaDoor.crcBursts
open Go.ChangeShapes Go.WideShapes Go.ChangeAt Go.RowKit Go.Joins
set_option linter.unusedVariables false
theorem own : ownKnob Tryd.prog.godebug = none := by kernel_rfl
theorem laidOut : laidOutB Tryd.prog = true := by kernel_rfl
set_option maxHeartbeats 4000000 in
set_option maxRecDepth 100000 in
theorem walk (w : World) (hK : Kinds w) (a0_0 : Int) (w0_0 : (Lit.int .i64 a0_0).wf = true) (a0_1 : Option Addr) (cap0_1 : Nat) (l0_1 : List Nat) (h0_1 : Bs w a0_1 cap0_1 l0_1) (n0_1 : a0_1 = none → cap0_1 = 0) (r0_1 : cap0_1 ≤ 140737488351232) (a0_2 : Int) (w0_2 : (Lit.int .u16 a0_2).wf = true) (a0_3 : Int) (w0_3 : (Lit.int .u64 a0_3).wf = true) :
    Calls Tryd.prog 7 #[.agg #[.int .i64 a0_0, .slice a0_1 l0_1.length cap0_1, .int .u16 a0_2, .int .u64 a0_3]] w fun e w' => e = .returned (.bool true) ∧ Nb w w' := by
  have H := Lib.hid h0_1
  have HK := Lib.hid hK
  have hL := h0_1.len
  clear h0_1 hK w0_0
  cases hg : goodB l0_1.length with
  | false =>
    have hg1 := good_any a0_1 cap0_1 l0_1.length
    rw [hg] at hg1
    have HG := Lib.hid hg1
    clear hg hg1
    go_enter Tryd.func7, Tryd.ntmps7
    go_wp2_with fail
    refine (alive2_any _ (HK.out.below (Nb.rfl.al _))).mono ?_
    rintro e w1 ⟨rfl, nb0⟩
    have hq := (Blk.new w #[.int .i64 a0_0, .slice a0_1 l0_1.length cap0_1, .int .u16 a0_2, .int .u64 a0_3] 46).nb nb0
    have q0 : w1.cell? ⟨w.heap.size, 0, none⟩ = _ := hq.cell 0
    have q1 : w1.cell? ⟨w.heap.size, 1, none⟩ = _ := hq.cell 1
    have q2 : w1.cell? ⟨w.heap.size, 2, none⟩ = _ := hq.cell 2
    have q3 : w1.cell? ⟨w.heap.size, 3, none⟩ = _ := hq.cell 3
    have n1 : Nb w w1 := (Nb.rfl.al _).tr nb0
    clear hq nb0
    go_wp2_with fail
    go_quiet (fail)
    have nbd : Nb w (w1.drewN nq) := n1.tr (Nb.drewN _ _)
    clear q0 q1 q2 q3 n1
    obtain ⟨wd, hwd⟩ : ∃ wd, wd = w1.drewN nq := ⟨_, rfl⟩
    rw [← hwd] at nbd ⊢
    clear hwd
    have n1 : Nb w wd := nbd
    go_wp2_with fail
    refine (HG.out _ hL).mono ?_
    rintro e w2 ⟨rfl, rfl⟩
    go_wp2
    go_ret
    exact ⟨rfl, n1⟩
  | true =>
    have hgood : l0_1.length ≤ 3000 ∨ 65536 < l0_1.length := by simpa [goodB] using hg
    have hg1 := good_any a0_1 cap0_1 l0_1.length
    rw [hg] at hg1
    have HG := Lib.hid hg1
    clear hg hg1
    by_cases hz : szK a0_0 = 0
    · have hs := size_any a0_0
      rw [hz] at hs
      have HSZ := Lib.hid hs
      clear hs hz hgood
      go_enter Tryd.func7, Tryd.ntmps7
      go_wp2_with fail
      refine (alive2_any _ (HK.out.below (Nb.rfl.al _))).mono ?_
      rintro e w1 ⟨rfl, nb0⟩
      have hq := (Blk.new w #[.int .i64 a0_0, .slice a0_1 l0_1.length cap0_1, .int .u16 a0_2, .int .u64 a0_3] 46).nb nb0
      have q0 : w1.cell? ⟨w.heap.size, 0, none⟩ = _ := hq.cell 0
      have q1 : w1.cell? ⟨w.heap.size, 1, none⟩ = _ := hq.cell 1
      have q2 : w1.cell? ⟨w.heap.size, 2, none⟩ = _ := hq.cell 2
      have q3 : w1.cell? ⟨w.heap.size, 3, none⟩ = _ := hq.cell 3
      have nb1 : Nb w w1 := (Nb.rfl.al _).tr nb0
      clear hq nb0
      go_wp2_with fail
      go_quiet (fail)
      have nbd : Nb w (w1.drewN nq) := nb1.tr (Nb.drewN _ _)
      clear q0 q1 q2 q3 nb1
      obtain ⟨wd, hwd⟩ : ∃ wd, wd = w1.drewN nq := ⟨_, rfl⟩
      rw [← hwd] at nbd ⊢
      clear hwd
      have nb1 : Nb w wd := nbd
      go_wp2_with fail
      refine (HG.out _ hL).mono ?_
      rintro e w2 ⟨rfl, rfl⟩
      go_wp2_with fail
      refine (HSZ.out _ (HK.out.below nb1)).mono ?_
      rintro e w2 ⟨rfl, nb2⟩
      go_wp2
      go_ret
      exact ⟨rfl, nb1.tr nb2⟩
    have hz0 : ((szK a0_0 : Int) == 0) = false := by rw [beq_eq_false_iff_ne]; omega
    cases hm : moreOk a0_0 (startK a0_0) l0_1 with
    | false =>
      have ha : addL a0_0 l0_1 = [] := by simp [addL, hm]
      have h1 := add_u a0_0 a0_1 cap0_1 l0_1
      rw [(sumN_bad hm).2, ha] at h1
      have H1 := Lib.hid h1
      clear hm ha h1 hgood
      go_enter Tryd.func7, Tryd.ntmps7
      go_wp2_with fail
      refine (alive2_any _ (HK.out.below (Nb.rfl.al _))).mono ?_
      rintro e w1 ⟨rfl, nb0⟩
      have hq := (Blk.new w #[.int .i64 a0_0, .slice a0_1 l0_1.length cap0_1, .int .u16 a0_2, .int .u64 a0_3] 46).nb nb0
      have q0 : w1.cell? ⟨w.heap.size, 0, none⟩ = _ := hq.cell 0
      have q1 : w1.cell? ⟨w.heap.size, 1, none⟩ = _ := hq.cell 1
      have q2 : w1.cell? ⟨w.heap.size, 2, none⟩ = _ := hq.cell 2
      have q3 : w1.cell? ⟨w.heap.size, 3, none⟩ = _ := hq.cell 3
      have nb1 : Nb w w1 := (Nb.rfl.al _).tr nb0
      clear hq nb0
      go_wp2_with fail
      go_quiet (fail)
      have nbd : Nb w (w1.drewN nq) := nb1.tr (Nb.drewN _ _)
      clear q0 q1 q2 q3 nb1
      obtain ⟨wd, hwd⟩ : ∃ wd, wd = w1.drewN nq := ⟨_, rfl⟩
      rw [← hwd] at nbd ⊢
      clear hwd
      have nb1 : Nb w wd := nbd
      go_wp2_with fail
      refine (HG.out _ hL).mono ?_
      rintro e w2 ⟨rfl, rfl⟩
      go_wp2_with fail
      refine (size_any a0_0 _ (HK.out.below nb1)).mono ?_
      rintro e w1s ⟨rfl, nb1s⟩
      have nb1 := nb1.tr nb1s
      go_wp2_with fail
      refine (H1.out _ (HK.out.below nb1) (H.out.below nb1) n0_1).mono ?_
      rintro e w2 ⟨⟨aA, cA, rfl, hfA⟩, nb2⟩
      clear hfA
      go_wp2
      go_ret
      exact ⟨rfl, nb1.tr nb2⟩
    | true =>
      have hc := (moreOk_parts hm).2.2
      have hl3 : l0_1.length ≤ 3000 := by have := chk_len hc; omega
      have hz := (moreOk_parts hm).1
      obtain ⟨z1, z2, _, _, _⟩ := kindOk a0_0 hz
      obtain ⟨f1, f2, f3, f4⟩ := fits_add a0_0 l0_1 hm (by omega)
      have h1 := add_u a0_0 a0_1 cap0_1 l0_1
      rw [(sumN_ok hm).2] at h1
      obtain ⟨X, hX⟩ : ∃ X, X = addL a0_0 l0_1 := ⟨_, rfl⟩
      rw [← hX] at f1 f2 f3 f4 h1
      obtain ⟨t, rfl, ht⟩ := u16_of_wf w0_2
      obtain ⟨k, hk⟩ : ∃ k, k = t % (l0_1.length + 1) := ⟨_, rfl⟩
      have hkl : k ≤ l0_1.length := by rw [hk]; exact Nat.lt_succ_iff.1 (Nat.mod_lt _ (by omega))
      have hk1 : (t : Int).tmod ((l0_1.length : Int) + 1) = (k : Int) := by rw [hk]; push_cast; exact Int.tmod_eq_emod_of_nonneg (by omega)
      have hk2 : (t : Int) % ((l0_1.length : Int) + 1) = (k : Int) := by rw [hk]; push_cast; rfl
      have H1 := Lib.hid h1
      have F1 := Lib.hid f1
      have F2 := Lib.hid f2
      have F4 := Lib.hid f4
      have hXd : (X.length : Int) - (szK a0_0 : Int) = (l0_1.length : Int) := by omega
      have hXk : ∀ i, i < szK a0_0 → k + i < X.length := fun i hi => by omega
      have hXk := Lib.hid hXk
      obtain ⟨u, rfl, hu⟩ := u64_of_wf w0_3
      obtain ⟨B, hB⟩ : ∃ B, B = u % 2 ^ szK a0_0 := ⟨_, rfl⟩
      have hBl : B < 2 ^ szK a0_0 := by rw [hB]; exact Nat.mod_lt _ (Nat.two_pow_pos _)
      have h32 : (2 : Nat) ^ szK a0_0 ≤ 4294967296 := Nat.pow_le_pow_right (by omega) z2
      have hB32 : B < 4294967296 := by omega
      have HBl := Lib.hid hBl
      have HBA : Hid (bits BinOp.and IntKind.u64 (u : Int) (IntKind.u64.wrap (IntKind.u64.wrap (2 ^ szK a0_0) - 1)) = (B : Int)) := Lib.hid (by
        have h0 : 0 < (2 : Nat) ^ szK a0_0 := Nat.two_pow_pos _
        have h2 := bits_and_u64_nat u (2 ^ szK a0_0 - 1) (by omega) (by omega)
        rw [Nat.and_two_pow_sub_one_eq_mod, ← hB] at h2
        have h3 : (2 : Int) ^ szK a0_0 = ((2 ^ szK a0_0 : Nat) : Int) := by push_cast; rfl
        have e2 : IntKind.u64.wrap (IntKind.u64.wrap (2 ^ szK a0_0) - 1) = ((2 ^ szK a0_0 - 1 : Nat) : Int) := by
          rw [h3, IntKind.wrap_u64, IntKind.wrap_u64]
          omega
        rw [← h2, e2])
      clear hB hBl h32 w0_3
      have hXl : l0_1.length ≤ X.length := by omega
      have hXs : X.length ≤ 4000 := by omega
      have hXp : 0 < X.length := by omega
      have F3 := Lib.hid f3
      clear hm h1 hgood hc hX hk f1 f2 f3 f4 w0_2
      go_enter Tryd.func7, Tryd.ntmps7
      go_wp2_with fail
      refine (alive2_any _ (HK.out.below (Nb.rfl.al _))).mono ?_
      rintro e w1 ⟨rfl, nb0⟩
      have hq := (Blk.new w #[.int .i64 a0_0, .slice a0_1 l0_1.length cap0_1, .int .u16 t, .int .u64 u] 46).nb nb0
      have q0 : w1.cell? ⟨w.heap.size, 0, none⟩ = _ := hq.cell 0
      have q1 : w1.cell? ⟨w.heap.size, 1, none⟩ = _ := hq.cell 1
      have q2 : w1.cell? ⟨w.heap.size, 2, none⟩ = _ := hq.cell 2
      have q3 : w1.cell? ⟨w.heap.size, 3, none⟩ = _ := hq.cell 3
      have nb1 : Nb w w1 := (Nb.rfl.al _).tr nb0
      clear hq nb0
      go_wp2_with fail
      go_quiet (fail)
      have nbd : Nb w (w1.drewN nq) := nb1.tr (Nb.drewN _ _)
      clear q0 q1 q2 q3 nb1
      obtain ⟨wd, hwd⟩ : ∃ wd, wd = w1.drewN nq := ⟨_, rfl⟩
      rw [← hwd] at nbd ⊢
      clear hwd
      have nb1 : Nb w wd := nbd
      go_wp2_with fail
      refine (HG.out _ hL).mono ?_
      rintro e w2 ⟨rfl, rfl⟩
      go_wp2_with fail
      refine (size_any a0_0 _ (HK.out.below nb1)).mono ?_
      rintro e w1s ⟨rfl, nb1s⟩
      have nb1 := nb1.tr nb1s
      go_wp2_with fail
      refine (H1.out _ (HK.out.below nb1) (H.out.below nb1) n0_1).mono ?_
      rintro e w2 ⟨⟨aA, cA, rfl, hfA⟩, nb2⟩
      obtain ⟨g, cap, hv⟩ := hfA.1.shape (by omega)
      simp only [Value.slice.injEq, true_and] at hv
      obtain ⟨rfl, rfl⟩ := hv
      have nb12 := nb1.tr nb2
      have FA := Lib.hid hfA
      have BA := Lib.hid hfA.bs.1
      have hcapA := hfA.bs.1.hcap
      have hcapM := hfA.bs.1.hmax
      unfold maxLen at hcapM
      clear hfA
      go_wp2_with fail
      refine (size_any a0_0 _ (HK.out.below nb12)).mono ?_
      rintro e w3 ⟨rfl, nb3⟩
      have FX := Lib.hid (FA.out.keep nb3)
      have nb13 := nb12.tr nb3
      have hgw : w.heap.size ≤ g := Nat.le_trans nbd.size (by have := FA.out.2 g rfl; have := nb1s.size; omega)
      go_wp2
      rw [HBA.out]
      go_loopw [55] (fun i wr => ∃ (j : Nat) (Y : List Nat), j ≤ szK a0_0 ∧ i = .int .i64 j ∧ Turned X Y B k j ∧ OwnB wr (.slice (some ⟨g, 0, none⟩) X.length cA) Y ∧ Kp (fun x => x = g) w3 wr) (fun i _ => szK a0_0 - (intOf i).toNat)
      case atStart => exact ⟨0, X, Nat.zero_le _, rfl, Turned.zero F4.out B k, FX.out.1, Kp.rfl⟩
      case round =>
        obtain ⟨j, Y, hj, rfl, hT, ho, hkp⟩ := hrel
        by_cases hlt : j < szK a0_0
        · have hkj := hXk.out j hlt
          obtain ⟨b, hb⟩ : ∃ b, b = Y.getD (k + j) 0 := ⟨_, rfl⟩
          obtain ⟨d, hd⟩ : ∃ d, d = B / 2 ^ j % 2 := ⟨_, rfl⟩
          have hb1 : b ≤ 1 := by rw [hb]; exact getD_le hT.bit _
          have hd1 : d ≤ 1 := by omega
          have c0 : wr.cell? ⟨g, k + j, none⟩ = some (.int .u8 (b : Int)) := by rw [hb]; exact ho.cell (k + j) (by rw [hT.len]; exact hkj)
          have f0 := ho.frozen (g := g) rfl (k + j)
          have hset := ho.setByte (g := g) rfl (k + j) (by rw [hT.len]; exact hkj) (b ^^^ d) (by have := xor_le hb1 hd1; omega)
          have hT2 := hT.step hkj
          rw [← hb, ← hd] at hT2
          have hbit : bits BinOp.and IntKind.u64 ((B : Int) / 2 ^ j) 1 % 256 = (d : Int) := by
            have e : ((B : Int) / 2 ^ j) = ((B / 2 ^ j : Nat) : Int) := by push_cast; rfl
            have : B / 2 ^ j ≤ B := Nat.div_le_self _ _
            rw [e, hd]
            generalize B / 2 ^ j = q at *
            rw [and_one_u64 _ (by omega) (by omega)]
            omega
          have hkp2 := hkp.tr (Kp.set (F := fun x => x = g) (w := wr) (p := ⟨g, k + j, none⟩) (u := .int .u8 ((b ^^^ d : Nat) : Int)) rfl) (fun x hx => .inl hx)
          have HT2 := Lib.hid hT2
          have HS := Lib.hid hset
          have HBit := Lib.hid hbit
          have HXor := Lib.hid (xor_u8 b d hb1 hd1)
          clear hT hT2 hset hbit ho hkp hb hd
          go_wp2
          rw [HBit.out, HXor.out]
          go_roundw
          case rel => exact ⟨j + 1, _, by omega, by go_num, HT2.out, HS.out, hkp2⟩
          case measure => simp [intOf]; omega
        · obtain rfl : j = szK a0_0 := by omega
          have hfit := fits_u a0_0 (some ⟨g, 0, none⟩) cA Y wr (HK.out.below (nb13.trans (hkp.toBelow nb13.size (fun x hx => by rw [hx]; exact hgw)))) ho.asBs.1 (by simp)
          rw [hT.fits F1.out HBl.out, hT.len] at hfit
          have hbel : Nb w wr := nb13.trans (hkp.toBelow nb13.size (fun x hx => by rw [hx]; exact hgw))
          have HF := Lib.hid hfit
          clear hfit hT ho hkp
          go_wp2_with fail
          refine HF.out.mono ?_
          rintro e wz ⟨rfl, nz⟩
          by_cases hB0 : B = 0
          · have e1 : ((B : Int) == 0) = true := by rw [beq_iff_eq]; omega
            have e2 : decide (B = 0) = true := by simp [hB0]
            rw [e2]
            go_wp2
            go_ret
            exact ⟨rfl, hbel.tr nz⟩
          · have e1 : ((B : Int) == 0) = false := by rw [beq_eq_false_iff_ne]; omega
            have e2 : decide (B = 0) = false := by simp [hB0]
            rw [e2]
            go_wp2
            go_ret
            exact ⟨rfl, hbel.tr nz⟩

theorem door_met (os : Os) (args : Array Value) : laidMetH Tryd.prog Rows.crcBurstsRow.laid ((World.doorLaid Tryd.prog 19 os).forCall (fun _ _ => 0) ⟨#[], args, []⟩).memory :=
  laidMetH_of_parts3 (fuel := 8) (laidMet_of_run' 8 (by kernel_rfl) (by kernel_rfl)) (by kernel_rfl) (by kernel_rfl)
set_option maxHeartbeats 2000000 in
set_option maxRecDepth 100000 in
theorem lifted (os : Os) (started : os.Started) (H : Type) (enc : TypeId × Value → H) :
    ReturnsInHanded {} Tryd.checked os 7 .any (fun w args => (Rows.crcBurstsSpec.pre enc Tryd.prog Tryd.f7 [] false w args ∧ laidMetH Tryd.prog Rows.crcBurstsRow.laid w) ∧ sizedMet enc Tryd.prog Tryd.f7 (OpenSpec.ofChange Rows.crcBurstsSpec) false w args)
      (Rows.crcBurstsSpec.post enc Tryd.prog Tryd.f7 false true false false) := by
  refine returnsInHanded_of_change_and (C := Tryd.checked) (X := fun w _ => laidMetH Tryd.prog Rows.crcBurstsRow.laid w) (fun _ _ _ hh h => h.of_heap hh) own started (by kernel_rfl) Tryd.func7
    (ChangeSpec.witness_shaped (enc := enc) (C := Tryd.checked) (os := os) (X := fun w _ => laidMetH Tryd.prog Rows.crcBurstsRow.laid w) false (World.doorLaid Tryd.prog 19 os) #[.agg #[.int .i64 0, .slice none 0 0, .int .u16 0, .int .u64 0]] 8 rfl (World.shaped_of_RefB (by kernel_rfl) (by kernel_rfl)) (by kernel_rfl) (by kernel_rfl) (by kernel_rfl) (door_met os _)) ?_
  intro W base args ds gs before hval0 hW _ hR hL _
  have hval : ∀ (j : Nat) t v, Tryd.f7.params[j]? = some t → args[j]? = some v → Value.okWide Tryd.prog W .any base t v := hval0
  have hW' := hW
  obtain ⟨p, q, hA0, hV, rfl, hfz, hnd⟩ := hW
  have hA : DataW.TrodAll enc Tryd.prog W 0 (fun _ => true) true Tryd.f7.params.toList args.toList ds p := hA0
  rw [Tryd.params7] at hA hval
  obtain ⟨v0, vs0, d0, ds0, p0, q0, hargs, rfl, rfl, h0, r0⟩ := trodAll_cons hA
  obtain ⟨rfl, rfl, rfl⟩ := trodAll_nil r0
  obtain rfl : args = #[v0] := by cases args; simp_all
  obtain ⟨rfl, rfl⟩ := trodVars_none hV
  have k0 := h0
  have lt0 : ∀ x ∈ p0, x.block < W.heap.size := by obtain ⟨m, hm⟩ := k0; exact DataW.trod_lt m _ _ _ hm
  clear hA0
  rw [Tryd.params7] at hR
  have hR0 : (DataW.weightsEach Tryd.prog ([46] ++ Rows.crcBurstsSpec.plain.varTypes Tryd.prog) ([d0] ++ [])).all (· ≤ reachBytes) = true := hR
  simp only [List.cons_append, List.nil_append, DataW.weightsEach, List.append_nil, List.all_append, Bool.and_eq_true] at hR0
  obtain ⟨hR0, _⟩ := hR0
  obtain ⟨v0_0, v0_1, v0_2, v0_3, y0_0, y0_1, y0_2, y0_3, m0, ev0, ed0, ep0, t0_0, t0_1, t0_2, t0_3⟩ := open_agg4 Tryd.underlying46 (by kernel_rfl) (by kernel_rfl) (hval 0 46 v0 rfl rfl) h0
  subst ev0
  subst ed0
  have hRs0 := hR0
  simp only [DataW.weights, Tryd.underlying46] at hRs0
  have hRt0 : (DataW.weightsEach Tryd.prog [3, 23, 38, 22] [y0_0.1, y0_1.1, y0_2.1, y0_3.1]).all (· ≤ reachBytes) = true := hRs0
  simp only [DataW.weightsEach, List.append_nil, List.all_append, Bool.and_eq_true] at hRt0
  obtain ⟨hR0_0, hR0_1, hR0_2, hR0_3⟩ := hRt0
  obtain ⟨a0_0, e0_0, x0_0, w0_0⟩ := DataW.trod_int Tryd.underlying3 t0_0
  obtain rfl : v0_0 = .int .i64 a0_0 := by simpa using e0_0
  obtain ⟨a0_1, cap0_1, l0_1, e0_1, hb0_1, n0_1, rr0_1⟩ := bytes_of_trod t0_1 hR0_1
  subst e0_1
  obtain ⟨a0_2, e0_2, x0_2, w0_2⟩ := DataW.trod_int Tryd.underlying38 t0_2
  obtain rfl : v0_2 = .int .u16 a0_2 := by simpa using e0_2
  obtain ⟨a0_3, e0_3, x0_3, w0_3⟩ := DataW.trod_int Tryd.underlying22 t0_3
  obtain rfl : v0_3 = .int .u64 a0_3 := by simpa using e0_3
  refine (walk W (kinds_of hL) a0_0 w0_0 a0_1 cap0_1 l0_1 hb0_1 n0_1 rr0_1 a0_2 w0_2 a0_3 w0_3).mono fun e W' ⟨he, bel⟩ => ?_
  subst he
  exact ⟨_, rfl, _, _, _, [], _, [], hW', trodAll_mk1 (shut_bool Tryd.underlying4 _), (trodAll_cons_mk (Below.trod laidOut (by kernel_rfl) (of_decide_eq_true (by kernel_rfl)) k0 bel lt0) trodAll_mk0), rfl, bel.frame _, fun h => by cases h⟩

theorem over : Rows.crcBurstsRow.holds Tryd.pinned (OpenSpec.ofChange Rows.crcBurstsSpec) :=
  OpenClaim.holds_of_wide 7 Tryd.f7 rfl rfl rfl rfl rfl rfl rfl ⟨rfl, rfl, rfl, rfl, rfl⟩ rfl rfl rfl rfl rfl (by kernel_rfl) Tryd.func7 (by kernel_rfl)
    (of_decide_eq_true (by kernel_rfl)) (by unfold Func.isWrapper; first | (rw [if_pos (by decide +kernel)]; kernel_rfl) | (rw [if_neg (by decide +kernel)]; exact ⟨rfl, rfl⟩))
    (fun os started H enc _ => lifted os started H enc)

theorem plain (f : FuncId) (fn : Func) (hf : Tryd.pinned.checked.prog.funcNamed "omnibus/omnibuslaw02.CrcBursts" = some f) (hfn : Tryd.pinned.checked.prog.funcs[f]? = some fn) :
    false = Tryd.pinned.checked.prog.looks [] ∧ ∀ (j : Nat) t, fn.params[j]? = some t → Tryd.pinned.checked.prog.wantsStandIn t = false := by
  obtain rfl : f = 7 := Option.some.inj ((show Tryd.prog.funcNamed "omnibus/omnibuslaw02.CrcBursts" = some 7 by kernel_rfl).symm.trans hf) |>.symm
  obtain rfl : fn = Tryd.f7 := (Option.some.inj (Tryd.func7.symm.trans hfn)).symm
  refine ⟨by kernel_rfl, fun j t ht => ?_⟩
  rw [Tryd.params7] at ht
  have hm : t ∈ [46] := by have := Array.mem_of_getElem? ht; simp at this ⊢; omega
  have hall : ([46].all fun u => !Tryd.prog.wantsStandIn u) = true := by kernel_rfl
  exact (show Tryd.prog.wantsStandIn t = false by simpa using List.all_eq_true.1 hall t hm)
theorem proved : Rows.CrcBurstsCardSaid :=
  Claim7.holds_tied_plain_at .later [] _ _ _ _ over (fun _ h => by cases h) (by kernel_rfl) (fun _ h => by cases h) crcBursts_row_tie rfl ⟨rfl, rfl⟩ (by kernel_rfl) rfl plain (by kernel_rfl)
#print axioms proved
end Go.Proofs.YtmfahnfmahahjaaDoor.crcBursts
