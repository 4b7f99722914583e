/- For every kind and row of bytes the law CrcAdds answers true and leaves its arguments as they were; the package's table of kinds is tied to the program's text. No conditions. -/
import Derived.Test.YtmfahnfmahahjaaDoorRows
import Derived.Test.YtmfahnfmahahjaaDoorCards
import Derived.Test.YtmfahnfmahahjaaDoorTie
import Derived.Test.YtmfahnfmahahjaaDoorCrcA
import Derived.Test.YtmfahnfmahahjaaDoorCrcB
import Derived.WalkKit
import Derived.ProofKit
import Derived.OpenShut
import Derived.ShutString
import Derived.ChangeOld
import Derived.Below
import Derived.Carry
import Derived.Lib.SmallJoins
import Derived.LaidMore
import Derived.LaidLaws
import Derived.Stop.Joined
import Derived.SevenTiedAt
namespace Go.Proofs.YtmfahnfmahahjaaDoor.crcAdds
open Go.ChangeShapes Go.WideShapes Go.ChangeAt Go.RowKit Go.Joins
set_option linter.unusedVariables false
theorem own : ownKnob Tryd.prog.godebug = none := by kernel_rfl
theorem laidOut : laidOutB Tryd.prog = true := by kernel_rfl
set_option maxHeartbeats 4000000 in
set_option maxRecDepth 100000 in
theorem walk (w : World) (hK : Kinds w) (a0 : Int) (w0 : (Lit.int .i64 a0).wf = true) (a1 : Option Addr) (cap1 : Nat) (l1 : List Nat) (h1 : Bs w a1 cap1 l1) (n1 : a1 = none → cap1 = 0) (r1 : cap1 ≤ 140737488351232) :
    Calls Tryd.prog 4 #[.int .i64 a0, .slice a1 l1.length cap1] w fun e w' => e = .returned (.bool true) ∧ Nb w w' := by
  have H := Lib.hid h1
  have HK := Lib.hid hK
  have hL := h1.len
  clear h1 hK w0
  cases hg : goodB l1.length with
  | false =>
    have hg1 := good_any a1 cap1 l1.length
    rw [hg] at hg1
    have HG := Lib.hid hg1
    clear hg hg1
    go_enter Tryd.func4, Tryd.ntmps4
    go_wp2_with fail
    refine (alive2_any w HK.out).mono ?_
    rintro e w1 ⟨rfl, n1⟩
    go_wp2_with fail
    refine (HG.out _ hL).mono ?_
    rintro e w2 ⟨rfl, rfl⟩
    go_wp2
    go_ret
    exact ⟨rfl, n1⟩
  | true =>
    have hg1 := good_any a1 cap1 l1.length
    rw [hg] at hg1
    have HG := Lib.hid hg1
    clear hg hg1
    go_enter Tryd.func4, Tryd.ntmps4
    go_wp2_with fail
    refine (alive2_any w HK.out).mono ?_
    rintro e w1 ⟨rfl, nb1⟩
    go_wp2_with fail
    refine (HG.out _ hL).mono ?_
    rintro e w2 ⟨rfl, rfl⟩
    go_wp2_with (at_builtin; refine wpList_appB _ rfl (.tmp 16) (.tmp 17) rfl _ [] rfl (OwnB.fresh0 _) a1 cap1 l1 l1.length rfl rfl (H.out.below (nb1.al _)) (by intro h; subst h; exact ⟨by rw [H.out.none_len]; rfl, n1 rfl⟩) (by have := H.out.hcap; simp; omega) ?_)
    intro v1 w2 ho1 hk1 hf1
    have fr1 : Fresh w w2 v1 l1 := ⟨ho1, fun g hg => by
      have := nb1.size
      rcases hf1 g hg with h | h
      · simp [Value.ownBlock] at h
        omega
      · omega⟩
    have nb2 : Nb w w2 := (nb1.al _).trans (hk1.toBelow (Nat.le_trans nb1.size (by simp)) (by intro g hg; simp [Value.ownBlock] at hg; have := nb1.size; omega))
    obtain ⟨aI, cI, rfl, _⟩ := ho1.bs
    have FI := Lib.hid fr1
    clear ho1 hk1 hf1 nb1 fr1
    go_wp2_with fail
    refine (add_u a0 aI cI l1 _ (HK.out.below nb2) FI.out.bs.1 FI.out.bs.2).mono ?_
    rintro e w3 ⟨⟨aA, cA, rfl, hfA⟩, nb3⟩
    have FA := Lib.hid hfA
    have BI := Lib.hid (FI.out.keep nb3)
    clear hfA
    go_wp2_with fail
    refine (refadd_u a0 a1 cap1 l1 _ (H.out.below (nb2.tr nb3)) n1).mono ?_
    rintro e w4 ⟨⟨aR, cR, rfl, hbR⟩, nb4⟩
    have BR := Lib.hid hbR
    clear hbR
    go_wp2_with fail
    refine (same_any aA aR cA cR _ _ _ (FA.out.bs.1.below nb4) BR.out).mono ?_
    rintro e w5 ⟨rfl, nb5⟩
    have d1 : decide (addL a0 l1 = addL a0 l1) = true := by simp
    have nb45 := nb4.tr nb5
    go_wp2_with fail
    refine (fits_u a0 aI cI l1 _ (HK.out.below ((nb2.tr nb3).tr nb45)) (FI.out.bs.1.below (nb3.tr nb45)) FI.out.bs.2).mono ?_
    rintro e w6 ⟨rfl, nb6⟩
    go_wp2_with fail
    refine (reffits_u a0 a1 cap1 l1 _ (H.out.below (((nb2.tr nb3).tr nb45).tr nb6)) n1).mono ?_
    rintro e w7 ⟨rfl, nb7⟩
    have nb47 := (nb45.tr nb6).tr nb7
    go_wp2_with fail
    refine (fits_u a0 aA cA (addL a0 l1) _ (HK.out.below ((nb2.tr nb3).tr nb47)) (FA.out.bs.1.below nb47) FA.out.bs.2).mono ?_
    rintro e w8 ⟨rfl, nb8⟩
    go_wp2_with fail
    refine (reffits_u a0 aA cA (addL a0 l1) _ (FA.out.bs.1.below (nb47.tr nb8)) FA.out.bs.2).mono ?_
    rintro e w9 ⟨rfl, nb9⟩
    have nb49 := (nb47.tr nb8).tr nb9
    have nb39 := nb3.tr nb49
    have FA9 := Lib.hid (FA.out.keep nb49)
    have FI9 := Lib.hid (FI.out.keep nb39)
    have nb29 := nb2.tr nb39
    have d2 : (fitsB a0 l1 != fitsB a0 l1) = false := by simp
    have d3 : (fitsB a0 (addL a0 l1) != fitsB a0 (addL a0 l1)) = false := by simp
    clear nb4 nb5 nb45 nb6 nb7 nb47 nb8 nb9 BR BI
    go_wp2_with fail
    have hLL := FA.out.bs.1.len
    generalize addL a0 l1 = L at *
    go_loopw [60] (fun i wr => ∃ (k : Nat) (m : List Nat), k ≤ L.length ∧ i = .int .i64 k ∧ m.length = L.length ∧ OwnB wr (.slice aA L.length cA) m ∧ Kp (fun g => (Value.slice aA L.length cA).ownBlock = some g) w9 wr) (fun i _ => L.length - (intOf i).toNat)
    case atStart => exact ⟨0, L, Nat.zero_le _, rfl, rfl, FA9.out.1, Kp.rfl⟩
    case round =>
      obtain ⟨k, m, hk, rfl, hm, ho, hkp⟩ := hrel
      by_cases hlt : k < L.length
      · obtain ⟨g, cap, hv⟩ := ho.shape (by omega)
        simp only [Value.slice.injEq] at hv
        obtain ⟨rfl, _, rfl⟩ := hv
        have c0 : wr.cell? ⟨g, k, none⟩ = some (.int .u8 ((m.getD k 0 : Nat) : Int)) := by
          obtain ⟨a', c', hv, hb, _⟩ := ho.bs
          obtain ⟨b', o', rfl, hc⟩ := hb.hcells (by omega)
          simp only [Value.slice.injEq, Option.some.injEq, Addr.mk.injEq, and_true] at hv
          obtain ⟨⟨rfl, rfl⟩, _, _⟩ := hv
          have := hc k (by omega)
          rwa [Nat.zero_add] at this
        have f0 := ho.frozen (g := g) rfl k
        have hset := ho.setByte (g := g) rfl k (by omega) 7 (by omega)
        have hkp2 := hkp.tr (Kp.set (F := fun x => x = g) (w := wr) (p := ⟨g, k, none⟩) (u := .int .u8 ((7 : Nat) : Int)) rfl) (fun x hx => .inl (by rw [hx]; rfl))
        have HS := Lib.hid hset
        have hml : (m.set k 7).length = L.length := by rw [List.length_set]; exact hm
        have HM := Lib.hid hml
        clear hset ho hkp hml hm
        go_wp2
        go_roundw
        case rel => exact ⟨k + 1, m.set k 7, by omega, by go_num, HM.out, HS.out, hkp2⟩
        case measure => simp [intOf]; omega
      · obtain rfl : k = L.length := by omega
        have hdis : ∀ g, (Value.slice aI l1.length cI).ownBlock = some g → ¬ (Value.slice aA L.length cA).ownBlock = some g := fun g hg hg2 => by
          have h1 := FI.out.1.lt hg
          have h2 := FA.out.2 g hg2
          omega
        have hI := FI9.out.1.keep hkp hdis
        obtain ⟨aI', cI', hv, hbI, _⟩ := hI.bs
        simp only [Value.slice.injEq, true_and] at hv
        obtain ⟨rfl, rfl⟩ := hv
        have hbel : Nb w wr := nb29.trans (hkp.toBelow nb29.size (fun g hg => Nat.le_trans nb2.size (FA.out.2 g hg)))
        have HB := Lib.hid hbI
        clear hI hkp ho hbI hdis
        go_wp2_with fail
        refine (same_any aI a1 cI cap1 l1 l1 _ HB.out (H.out.below hbel)).mono ?_
        rintro e wz ⟨rfl, nz⟩
        have d4 : decide (l1 = l1) = true := by simp
        go_wp2
        go_ret
        exact ⟨rfl, hbel.tr nz⟩

theorem door_met (os : Os) (args : Array Value) : laidMetH Tryd.prog Rows.crcAddsRow.laid ((World.doorLaid Tryd.prog 19 os).forCall (fun _ _ => 0) ⟨#[], args, []⟩).memory :=
  laidMetH_of_parts3 (fuel := 8) (laidMet_of_run' 8 (by kernel_rfl) (by kernel_rfl)) (by kernel_rfl) (by kernel_rfl)
set_option maxHeartbeats 2000000 in
set_option maxRecDepth 100000 in
theorem lifted (os : Os) (started : os.Started) (H : Type) (enc : TypeId × Value → H) :
    ReturnsInHanded {} Tryd.checked os 4 .any (fun w args => (Rows.crcAddsSpec.pre enc Tryd.prog Tryd.f4 [] false w args ∧ laidMetH Tryd.prog Rows.crcAddsRow.laid w) ∧ sizedMet enc Tryd.prog Tryd.f4 (OpenSpec.ofChange Rows.crcAddsSpec) false w args)
      (Rows.crcAddsSpec.post enc Tryd.prog Tryd.f4 false true false false) := by
  refine returnsInHanded_of_change_and (C := Tryd.checked) (X := fun w _ => laidMetH Tryd.prog Rows.crcAddsRow.laid w) (fun _ _ _ hh h => h.of_heap hh) own started (by kernel_rfl) Tryd.func4
    (ChangeSpec.witness_shaped (enc := enc) (C := Tryd.checked) (os := os) (X := fun w _ => laidMetH Tryd.prog Rows.crcAddsRow.laid w) false (World.doorLaid Tryd.prog 19 os) #[.int .i64 0, .slice none 0 0] 8 rfl (World.shaped_of_RefB (by kernel_rfl) (by kernel_rfl)) (by kernel_rfl) (by kernel_rfl) (by kernel_rfl) (door_met os _)) ?_
  intro W base args ds gs before hval0 hW _ hR hL _
  have hval : ∀ (j : Nat) t v, Tryd.f4.params[j]? = some t → args[j]? = some v → Value.okWide Tryd.prog W .any base t v := hval0
  have hW' := hW
  obtain ⟨p, q, hA0, hV, rfl, hfz, hnd⟩ := hW
  have hA : DataW.TrodAll enc Tryd.prog W 0 (fun _ => true) true Tryd.f4.params.toList args.toList ds p := hA0
  rw [Tryd.params4] at hA hval
  obtain ⟨v0, vs0, d0, ds0, p0, q0, hargs, rfl, rfl, h0, r0⟩ := trodAll_cons hA
  obtain ⟨v1, vs1, d1, ds1, p1, q1, rfl, rfl, rfl, h1, r1⟩ := trodAll_cons r0
  obtain ⟨rfl, rfl, rfl⟩ := trodAll_nil r1
  obtain rfl : args = #[v0, v1] := by cases args; simp_all
  obtain ⟨rfl, rfl⟩ := trodVars_none hV
  have k0 := h0
  have lt0 : ∀ x ∈ p0, x.block < W.heap.size := by obtain ⟨m, hm⟩ := k0; exact DataW.trod_lt m _ _ _ hm
  have k1 := h1
  have lt1 : ∀ x ∈ p1, x.block < W.heap.size := by obtain ⟨m, hm⟩ := k1; exact DataW.trod_lt m _ _ _ hm
  clear hA0
  rw [Tryd.params4] at hR
  have hR0 : (DataW.weightsEach Tryd.prog ([3, 23] ++ Rows.crcAddsSpec.plain.varTypes Tryd.prog) ([d0, d1] ++ [])).all (· ≤ reachBytes) = true := hR
  simp only [List.cons_append, List.nil_append, DataW.weightsEach, List.append_nil, List.all_append, Bool.and_eq_true] at hR0
  obtain ⟨hR0, hR1, _⟩ := hR0
  obtain ⟨a0, rfl, rfl, rfl, w0⟩ := open_int Tryd.underlying3 (hval 0 3 v0 rfl rfl) h0
  obtain ⟨fu1, hf1⟩ := h1
  obtain ⟨a1, lc1, cap1, rfl⟩ := okWide_slice Tryd.underlying23 (hval 1 23 v1 rfl rfl)
  have hc1 : DataW.trod enc Tryd.prog W 0 (fun _ => true) true fu1 23 [.slice a1 lc1 cap1] = some (d1, p1) := hf1
  obtain ⟨l1, rfl, hb1, n1, rr1⟩ := bytes_of_slice hc1 hR1
  refine (walk W (kinds_of hL) a0 w0 a1 cap1 l1 hb1 n1 rr1).mono fun e W' ⟨he, bel⟩ => ?_
  subst he
  exact ⟨_, rfl, _, _, _, [], _, [], hW', trodAll_mk1 (shut_bool Tryd.underlying4 _), (trodAll_cons_mk (Below.trod laidOut (by kernel_rfl) (of_decide_eq_true (by kernel_rfl)) k0 bel lt0) (trodAll_cons_mk (Below.trod laidOut (by kernel_rfl) (of_decide_eq_true (by kernel_rfl)) k1 bel lt1) trodAll_mk0)), rfl, bel.frame _, fun h => by cases h⟩

theorem over : Rows.crcAddsRow.holds Tryd.pinned (OpenSpec.ofChange Rows.crcAddsSpec) :=
  OpenClaim.holds_of_wide 4 Tryd.f4 rfl rfl rfl rfl rfl rfl rfl ⟨rfl, rfl, rfl, rfl, rfl⟩ rfl rfl rfl rfl rfl (by kernel_rfl) Tryd.func4 (by kernel_rfl)
    (of_decide_eq_true (by kernel_rfl)) (by unfold Func.isWrapper; first | (rw [if_pos (by decide +kernel)]; kernel_rfl) | (rw [if_neg (by decide +kernel)]; exact ⟨rfl, rfl⟩))
    (fun os started H enc _ => lifted os started H enc)

theorem plain (f : FuncId) (fn : Func) (hf : Tryd.pinned.checked.prog.funcNamed "omnibus/omnibuslaw02.CrcAdds" = some f) (hfn : Tryd.pinned.checked.prog.funcs[f]? = some fn) :
    false = Tryd.pinned.checked.prog.looks [] ∧ ∀ (j : Nat) t, fn.params[j]? = some t → Tryd.pinned.checked.prog.wantsStandIn t = false := by
  obtain rfl : f = 4 := Option.some.inj ((show Tryd.prog.funcNamed "omnibus/omnibuslaw02.CrcAdds" = some 4 by kernel_rfl).symm.trans hf) |>.symm
  obtain rfl : fn = Tryd.f4 := (Option.some.inj (Tryd.func4.symm.trans hfn)).symm
  refine ⟨by kernel_rfl, fun j t ht => ?_⟩
  rw [Tryd.params4] at ht
  have hm : t ∈ [3, 23] := by have := Array.mem_of_getElem? ht; simp at this ⊢; omega
  have hall : ([3, 23].all fun u => !Tryd.prog.wantsStandIn u) = true := by kernel_rfl
  exact (show Tryd.prog.wantsStandIn t = false by simpa using List.all_eq_true.1 hall t hm)
theorem proved : Rows.CrcAddsCardSaid :=
  Claim7.holds_tied_plain_at .later [] _ _ _ _ over (fun _ h => by cases h) (by kernel_rfl) (fun _ h => by cases h) crcAdds_row_tie rfl ⟨rfl, rfl⟩ (by kernel_rfl) rfl plain (by kernel_rfl)
#print axioms proved
end Go.Proofs.YtmfahnfmahahjaaDoor.crcAdds
