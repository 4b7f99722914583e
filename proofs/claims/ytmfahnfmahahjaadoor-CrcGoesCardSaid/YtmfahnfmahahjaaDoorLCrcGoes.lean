/- For every kind, row of bytes and place the law CrcGoes answers true and leaves its arguments as they were; the package's table of kinds is tied to the program's text. No conditions. -/
import Derived.Test.YtmfahnfmahahjaaDoorRows
import Derived.Test.YtmfahnfmahahjaaDoorCards
import Derived.Test.YtmfahnfmahahjaaDoorTie
import Derived.Test.YtmfahnfmahahjaaDoorCrcA
import Derived.Test.YtmfahnfmahahjaaDoorCrcB
import Derived.WalkKit
import Derived.ProofKit
import Derived.OpenShut
import Derived.ShutString
import Derived.ChangeOld
import Derived.Below
import Derived.Carry
import Derived.Lib.SmallJoins
import Derived.LaidMore
import Derived.LaidLaws
import Derived.Stop.Joined
import Derived.SevenTiedAt
namespace Go.Proofs.YtmfahnfmahahjaaDoor.crcGoes
open Go.ChangeShapes Go.WideShapes Go.ChangeAt Go.RowKit Go.Joins
set_option linter.unusedVariables false
theorem own : ownKnob Tryd.prog.godebug = none := by kernel_rfl
theorem laidOut : laidOutB Tryd.prog = true := by kernel_rfl
set_option maxHeartbeats 4000000 in
set_option maxRecDepth 100000 in
theorem walk (w : World) (hK : Kinds w) (a0 : Int) (w0 : (Lit.int .i64 a0).wf = true) (a1 : Option Addr) (cap1 : Nat) (l1 : List Nat) (h1 : Bs w a1 cap1 l1) (n1 : a1 = none → cap1 = 0) (r1 : cap1 ≤ 140737488351232) (a2 : Int) (w2 : (Lit.int .u16 a2).wf = true) :
    Calls Tryd.prog 5 #[.int .i64 a0, .slice a1 l1.length cap1, .int .u16 a2] w fun e w' => e = .returned (.bool true) ∧ Nb w w' := by
  have H := Lib.hid h1
  have HK := Lib.hid hK
  have hL := h1.len
  have hcap := h1.hcap
  clear h1 hK w0
  cases hg : goodB l1.length with
  | false =>
    have hg1 := good_any a1 cap1 l1.length
    rw [hg] at hg1
    have HG := Lib.hid hg1
    clear hg hg1
    go_enter Tryd.func5, Tryd.ntmps5
    go_wp2_with fail
    refine (alive2_any w HK.out).mono ?_
    rintro e w1 ⟨rfl, n1⟩
    go_wp2_with fail
    refine (HG.out _ hL).mono ?_
    rintro e w2 ⟨rfl, rfl⟩
    go_wp2
    go_ret
    exact ⟨rfl, n1⟩
  | true =>
    have hg1 := good_any a1 cap1 l1.length
    rw [hg] at hg1
    have HG := Lib.hid hg1
    clear hg hg1
    cases hm : moreOk a0 (startK a0) l1 with
    | false =>
      have hs := sumN_bad hm
      have h1 := sum_u a0 a1 cap1 l1
      rw [hs.1, hs.2] at h1
      have H1 := Lib.hid h1
      have hor : szK a0 = 0 ∨ (szK a0 ≠ 0 ∧ chk l1 = false) := by
        by_cases hz : szK a0 = 0
        · exact .inl hz
        · refine .inr ⟨hz, ?_⟩
          cases hc : chk l1 with
          | false => rfl
          | true => rw [moreOk_start hz hc] at hm; cases hm
      have HOr := Lib.hid hor
      clear hm hs h1 hor
      go_enter Tryd.func5, Tryd.ntmps5
      go_wp2_with fail
      refine (alive2_any w HK.out).mono ?_
      rintro e w1 ⟨rfl, nb1⟩
      go_wp2_with fail
      refine (HG.out _ hL).mono ?_
      rintro e w2 ⟨rfl, rfl⟩
      go_wp2_with fail
      refine (H1.out _ (HK.out.below nb1) (H.out.below nb1)).mono ?_
      rintro e w2 ⟨rfl, nb2⟩
      go_wp2_with fail
      refine (size_any a0 _ (HK.out.below (nb1.tr nb2))).mono ?_
      rintro e w3 ⟨rfl, nb3⟩
      rcases HOr.out with hz | ⟨hz, hc⟩
      · have hd : ((szK a0 : Int) == 0) = true := by rw [beq_iff_eq]; omega
        go_wp2
        go_ret
        exact ⟨rfl, (nb1.tr nb2).tr nb3⟩
      · have hd : ((szK a0 : Int) == 0) = false := by rw [beq_eq_false_iff_ne]; omega
        have HC := Lib.hid hc
        clear hc
        go_wp2_with fail
        refine (check_bad a1 cap1 l1 _ (H.out.below ((nb1.tr nb2).tr nb3)) HC.out).mono ?_
        rintro e w4 ⟨rfl, rfl⟩
        go_wp2
        go_ret
        exact ⟨rfl, (nb1.tr nb2).tr nb3⟩
    | true =>
      obtain ⟨hz, _, hc⟩ := moreOk_parts hm
      obtain ⟨z1, z2, z3, _, z5⟩ := kindOk a0 hz
      have hs := sumN_ok hm
      obtain ⟨t, rfl, ht⟩ := u16_of_wf w2
      obtain ⟨k, hk⟩ : ∃ k, k = t % (l1.length + 1) := ⟨_, rfl⟩
      have hkl : k ≤ l1.length := by rw [hk]; exact Nat.lt_succ_iff.1 (Nat.mod_lt _ (by omega))
      have hk1 : (t : Int).tmod ((l1.length : Int) + 1) = (k : Int) := by rw [hk]; push_cast; exact Int.tmod_eq_emod_of_nonneg (by omega)
      have hk2 : (t : Int) % ((l1.length : Int) + 1) = (k : Int) := by rw [hk]; push_cast; rfl
      have hlen := chk_len hc
      have hcT : chk (l1.take k) = true := chk_sub hc (fun x hx => List.mem_of_mem_take hx) (by rw [List.length_take]; omega)
      have hcD : chk (l1.drop k) = true := chk_sub hc (fun x hx => List.mem_of_mem_drop hx) (by rw [List.length_drop]; omega)
      have hsT := sumN_ok (moreOk_start hz hcT)
      have hlT : (l1.take k).length = k := by rw [List.length_take]; omega
      have hlD : (l1.drop k).length = l1.length - k := by rw [List.length_drop]
      have hA := runC_lt z3 (l1.take k) _ z5
      have hR := runC_lt z3 l1 _ z5
      have hgo : runC (szK a0) (polyK a0) (runC (szK a0) (polyK a0) (startK a0) (l1.take k)) (l1.drop k) = runC (szK a0) (polyK a0) (startK a0) l1 := by rw [← runC_append, List.take_append_drop]
      have h1 := sum_u a0 a1 cap1 l1
      rw [hs.1, hs.2] at h1
      have h2 := fun a w' hk' hb' => sum_u a0 a cap1 (l1.take k) w' hk' hb'
      rw [hsT.1, hsT.2, hlT] at h2
      have h3 := fun a c w' hk' hb' => more_ok a0 _ a c (l1.drop k) w' hk' hb' hz hA hcD
      rw [hgo, hlD] at h3
      have h4 := fun w' hk' => more_ok a0 _ none 0 [] w' hk' (Bs.nil w') hz hR (by decide)
      rw [runC_nil] at h4
      generalize runC (szK a0) (polyK a0) (startK a0) (l1.take k) = A at *
      generalize runC (szK a0) (polyK a0) (startK a0) l1 = R at *
      have hR0 : ((R : Int) / 2 ^ szK a0) = 0 := by
        have e : ((R : Int) / 2 ^ szK a0) = ((R / 2 ^ szK a0 : Nat) : Int) := by push_cast; rfl
        rw [e, Nat.div_eq_of_lt hR]; rfl
      have H1 := Lib.hid h1
      have H2 := Lib.hid h2
      have H3 := Lib.hid h3
      have H4 := Lib.hid h4
      have R0 := Lib.hid hR0
      clear hk hs hsT hm hc hcT hcD hA hR hgo h1 h2 h3 h4 z3 z5 hlT hlD hR0 w2
      cases a1 with
      | none =>
        have hl0 := H.out.none_len
        subst hl0
        obtain rfl : k = 0 := by simpa using hkl
        have := n1 rfl
        subst this
        go_enter Tryd.func5, Tryd.ntmps5
        go_wp2_with fail
        refine (alive2_any w HK.out).mono ?_
        rintro e w1 ⟨rfl, nb1⟩
        go_wp2_with fail
        refine (HG.out _ hL).mono ?_
        rintro e w2 ⟨rfl, rfl⟩
        go_wp2_with fail
        refine (H1.out _ (HK.out.below nb1) (H.out.below nb1)).mono ?_
        rintro e w2 ⟨rfl, nb2⟩
        go_wp2_with fail
        refine (H2.out none _ (HK.out.below (nb1.tr nb2)) (by simpa using Bs.nil _)).mono ?_
        rintro e w3 ⟨rfl, nb3⟩
        go_wp2_with fail
        refine (H3.out none 0 _ (HK.out.below ((nb1.tr nb2).tr nb3)) (by simpa using Bs.nil _)).mono ?_
        rintro e w4 ⟨rfl, nb4⟩
        have nb14 := ((nb1.tr nb2).tr nb3).tr nb4
        go_wp2_with fail
        refine (H4.out _ (HK.out.below nb14)).mono ?_
        rintro e w5 ⟨rfl, nb5⟩
        go_wp2_with fail
        refine (size_any a0 _ (HK.out.below (nb14.tr nb5))).mono ?_
        rintro e w6 ⟨rfl, nb6⟩
        have R1 := R0.out
        go_wp2
        go_ret
        exact ⟨rfl, (nb14.tr nb5).tr nb6⟩
      | some x =>
        have hx : l1 = [] ∨ ∃ b o, x = ⟨b, o, none⟩ := by
          cases l1 with
          | nil => exact .inl rfl
          | cons y l => exact .inr (by obtain ⟨b, o, e, _⟩ := H.out.hcells (by simp); exact ⟨b, o, by simpa using e⟩)
        have hcapm := H.out.hmax
        unfold maxLen at hcapm
        have B3 : ∀ w', Nb w w' → Bs w' (some (x.add k)) (cap1 - k) (l1.drop k) := fun w' hw => by
          rcases hx with rfl | ⟨b, o, rfl⟩
          · have := hcap
            exact ⟨by simp, by unfold maxLen; omega, by simp, by simp⟩
          · rw [Addr.add_lit]
            exact (H.out.tail k hkl).below hw
        have B3z : ∀ w' y, cap1 = k → Bs w' y 0 (l1.drop k) := fun w' y hck => by
          have : l1.drop k = [] := List.drop_of_length_le (by omega)
          rw [this]
          exact ⟨by simp, by unfold maxLen; omega, by simp, by simp⟩
        have B3z := Lib.hid B3z
        have B3 := Lib.hid B3
        clear hx
        go_enter Tryd.func5, Tryd.ntmps5
        go_wp2_with fail
        refine (alive2_any w HK.out).mono ?_
        rintro e w1 ⟨rfl, nb1⟩
        go_wp2_with fail
        refine (HG.out _ hL).mono ?_
        rintro e w2 ⟨rfl, rfl⟩
        go_wp2_with fail
        refine (H1.out _ (HK.out.below nb1) (H.out.below nb1)).mono ?_
        rintro e w2 ⟨rfl, nb2⟩
        go_wp2_with fail
        refine (H2.out (some x) _ (HK.out.below (nb1.tr nb2)) ((H.out.below (nb1.tr nb2)).head k)).mono ?_
        rintro e w3 ⟨rfl, nb3⟩
        go_wp2_with fail
        · have hck : cap1 = k := by assumption
          refine (H3.out (some x) 0 _ (HK.out.below ((nb1.tr nb2).tr nb3)) (B3z.out _ _ hck)).mono ?_
          rintro e w4 ⟨rfl, nb4⟩
          have nb14 := ((nb1.tr nb2).tr nb3).tr nb4
          go_wp2_with fail
          refine (H4.out _ (HK.out.below nb14)).mono ?_
          rintro e w5 ⟨rfl, nb5⟩
          go_wp2_with fail
          refine (size_any a0 _ (HK.out.below (nb14.tr nb5))).mono ?_
          rintro e w6 ⟨rfl, nb6⟩
          have R1 := R0.out
          go_wp2
          go_ret
          exact ⟨rfl, (nb14.tr nb5).tr nb6⟩
        · refine (H3.out (some (x.add k)) (cap1 - k) _ (HK.out.below ((nb1.tr nb2).tr nb3)) (B3.out _ ((nb1.tr nb2).tr nb3))).mono ?_
          rintro e w4 ⟨rfl, nb4⟩
          have nb14 := ((nb1.tr nb2).tr nb3).tr nb4
          go_wp2_with fail
          refine (H4.out _ (HK.out.below nb14)).mono ?_
          rintro e w5 ⟨rfl, nb5⟩
          go_wp2_with fail
          refine (size_any a0 _ (HK.out.below (nb14.tr nb5))).mono ?_
          rintro e w6 ⟨rfl, nb6⟩
          have R1 := R0.out
          go_wp2
          go_ret
          exact ⟨rfl, (nb14.tr nb5).tr nb6⟩

theorem door_met (os : Os) (args : Array Value) : laidMetH Tryd.prog Rows.crcGoesRow.laid ((World.doorLaid Tryd.prog 19 os).forCall (fun _ _ => 0) ⟨#[], args, []⟩).memory :=
  laidMetH_of_parts3 (fuel := 8) (laidMet_of_run' 8 (by kernel_rfl) (by kernel_rfl)) (by kernel_rfl) (by kernel_rfl)
set_option maxHeartbeats 2000000 in
set_option maxRecDepth 100000 in
theorem lifted (os : Os) (started : os.Started) (H : Type) (enc : TypeId × Value → H) :
    ReturnsInHanded {} Tryd.checked os 5 .any (fun w args => (Rows.crcGoesSpec.pre enc Tryd.prog Tryd.f5 [] false w args ∧ laidMetH Tryd.prog Rows.crcGoesRow.laid w) ∧ sizedMet enc Tryd.prog Tryd.f5 (OpenSpec.ofChange Rows.crcGoesSpec) false w args)
      (Rows.crcGoesSpec.post enc Tryd.prog Tryd.f5 false true false false) := by
  refine returnsInHanded_of_change_and (C := Tryd.checked) (X := fun w _ => laidMetH Tryd.prog Rows.crcGoesRow.laid w) (fun _ _ _ hh h => h.of_heap hh) own started (by kernel_rfl) Tryd.func5
    (ChangeSpec.witness_shaped (enc := enc) (C := Tryd.checked) (os := os) (X := fun w _ => laidMetH Tryd.prog Rows.crcGoesRow.laid w) false (World.doorLaid Tryd.prog 19 os) #[.int .i64 0, .slice none 0 0, .int .u16 0] 8 rfl (World.shaped_of_RefB (by kernel_rfl) (by kernel_rfl)) (by kernel_rfl) (by kernel_rfl) (by kernel_rfl) (door_met os _)) ?_
  intro W base args ds gs before hval0 hW _ hR hL _
  have hval : ∀ (j : Nat) t v, Tryd.f5.params[j]? = some t → args[j]? = some v → Value.okWide Tryd.prog W .any base t v := hval0
  have hW' := hW
  obtain ⟨p, q, hA0, hV, rfl, hfz, hnd⟩ := hW
  have hA : DataW.TrodAll enc Tryd.prog W 0 (fun _ => true) true Tryd.f5.params.toList args.toList ds p := hA0
  rw [Tryd.params5] at hA hval
  obtain ⟨v0, vs0, d0, ds0, p0, q0, hargs, rfl, rfl, h0, r0⟩ := trodAll_cons hA
  obtain ⟨v1, vs1, d1, ds1, p1, q1, rfl, rfl, rfl, h1, r1⟩ := trodAll_cons r0
  obtain ⟨v2, vs2, d2, ds2, p2, q2, rfl, rfl, rfl, h2, r2⟩ := trodAll_cons r1
  obtain ⟨rfl, rfl, rfl⟩ := trodAll_nil r2
  obtain rfl : args = #[v0, v1, v2] := by cases args; simp_all
  obtain ⟨rfl, rfl⟩ := trodVars_none hV
  have k0 := h0
  have lt0 : ∀ x ∈ p0, x.block < W.heap.size := by obtain ⟨m, hm⟩ := k0; exact DataW.trod_lt m _ _ _ hm
  have k1 := h1
  have lt1 : ∀ x ∈ p1, x.block < W.heap.size := by obtain ⟨m, hm⟩ := k1; exact DataW.trod_lt m _ _ _ hm
  have k2 := h2
  have lt2 : ∀ x ∈ p2, x.block < W.heap.size := by obtain ⟨m, hm⟩ := k2; exact DataW.trod_lt m _ _ _ hm
  clear hA0
  rw [Tryd.params5] at hR
  have hR0 : (DataW.weightsEach Tryd.prog ([3, 23, 38] ++ Rows.crcGoesSpec.plain.varTypes Tryd.prog) ([d0, d1, d2] ++ [])).all (· ≤ reachBytes) = true := hR
  simp only [List.cons_append, List.nil_append, DataW.weightsEach, List.append_nil, List.all_append, Bool.and_eq_true] at hR0
  obtain ⟨hR0, hR1, hR2, _⟩ := hR0
  obtain ⟨a0, rfl, rfl, rfl, w0⟩ := open_int Tryd.underlying3 (hval 0 3 v0 rfl rfl) h0
  obtain ⟨fu1, hf1⟩ := h1
  obtain ⟨a1, lc1, cap1, rfl⟩ := okWide_slice Tryd.underlying23 (hval 1 23 v1 rfl rfl)
  have hc1 : DataW.trod enc Tryd.prog W 0 (fun _ => true) true fu1 23 [.slice a1 lc1 cap1] = some (d1, p1) := hf1
  obtain ⟨l1, rfl, hb1, n1, rr1⟩ := bytes_of_slice hc1 hR1
  obtain ⟨a2, rfl, rfl, rfl, w2⟩ := open_int Tryd.underlying38 (hval 2 38 v2 rfl rfl) h2
  refine (walk W (kinds_of hL) a0 w0 a1 cap1 l1 hb1 n1 rr1 a2 w2).mono fun e W' ⟨he, bel⟩ => ?_
  subst he
  exact ⟨_, rfl, _, _, _, [], _, [], hW', trodAll_mk1 (shut_bool Tryd.underlying4 _), (trodAll_cons_mk (Below.trod laidOut (by kernel_rfl) (of_decide_eq_true (by kernel_rfl)) k0 bel lt0) (trodAll_cons_mk (Below.trod laidOut (by kernel_rfl) (of_decide_eq_true (by kernel_rfl)) k1 bel lt1) (trodAll_cons_mk (Below.trod laidOut (by kernel_rfl) (of_decide_eq_true (by kernel_rfl)) k2 bel lt2) trodAll_mk0))), rfl, bel.frame _, fun h => by cases h⟩

theorem over : Rows.crcGoesRow.holds Tryd.pinned (OpenSpec.ofChange Rows.crcGoesSpec) :=
  OpenClaim.holds_of_wide 5 Tryd.f5 rfl rfl rfl rfl rfl rfl rfl ⟨rfl, rfl, rfl, rfl, rfl⟩ rfl rfl rfl rfl rfl (by kernel_rfl) Tryd.func5 (by kernel_rfl)
    (of_decide_eq_true (by kernel_rfl)) (by unfold Func.isWrapper; first | (rw [if_pos (by decide +kernel)]; kernel_rfl) | (rw [if_neg (by decide +kernel)]; exact ⟨rfl, rfl⟩))
    (fun os started H enc _ => lifted os started H enc)

theorem plain (f : FuncId) (fn : Func) (hf : Tryd.pinned.checked.prog.funcNamed "omnibus/omnibuslaw02.CrcGoes" = some f) (hfn : Tryd.pinned.checked.prog.funcs[f]? = some fn) :
    false = Tryd.pinned.checked.prog.looks [] ∧ ∀ (j : Nat) t, fn.params[j]? = some t → Tryd.pinned.checked.prog.wantsStandIn t = false := by
  obtain rfl : f = 5 := Option.some.inj ((show Tryd.prog.funcNamed "omnibus/omnibuslaw02.CrcGoes" = some 5 by kernel_rfl).symm.trans hf) |>.symm
  obtain rfl : fn = Tryd.f5 := (Option.some.inj (Tryd.func5.symm.trans hfn)).symm
  refine ⟨by kernel_rfl, fun j t ht => ?_⟩
  rw [Tryd.params5] at ht
  have hm : t ∈ [3, 23, 38] := by have := Array.mem_of_getElem? ht; simp at this ⊢; omega
  have hall : ([3, 23, 38].all fun u => !Tryd.prog.wantsStandIn u) = true := by kernel_rfl
  exact (show Tryd.prog.wantsStandIn t = false by simpa using List.all_eq_true.1 hall t hm)
theorem proved : Rows.CrcGoesCardSaid :=
  Claim7.holds_tied_plain_at .later [] _ _ _ _ over (fun _ h => by cases h) (by kernel_rfl) (fun _ h => by cases h) crcGoes_row_tie rfl ⟨rfl, rfl⟩ (by kernel_rfl) rfl plain (by kernel_rfl)
#print axioms proved
end Go.Proofs.YtmfahnfmahahjaaDoor.crcGoes
