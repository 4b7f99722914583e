/- For every number and place the law FixedTallies answers true and leaves its arguments as they were. No conditions. -/
import Derived.Test.YtjccmnmjbffikaaRows
import Derived.Test.YtjccmnmjbffikaaFixL
import Derived.WalkKit
import Derived.ProofKit
import Derived.OpenShut
import Derived.ShutString
import Derived.ChangeOld
import Derived.Below
import Derived.Carry
import Derived.Lib.SmallJoins
namespace Go.Proofs.Ytjccmnmjbffikaa.fixedTallies
open Go.ChangeShapes Go.WideShapes Go.ChangeAt Go.RowKit Go.Joins
set_option linter.unusedVariables false
theorem own : ownKnob Try.prog.godebug = none := by kernel_rfl
theorem laidOut : laidOutB Try.prog = true := by kernel_rfl
set_option maxHeartbeats 8000000 in
set_option maxRecDepth 100000 in
theorem walk (w : World) (a0 : Int) (w0 : (Lit.int .i64 a0).wf = true) (a1 : Int) (w1 : (Lit.int .u8 a1).wf = true) :
    Calls Try.prog 7 #[.int .i64 a0, .int .u8 a1] w fun e w' => e = .returned (.bool true) ∧ Nb w w' := by
  by_cases hneg : a0 < 0
  · clear w0
    go_enter Try.func7, Try.ntmps7
    go_wp2_with fail
    refine (alive4_any _).mono ?_
    rintro e w1 ⟨rfl, n1⟩
    go_wp2
    go_ret
    exact ⟨rfl, n1⟩
  by_cases hmx : a0 = 9223372036854775807
  · subst hmx
    go_enter Try.func7, Try.ntmps7
    go_wp2_with fail
    refine (alive4_any _).mono ?_
    rintro e w1 ⟨rfl, n1⟩
    go_wp2
    go_ret
    exact ⟨rfl, n1⟩
  obtain ⟨m, rfl⟩ := Int.eq_ofNat_of_zero_le (by omega : 0 ≤ a0)
  obtain ⟨t, rfl, ht⟩ := u8_of_wf w1
  have hmb : m + 1 ≤ 9223372036854775807 := by
    have : (m : Int) ≤ 9223372036854775807 := by
      simp [Lit.wf, IntKind.min, IntKind.max, IntKind.signed, IntKind.bits] at w0
      omega
    omega
  have hm1 : ((m : Int) == 9223372036854775807) = false := by rw [beq_eq_false_iff_ne]; omega
  have hm0 : decide ((m : Int) < 0) = false := by simp
  obtain ⟨X, hX⟩ : ∃ X, X = tallyL m := ⟨_, rfl⟩
  obtain ⟨Y, hY⟩ : ∃ Y, Y = tallyL (m + 1) := ⟨_, rfl⟩
  have hXl : X.length = 4 := by rw [hX]; exact tallyL_len m
  have hYl : Y.length = 4 := by rw [hY]; exact tallyL_len _
  have hXb : ∀ x ∈ X, x ≤ 1 := by rw [hX]; exact tallyL_bit m
  obtain ⟨r, hr⟩ : ∃ r, r = m % 8 := ⟨_, rfl⟩
  have hrm : Int.tmod (m : Int) 8 = (r : Int) := by rw [hr]; exact tmod_nat m 8
  have hrb : r < 8 := by omega
  have hre : (m : Int) % 8 = (r : Int) := by rw [hr]; push_cast; rfl
  obtain ⟨q, hq⟩ : ∃ q, q = t % 4 := ⟨_, rfl⟩
  have hq4 : q < 4 := by omega
  have hqm : Int.tmod (t : Int) 4 = (q : Int) := by rw [hq]; exact tmod_nat t 4
  have hqe : (t : Int) % 4 = (q : Int) := by rw [hq]; push_cast; rfl
  have h1 : ∀ w, Calls Try.prog 18 #[.int .i64 (m : Int)] w fun e w' => (∃ a c, e = .returned (.tuple #[.slice a 4 c, .int .i64 0]) ∧ Fresh w w' (.slice a 4 c) X) ∧ Nb w w' := fun w => by
    have h := tally_u (m : Int) w w0
    rw [show tyL (m : Int) = X from by rw [hX]; rw [tyL, if_neg (by omega), Int.toNat_natCast], show tyE (m : Int) = 0 from by rw [tyE, if_neg (by omega)]] at h
    simp only [AnsF, hXl] at h
    exact h
  have h2 : ∀ w, Calls Try.prog 18 #[.int .i64 ((m : Int) + 1)] w fun e w' => (∃ a c, e = .returned (.tuple #[.slice a 4 c, .int .i64 0]) ∧ Fresh w w' (.slice a 4 c) Y) ∧ Nb w w' := fun w => by
    have h := tally_u ((m : Int) + 1) w (by exact WalkArith.wf_i64 (by omega))
    rw [show tyL ((m : Int) + 1) = Y from by rw [hY, tyL, if_neg (by omega)]; rfl, show tyE ((m : Int) + 1) = 0 from by rw [tyE, if_neg (by omega)]] at h
    simp only [AnsF, hYl] at h
    exact h
  have h3 : ∀ a c w, Bs w a c X → Calls Try.prog 20 #[.slice a 4 c] w fun e w' => e = .returned (.tuple #[.int .i64 r, .int .i64 0]) ∧ Nb w w' := fun a c w hb => by
    have h := tells_u a c X w hb
    rw [show tlN X = r from by rw [hX, hr]; exact (tallyL_tells m).2, show tlE X = 0 from by rw [hX]; exact (tallyL_tells m).1, hXl] at h
    exact h
  obtain ⟨v, hv⟩ : ∃ v, v = X.getD q 0 := ⟨_, rfl⟩
  have hv1 : v ≤ 1 := by rw [hv]; exact hXb _ (by simp [List.getD, hXl, hq4])
  have h4 : ∀ a c w, Bs w a c (X.set q (v ^^^ 1)) → Calls Try.prog 20 #[.slice a 4 c] w fun e w' => (∃ N : Nat, e = .returned (.tuple #[.int .i64 N, .int .i64 6])) ∧ Nb w w' := fun a c w hb => by
    have h := tells_u a c _ w hb
    rw [List.length_set, hXl] at h
    rw [show tlE (X.set q (v ^^^ 1)) = 6 from by rw [hv, hX]; exact tally_turned m q hq4] at h
    exact h.mono fun e w' ⟨h1, h2⟩ => ⟨⟨_, h1⟩, h2⟩
  have hd4 : dif X Y 4 = 2 := by rw [hX, hY]; exact dif_tally m
  have hxv := xor1 v hv1
  have hx1 := xor1_le v hv1
  obtain ⟨u, hu⟩ : ∃ u, u = v ^^^ 1 := ⟨_, rfl⟩
  rw [← hu] at h4 hxv hx1
  have H1 := Lib.hid h1
  have H2 := Lib.hid h2
  have H3 := Lib.hid h3
  have H4 := Lib.hid h4
  have HD := Lib.hid hd4
  have HV := Lib.hid hv
  have HXL := Lib.hid hXl
  have HYL := Lib.hid hYl
  clear h1 h2 h3 h4 hd4 hv hXl hYl hX hY hr hq hu hXb w0 w1 hneg hmx
  go_enter Try.func7, Try.ntmps7
  go_wp2_with fail
  refine (alive4_any _).mono ?_
  rintro e w1 ⟨rfl, n1⟩
  go_wp2_with fail
  refine (H1.out _).mono ?_
  rintro e w2 ⟨⟨aA, cA, rfl, hfA⟩, n2⟩
  have FA := Lib.hid hfA
  have m2 := n1.tr n2
  clear hfA
  go_wp2_with fail
  refine (H2.out _).mono ?_
  rintro e w3 ⟨⟨aB, cB, rfl, hfB⟩, n3⟩
  have FB := Lib.hid hfB
  have m3 := m2.tr n3
  clear hfB
  go_wp2_with fail
  refine (H3.out _ _ _ (FA.out.1.asBs.1.below n3)).mono ?_
  rintro e w4 ⟨rfl, n4⟩
  have m4 := m3.tr n4
  have fA := FA.out.keep (n3.tr n4)
  have fB := FB.out.keep n4
  obtain ⟨g, cg, hva⟩ := fA.1.shape (by rw [HXL.out]; omega)
  obtain ⟨gB, cgB, hvb⟩ := fB.1.shape (by rw [HYL.out]; omega)
  simp only [Value.slice.injEq] at hva hvb
  obtain ⟨rfl, h4x, rfl⟩ := hva
  obtain ⟨rfl, h4y, rfl⟩ := hvb
  clear h4x h4y
  have hcA := fA.1.asBs.1.hcap
  have hcB := fB.1.asBs.1.hcap
  have hmA := fA.1.asBs.1.hmax
  have hmB := fB.1.asBs.1.hmax
  rw [HXL.out] at hcA
  rw [HYL.out] at hcB
  unfold maxLen at hmA hmB
  have hg : w.heap.size ≤ g := by have := fA.2 g rfl; have := n1.size; omega
  have A4 := Lib.hid fA.1
  have B4 := Lib.hid fB.1
  have dr : ((r : Int) != (r : Int)) = false := by simp
  clear fA fB FA FB n1 n2 n3 n4 m2 m3
  go_wp2
  go_loopw [11, 67] (fun d i wr => ∃ k : Nat, k ≤ 4 ∧ i = .int .i64 k ∧ d = .int .i64 (dif X Y k) ∧ Nb w4 wr) (fun _ i _ => 4 - (intOf i).toNat)
  case atStart => exact ⟨0, Nat.zero_le _, rfl, rfl, Nb.rfl⟩
  case round =>
    obtain ⟨k, hk, rfl, rfl, hnb⟩ := hrel
    have hdl := dif_le X Y k
    have hds := dif_succ X Y k
    have aR := A4.out.keep (F := fun _ => False) (Kp.ofNb hnb) (by simp)
    have bR := B4.out.keep (F := fun _ => False) (Kp.ofNb hnb) (by simp)
    by_cases hlt : k < 4
    · obtain ⟨x, hx⟩ : ∃ x, X.getD k 0 = x := ⟨_, rfl⟩
      obtain ⟨y, hy⟩ : ∃ y, Y.getD k 0 = y := ⟨_, rfl⟩
      have c1 := aR.cell k (by rw [HXL.out]; exact hlt)
      have c2 := bR.cell k (by rw [HYL.out]; exact hlt)
      rw [hx] at c1 hds
      rw [hy] at c2 hds
      have hki : (k : Int) < 4 := by omega
      have HDS := Lib.hid hds
      generalize dif X Y k = D at *
      clear aR bR hds hx hy
      by_cases hxy : x = y
      · have dxy : ((x : Int) != (y : Int)) = false := by rw [bne_eq_false_iff_eq]; omega
        have HXY := Lib.hid hxy
        clear hxy
        go_wp2
        go_quiet (fail)
        rename_i nq
        have hnb2 : Nb w4 (wr.drewN nq) := hnb.tr (Nb.drewN _ _)
        go_wp2
        go_roundw
        case rel => exact ⟨k + 1, by omega, by go_num, by rw [HDS.out, if_pos HXY.out]; go_num, hnb2⟩
        case measure => simp [intOf]; omega
      · have dxy : ((x : Int) != (y : Int)) = true := by rw [bne_iff_ne]; omega
        have HXY := Lib.hid hxy
        clear hxy
        go_wp2
        go_quiet (fail)
        rename_i nq
        have hnb2 : Nb w4 (wr.drewN nq) := hnb.tr (Nb.drewN _ _)
        go_wp2
        go_roundw
        case rel => exact ⟨k + 1, by omega, by go_num, by rw [HDS.out, if_neg HXY.out]; go_num, hnb2⟩
        case measure => simp [intOf]; omega
    · obtain rfl : k = 4 := by omega
      rw [HD.out]
      have c1 := aR.cell q (by rw [HXL.out]; exact hq4)
      rw [← HV.out] at c1
      have f1 := aR.frozen (g := g) rfl q
      have hset := aR.setByte (g := g) rfl q (by rw [HXL.out]; exact hq4) u (by omega)
      have HST := Lib.hid hset
      have hnbs : Nb w (wr.setCell ⟨g, q, none⟩ (.int .u8 u)) := (m4.tr hnb).st hg _
      have HNS := Lib.hid hnbs
      clear hset hnbs aR bR hdl hds
      go_wp2_with fail
      refine (H4.out _ _ _ HST.out.asBs.1).mono ?_
      rintro e w5 ⟨⟨N, rfl⟩, n5⟩
      go_wp2
      go_ret
      exact ⟨rfl, HNS.out.tr n5⟩

set_option maxHeartbeats 2000000 in
set_option maxRecDepth 100000 in
theorem lifted (os : Os) (started : os.Started) (H : Type) (enc : TypeId × Value → H) :
    ReturnsInHanded {} Try.checked os 7 .any (Rows.fixedTalliesSpec.pre6 enc Try.prog Try.f7 Rows.fixedTalliesRow.domain false) (Rows.fixedTalliesSpec.post enc Try.prog Try.f7 false true false false) := by
  refine returnsInHanded_of_change (C := Try.checked) own started (by kernel_rfl) Try.func7
    (ChangeSpec.witness6 (enc := enc) (C := Try.checked) false ⟨#[], #[.int .i64 0, .int .u8 0], []⟩ 8 (by kernel_rfl) (by kernel_rfl) (by kernel_rfl) (by kernel_rfl)) ?_
  intro W base args ds gs before hval0 hW hcnd _
  have hval : ∀ (j : Nat) t v, Try.f7.params[j]? = some t → args[j]? = some v → Value.okWide Try.prog W .any base t v := hval0
  have hW' := hW
  obtain ⟨p, q, hA0, hV, rfl, hfz, hnd⟩ := hW
  have hA : DataW.TrodAll enc Try.prog W 0 (fun _ => true) true Try.f7.params.toList args.toList ds p := hA0
  rw [Try.params7] at hA hval
  obtain ⟨v0, vs0, d0, ds0, p0, q0, hargs, rfl, rfl, h0, r0⟩ := trodAll_cons hA
  obtain ⟨v1, vs1, d1, ds1, p1, q1, rfl, rfl, rfl, h1, r1⟩ := trodAll_cons r0
  obtain ⟨rfl, rfl, rfl⟩ := trodAll_nil r1
  obtain rfl : args = #[v0, v1] := by cases args; simp_all
  obtain ⟨rfl, rfl⟩ := trodVars_none hV
  have k0 := h0
  have lt0 : ∀ x ∈ p0, x.block < W.heap.size := by obtain ⟨m, hm⟩ := k0; exact DataW.trod_lt m _ _ _ hm
  have k1 := h1
  have lt1 : ∀ x ∈ p1, x.block < W.heap.size := by obtain ⟨m, hm⟩ := k1; exact DataW.trod_lt m _ _ _ hm
  clear hA0
  obtain ⟨a0, rfl, rfl, rfl, w0⟩ := open_int Try.underlying3 (hval 0 3 v0 rfl rfl) h0
  obtain ⟨a1, rfl, rfl, rfl, w1⟩ := open_int Try.underlying5 (hval 1 5 v1 rfl rfl) h1
  refine (walk W a0 w0 a1 w1).mono fun e W' ⟨he, bel⟩ => ?_
  subst he
  exact ⟨_, rfl, _, _, _, [], _, [], hW', trodAll_mk1 (shut_bool Try.underlying4 _), (trodAll_cons_mk (Below.trod laidOut (by kernel_rfl) (of_decide_eq_true (by kernel_rfl)) k0 bel lt0) (trodAll_cons_mk (Below.trod laidOut (by kernel_rfl) (of_decide_eq_true (by kernel_rfl)) k1 bel lt1) trodAll_mk0)), rfl, bel.frame _, fun h => by cases h⟩

theorem over : Rows.fixedTalliesRow.holds Try.pinned (OpenSpec.ofChange Rows.fixedTalliesSpec) :=
  OpenClaim.holds_of_wide 7 Try.f7 rfl rfl rfl rfl rfl rfl rfl ⟨rfl, rfl, rfl, rfl, rfl⟩ rfl rfl rfl rfl rfl (by kernel_rfl) Try.func7 (by kernel_rfl)
    (of_decide_eq_true (by kernel_rfl)) (by unfold Func.isWrapper; first | (rw [if_pos (by decide +kernel)]; kernel_rfl) | (rw [if_neg (by decide +kernel)]; exact ⟨rfl, rfl⟩))
    (fun os started H enc _ => lifted os started H enc)
theorem proved : Rows.FixedTalliesSaid := over
#print axioms proved
end Go.Proofs.Ytjccmnmjbffikaa.fixedTallies
