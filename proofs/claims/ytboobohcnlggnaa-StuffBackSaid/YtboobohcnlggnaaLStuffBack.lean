/- For every two rows the law StuffBack answers true and leaves its arguments as they were. No conditions. -/
import Derived.Test.YtboobohcnlggnaaRows
import Derived.Test.YtboobohcnlggnaaStfL
import Derived.WalkKit
import Derived.ProofKit
import Derived.OpenShut
import Derived.ShutString
import Derived.ChangeOld
import Derived.Below
namespace Go.Proofs.Ytboobohcnlggnaa.stuffBack
open Go.ChangeShapes Go.WideShapes Go.ChangeAt Go.RowKit
open Go.ChangeMaps (open_string shut_string)
set_option linter.unusedVariables false

theorem own : ownKnob Try.prog.godebug = none := by kernel_rfl
theorem laidOut : laidOutB Try.prog = true := by kernel_rfl

/-- WHAT THE WALK IS TOLD OF A SLICE OF INTEGERS THAT CAME IN: it is nil; or it leads to a row of 'cap' cells, the numbers 'zs' (the first 'len' are its elements, the rest its spare room), each fitting its kind. -/
def IsRow (k : IntKind) (w : World) (a : Option Addr) (len cap : Nat) (zs : List Int) : Prop :=
  (a = none ∧ len = 0 ∧ cap = 0 ∧ zs = []) ∨
  ∃ x, a = some x ∧ len ≤ cap ∧ cap ≤ maxLen ∧ zs.length = cap ∧ (∀ i, i < zs.length → w.cell? (x.add i) = some (.int k (zs.getD i 0))) ∧ ∀ n ∈ zs, (Lit.int k n).wf = true

set_option maxHeartbeats 2000000 in
set_option maxRecDepth 100000 in
theorem walk (a0 : Option Addr) (len0 cap0 : Nat) (z0 : List Int) (a1 : Option Addr) (len1 cap1 : Nat) (z1 : List Int) (w : World) (w0 : IsRow .u8 w a0 len0 cap0 z0) (w1 : IsRow .u8 w a1 len1 cap1 z1) :
    Calls Try.prog 5 #[.slice a0 len0 cap0, .slice a1 len1 cap1] w fun e w' => e = .returned (.bool true) ∧ Below w.heap.size w w' := by
-- For every two rows the law StuffBack answers true and leaves its arguments as they were. No conditions.
  obtain ⟨l, rfl, h⟩ := Bs.ofRow w0
  obtain ⟨r, rfl, h'⟩ := Bs.ofRow w1
  have hL := h.len
  have hR := h'.len
  have H := Lib.hid h
  have H' := Lib.hid h'
  clear h h' w0 w1
  by_cases hbig : 3000 < l.length ∨ 3000 < r.length
  · by_cases hb1 : 3000 < l.length
    · go_enter Try.func5, Try.ntmps5
      go_wp2_with fail
      refine (alive3_any w).mono ?_
      rintro e w1 ⟨rfl, hnb⟩
      go_wp2
      go_ret
      exact ⟨rfl, hnb⟩
    · have hb2 : 3000 < r.length := by omega
      clear hbig
      go_enter Try.func5, Try.ntmps5
      go_wp2_with fail
      refine (alive3_any w).mono ?_
      rintro e w1 ⟨rfl, hnb⟩
      go_wp2
      go_ret
      exact ⟨rfl, hnb⟩
  · have hb1 : l.length ≤ 3000 := by omega
    have hb2 : r.length ≤ 3000 := by omega
    clear hbig
    obtain ⟨O2, hO2⟩ : ∃ O, O = sgL r := ⟨_, rfl⟩
    obtain ⟨E2, hE2⟩ : ∃ E, E = sgE r := ⟨_, rfl⟩
    have hg2 := fun w hb => sget_u a1 cap1 r w hb
    have herr : E2 ≠ 0 → O2 = [] := fun h => by rw [hO2]; rw [hE2] at h; exact sg_err h
    have hback : E2 = 0 → spL O2 = r ∧ spE O2 = 0 := fun h => by rw [hO2]; rw [hE2] at h; exact sg_back h
    rw [← hO2, ← hE2] at hg2
    have G2 := Lib.hid hg2
    have HErr := Lib.hid herr
    have HBack := Lib.hid hback
    clear hg2 herr hback hO2 hE2
    cases hc : chk l with
    | true =>
      obtain ⟨p1, p2, p3⟩ := sp_ok hc (by omega)
      obtain ⟨q1, q2, q3, q4⟩ := sg_put hc (by omega)
      have hl2 := putL_len2 l
      obtain ⟨X, hX⟩ : ∃ X, X = putL l := ⟨_, rfl⟩
      have h1 := fun w hb => sput_u a0 cap0 l w hb
      have h2 := fun a c w hb => sget_u a c (putL l) w hb
      have h3 := fun a c w hb => scount_u a c (putL l) w hb
      rw [p1, p2, ← hX] at h1
      rw [q1, q2, ← hX] at h2
      rw [q3, q4, ← hX] at h3
      rw [← hX] at hl2
      have hx1 := hl2.1
      have hx2 := hl2.2
      have hcnt : ((X.length - l.length : Nat) : Int) = (X.length : Int) - (l.length : Int) := by omega
      have hcnt2 : (((X.length - l.length : Nat) : Int) != (X.length : Int) - (l.length : Int)) = false := by rw [hcnt]; simp
      have H1 := Lib.hid h1
      have H2 := Lib.hid h2
      have H3 := Lib.hid h3
      clear hl2 hX h1 h2 h3 p1 p2 p3 q1 q2 q3 q4 hc hcnt
      go_enter Try.func5, Try.ntmps5
      go_wp2_with fail
      refine (alive3_any w).mono ?_
      rintro e w1 ⟨rfl, n1⟩
      go_wp2_with fail
      refine (H1.out _ (H.out.below n1)).mono ?_
      rintro e w2 ⟨⟨aA, cA, rfl, hfA⟩, n2⟩
      have FA := Lib.hid hfA
      clear hfA
      go_wp2_with fail
      refine (H2.out _ _ _ FA.out.bs.1).mono ?_
      rintro e w3 ⟨⟨aB, cB, rfl, hfB⟩, n3⟩
      have FB := Lib.hid hfB
      clear hfB
      go_wp2_with fail
      refine (H3.out _ _ _ (FA.out.bs.1.below n3)).mono ?_
      rintro e w4 ⟨rfl, n4⟩
      go_wp2_with fail
      refine (same_any aB a0 cB cap0 _ _ _ (FB.out.bs.1.below n4) (H.out.below (((n1.tr n2).tr n3).tr n4))).mono ?_
      rintro e w5 ⟨rfl, n5⟩
      have n14 := (((n1.tr n2).tr n3).tr n4).tr n5
      clear n1 n2 n3 n4 n5
      go_wp2_with fail
      refine (G2.out _ (H'.out.below n14)).mono ?_
      rintro e w7 ⟨⟨aD, cD, rfl, hfD⟩, n6⟩
      have FD := Lib.hid hfD
      clear hfD
      cases hz : decide (E2 = 0) with
      | false =>
        have hz' : E2 ≠ 0 := of_decide_eq_false hz
        have hO2 := HErr.out hz'
        subst hO2
        have hd2 : ((E2 : Int) != 0) = true := by rw [bne_iff_ne]; omega
        clear FD hz hz'
        go_wp2
        go_ret
        exact ⟨rfl, n14.tr n6⟩
      | true =>
        have hz' : E2 = 0 := of_decide_eq_true hz
        have hb := HBack.out hz'
        have hd2 : ((E2 : Int) != 0) = false := by rw [bne_eq_false_iff_eq]; omega
        have hp := fun w hb => sput_u aD cD O2 w hb
        rw [hb.1, hb.2] at hp
        have HP := Lib.hid hp
        clear hz hz' hb hp HErr HBack
        go_wp2_with fail
        refine (HP.out _ FD.out.bs.1).mono ?_
        rintro e w8 ⟨⟨aE, cE, rfl, hfE⟩, n7⟩
        have FE := Lib.hid hfE
        clear hfE
        go_wp2_with fail
        refine (same_any aE a1 cE cap1 _ _ _ FE.out.bs.1 (H'.out.below ((n14.tr n6).tr n7))).mono ?_
        rintro e w9 ⟨rfl, n8⟩
        go_wp2
        go_ret
        exact ⟨rfl, ((n14.tr n6).tr n7).tr n8⟩
    | false =>
      have h1 := fun w hb => sput_u a0 cap0 l w hb
      simp only [spL, spE, hc, Bool.false_eq_true, if_false] at h1
      have H1 := Lib.hid h1
      have HC := Lib.hid hc
      clear h1 hc
      go_enter Try.func5, Try.ntmps5
      go_wp2_with fail
      refine (alive3_any w).mono ?_
      rintro e w1 ⟨rfl, n1⟩
      go_wp2_with fail
      refine (H1.out _ (H.out.below n1)).mono ?_
      rintro e w2 ⟨⟨aA, cA, rfl, hfA⟩, n2⟩
      clear hfA
      go_wp2_with fail
      refine (check_bad a0 cap0 l _ (H.out.below (n1.tr n2)) HC.out).mono ?_
      rintro e w3 ⟨rfl, rfl⟩
      have n14 := n1.tr n2
      clear n1 n2
      go_wp2_with fail
      refine (G2.out _ (H'.out.below n14)).mono ?_
      rintro e w7 ⟨⟨aD, cD, rfl, hfD⟩, n6⟩
      have FD := Lib.hid hfD
      clear hfD
      cases hz : decide (E2 = 0) with
      | false =>
        have hz' : E2 ≠ 0 := of_decide_eq_false hz
        have hO2 := HErr.out hz'
        subst hO2
        have hd2 : ((E2 : Int) != 0) = true := by rw [bne_iff_ne]; omega
        clear FD hz hz'
        go_wp2
        go_ret
        exact ⟨rfl, n14.tr n6⟩
      | true =>
        have hz' : E2 = 0 := of_decide_eq_true hz
        have hb := HBack.out hz'
        have hd2 : ((E2 : Int) != 0) = false := by rw [bne_eq_false_iff_eq]; omega
        have hp := fun w hb => sput_u aD cD O2 w hb
        rw [hb.1, hb.2] at hp
        have HP := Lib.hid hp
        clear hz hz' hb hp HErr HBack
        go_wp2_with fail
        refine (HP.out _ FD.out.bs.1).mono ?_
        rintro e w8 ⟨⟨aE, cE, rfl, hfE⟩, n7⟩
        have FE := Lib.hid hfE
        clear hfE
        go_wp2_with fail
        refine (same_any aE a1 cE cap1 _ _ _ FE.out.bs.1 (H'.out.below ((n14.tr n6).tr n7))).mono ?_
        rintro e w9 ⟨rfl, n8⟩
        go_wp2
        go_ret
        exact ⟨rfl, ((n14.tr n6).tr n7).tr n8⟩

/-! ### THE ROW's STEP: WRITTEN OUT: LEAVE IT -/
set_option maxRecDepth 100000 in
theorem lifted (os : Os) (started : os.Started) (H : Type) (enc : TypeId × Value → H) :
    ReturnsInHanded {} Try.checked os 5 .any (Rows.stuffBackSpec.pre6 enc Try.prog Try.f5 Rows.stuffBackRow.domain false) (Rows.stuffBackSpec.post enc Try.prog Try.f5 false true false false) := by
  refine returnsInHanded_of_change (C := Try.checked) own started (by kernel_rfl) Try.func5
    (ChangeSpec.witness6 (enc := enc) (C := Try.checked) false ⟨#[], #[.slice none 0 0, .slice none 0 0], []⟩ 8 (by kernel_rfl) (by kernel_rfl) (by kernel_rfl) (by kernel_rfl)) ?_
  intro W base args ds gs before hval0 hW hcnd _
  have hval : ∀ (j : Nat) t v, Try.f5.params[j]? = some t → args[j]? = some v → Value.okWide Try.prog W .any base t v := hval0
  have hW' := hW
  obtain ⟨p, q, hA0, hV, rfl, hfz, hnd⟩ := hW
  have hA : DataW.TrodAll enc Try.prog W 0 (fun _ => true) true Try.f5.params.toList args.toList ds p := hA0
  rw [Try.params5] at hA hval
  obtain ⟨v0, vs0, d0, ds0, p0, q0, hargs, rfl, rfl, h0, r0⟩ := trodAll_cons hA
  obtain ⟨v1, vs1, d1, ds1, p1, q1, rfl, rfl, rfl, h1, r1⟩ := trodAll_cons r0
  obtain ⟨rfl, rfl, rfl⟩ := trodAll_nil r1
  obtain rfl : args = #[v0, v1] := by cases args; simp_all
  obtain ⟨rfl, rfl⟩ := trodVars_none hV
  obtain ⟨a0, len0, cap0, rfl⟩ := okWide_slice Try.underlying22 (hval 0 22 v0 rfl rfl)
  have k0 := h0
  have lt0 : ∀ x ∈ p0, x.block < W.heap.size := by obtain ⟨m, hm⟩ := k0; exact DataW.trod_lt m _ _ _ hm
  obtain ⟨z0, w0⟩ : ∃ zs, IsRow .u8 W a0 len0 cap0 zs := by
    obtain ⟨fuel, hf⟩ := h0
    rcases open_ints Try.underlying22 Try.underlying5 (by kernel_rfl) hf with ⟨hcs, _⟩ | ⟨x, l, c, zs, hcs, _, hl, hm, hz, _, hcell, hwz⟩
    · simp [Value.cells] at hcs
      obtain ⟨rfl, rfl, rfl⟩ := hcs
      exact ⟨[], .inl ⟨rfl, rfl, rfl, rfl⟩⟩
    · simp [Value.cells] at hcs
      obtain ⟨rfl, rfl, rfl⟩ := hcs
      exact ⟨zs, .inr ⟨_, rfl, hl, hm, by simpa using hz, hcell, hwz⟩⟩
  obtain ⟨a1, len1, cap1, rfl⟩ := okWide_slice Try.underlying22 (hval 1 22 v1 rfl rfl)
  have k1 := h1
  have lt1 : ∀ x ∈ p1, x.block < W.heap.size := by obtain ⟨m, hm⟩ := k1; exact DataW.trod_lt m _ _ _ hm
  obtain ⟨z1, w1⟩ : ∃ zs, IsRow .u8 W a1 len1 cap1 zs := by
    obtain ⟨fuel, hf⟩ := h1
    rcases open_ints Try.underlying22 Try.underlying5 (by kernel_rfl) hf with ⟨hcs, _⟩ | ⟨x, l, c, zs, hcs, _, hl, hm, hz, _, hcell, hwz⟩
    · simp [Value.cells] at hcs
      obtain ⟨rfl, rfl, rfl⟩ := hcs
      exact ⟨[], .inl ⟨rfl, rfl, rfl, rfl⟩⟩
    · simp [Value.cells] at hcs
      obtain ⟨rfl, rfl, rfl⟩ := hcs
      exact ⟨zs, .inr ⟨_, rfl, hl, hm, by simpa using hz, hcell, hwz⟩⟩
  clear hA0 hval0
  refine (walk a0 len0 cap0 z0 a1 len1 cap1 z1 W w0 w1).mono fun e W' ⟨he, bel⟩ => ?_
  subst he
  exact ⟨_, rfl, _, _, _, [], _, [], hW', trodAll_mk1 (shut_bool Try.underlying4 _), (trodAll_cons_mk (Below.trod laidOut (by kernel_rfl) (of_decide_eq_true (by kernel_rfl)) k0 bel lt0) (trodAll_cons_mk (Below.trod laidOut (by kernel_rfl) (of_decide_eq_true (by kernel_rfl)) k1 bel lt1) trodAll_mk0)), rfl, bel.frame _, fun h => by cases h⟩

theorem over : Rows.stuffBackRow.holds Try.pinned (OpenSpec.ofChange Rows.stuffBackSpec) :=
  OpenClaim.holds_of_wide 5 Try.f5 rfl rfl rfl rfl rfl rfl rfl ⟨rfl, rfl, rfl, rfl, rfl⟩ rfl rfl rfl rfl rfl (by kernel_rfl) Try.func5 (by kernel_rfl)
    (of_decide_eq_true (by kernel_rfl)) (by unfold Func.isWrapper; first | (rw [if_pos (by decide +kernel)]; kernel_rfl) | (rw [if_neg (by decide +kernel)]; exact ⟨rfl, rfl⟩))
    (fun os started H enc _ => lifted os started H enc)

/-- ████ THE STATEMENT ████ -/
theorem proved : Rows.StuffBackSaid := over
#print axioms proved
end Go.Proofs.Ytboobohcnlggnaa.stuffBack
