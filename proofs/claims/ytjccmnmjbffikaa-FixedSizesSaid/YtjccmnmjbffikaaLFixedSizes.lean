/- For every number, way and row the law FixedSizes answers true and leaves its arguments as they were. No conditions. -/
import Derived.Test.YtjccmnmjbffikaaRows
import Derived.Test.YtjccmnmjbffikaaFixA
import Derived.WalkKit
import Derived.ProofKit
import Derived.OpenShut
import Derived.ShutString
import Derived.ChangeOld
import Derived.Below
import Derived.Carry
import Derived.Lib.SmallJoins
namespace Go.Proofs.Ytjccmnmjbffikaa.fixedSizes
open Go.ChangeShapes Go.WideShapes Go.ChangeAt Go.RowKit Go.Joins
set_option linter.unusedVariables false
theorem own : ownKnob Try.prog.godebug = none := by kernel_rfl
theorem laidOut : laidOutB Try.prog = true := by kernel_rfl
theorem arr2 {α : Type} {cs : Array α} (h : cs.size = 2) : ∃ c0 c1, cs = #[c0, c1] := by
  obtain ⟨l⟩ := cs
  match l, h with
  | [c0, c1], _ => exact ⟨c0, c1, rfl⟩
set_option maxHeartbeats 4000000 in
set_option maxRecDepth 100000 in
theorem walk (w : World) (a0 : Int) (w0 : (Lit.int .i64 a0).wf = true) (a1_0 : Int) (w1_0 : (Lit.int .i64 a1_0).wf = true) (a1_1 : Bool) (a2 : Option Addr) (cap2 : Nat) (l2 : List Nat) (h2 : Bs w a2 cap2 l2) (n2 : a2 = none → cap2 = 0) :
    Calls Try.prog 4 #[.int .i64 a0, .agg #[.int .i64 a1_0, .bool a1_1], .slice a2 l2.length cap2] w fun e w' => e = .returned (.bool true) ∧ Nb w w' := by
  have hL := h2.len
  have H := Lib.hid h2
  clear h2 n2
  by_cases hbig : 3000 < l2.length
  · go_enter Try.func4, Try.ntmps4
    go_wp2_with fail
    refine (alive4_any _).mono ?_
    rintro e w1 ⟨rfl, hnb⟩
    go_wp2
    go_ret
    exact ⟨rfl, (Nb.rfl.al _).tr hnb⟩
  · have h1 := fun w => fxsize_u a0 a1_0 a1_1 w
    have h2 := fun w => refsize_u a0 a1_0 a1_1 w
    have h3 := fun w => tally_u a0 w w0
    have h4 := fun w => reftally_u a0 w
    have h5 := fun w hb => tells_u a2 cap2 l2 w hb
    have h6 := fun w hb => reftells_u a2 cap2 l2 w hb
    obtain ⟨Z, hZ⟩ : ∃ Z, Z = fzN a0 a1_0 a1_1 := ⟨_, rfl⟩
    obtain ⟨E1, hE1⟩ : ∃ Z, Z = fzE a0 a1_0 := ⟨_, rfl⟩
    obtain ⟨T, hT⟩ : ∃ Z, Z = tyL a0 := ⟨_, rfl⟩
    obtain ⟨E2, hE2⟩ : ∃ Z, Z = tyE a0 := ⟨_, rfl⟩
    obtain ⟨N, hN⟩ : ∃ Z, Z = tlN l2 := ⟨_, rfl⟩
    obtain ⟨E3, hE3⟩ : ∃ Z, Z = tlE l2 := ⟨_, rfl⟩
    rw [← hZ, ← hE1] at h1 h2
    rw [← hT, ← hE2] at h3 h4
    rw [← hN, ← hE3] at h5 h6
    have H1 := Lib.hid h1
    have H2 := Lib.hid h2
    have H3 := Lib.hid h3
    have H4 := Lib.hid h4
    have H5 := Lib.hid h5
    have H6 := Lib.hid h6
    have d1 : ((Z : Int) == (Z : Int)) = true := by simp
    have d2 : ((E1 : Int) == (E1 : Int)) = true := by simp
    have d3 : ((E2 : Int) == (E2 : Int)) = true := by simp
    have d4 : ((E3 : Int) == (E3 : Int)) = true := by simp
    have d5 : ((N : Int) == (N : Int)) = true := by simp
    have hmp : Blk (w.alloc (.cells #[.int .i64 a1_0, .bool a1_1] 24)) w.heap.size #[.int .i64 a1_0, .bool a1_1] _ := Blk.new w _ _
    have HM := Lib.hid hmp
    clear h1 h2 h3 h4 h5 h6 hZ hE1 hT hE2 hN hE3 hmp
    go_enter Try.func4, Try.ntmps4
    go_wp2_with fail
    refine (alive4_any _).mono ?_
    rintro e w1 ⟨rfl, n1⟩
    have hB := HM.out.nb n1
    have c0 : w1.cell? ⟨w.heap.size, 0, none⟩ = some (.int .i64 a1_0) := hB.cell 0
    have c1 : w1.cell? ⟨w.heap.size, 1, none⟩ = some (.bool a1_1) := hB.cell 1
    have m1 : Nb w w1 := (Nb.rfl.al _).tr n1
    go_wp2_with fail
    refine (H1.out _).mono ?_
    rintro e w2 ⟨rfl, n2⟩
    have hB2 := hB.nb n2
    have q0 : w2.cell? ⟨w.heap.size, 0, none⟩ = some (.int .i64 a1_0) := hB2.cell 0
    have q1 : w2.cell? ⟨w.heap.size, 1, none⟩ = some (.bool a1_1) := hB2.cell 1
    have m2 := m1.tr n2
    clear c0 c1 hB hB2
    go_wp2_with fail
    refine (H2.out _).mono ?_
    rintro e w3 ⟨rfl, n3⟩
    have m3 := m2.tr n3
    clear q0 q1
    go_wp2_with fail
    refine (H3.out _).mono ?_
    rintro e w4 ⟨⟨aA, cA, rfl, hfA⟩, n4⟩
    have FA := Lib.hid hfA
    have m4 := m3.tr n4
    clear hfA
    go_wp2_with fail
    refine (H4.out _).mono ?_
    rintro e w5 ⟨⟨aB, cB, rfl, hbB⟩, n5⟩
    have FB := Lib.hid hbB
    have m5 := m4.tr n5
    clear hbB
    go_wp2_with fail
    refine (H5.out _ (H.out.below m5)).mono ?_
    rintro e w6 ⟨rfl, n6⟩
    have m6 := m5.tr n6
    go_wp2_with fail
    refine (H6.out _ (H.out.below m6)).mono ?_
    rintro e w7 ⟨rfl, n7⟩
    have m7 := m6.tr n7
    go_wp2_with fail
    refine (same_any aA aB cA cB _ _ _ (FA.out.bs.1.below ((n5.tr n6).tr n7)) (FB.out.below (n6.tr n7))).mono ?_
    rintro e w8 ⟨rfl, n8⟩
    go_wp2
    go_ret
    exact ⟨rfl, m7.tr n8⟩

set_option maxHeartbeats 2000000 in
set_option maxRecDepth 100000 in
theorem lifted (os : Os) (started : os.Started) (H : Type) (enc : TypeId × Value → H) :
    ReturnsInHanded {} Try.checked os 4 .any (Rows.fixedSizesSpec.pre6 enc Try.prog Try.f4 Rows.fixedSizesRow.domain false) (Rows.fixedSizesSpec.post enc Try.prog Try.f4 false true false false) := by
  refine returnsInHanded_of_change (C := Try.checked) own started (by kernel_rfl) Try.func4
    (ChangeSpec.witness6 (enc := enc) (C := Try.checked) false ⟨#[], #[.int .i64 0, .agg #[.int .i64 0, .bool false], .slice none 0 0], []⟩ 8 (by kernel_rfl) (by kernel_rfl) (by kernel_rfl) (by kernel_rfl)) ?_
  intro W base args ds gs before hval0 hW hcnd _
  have hval : ∀ (j : Nat) t v, Try.f4.params[j]? = some t → args[j]? = some v → Value.okWide Try.prog W .any base t v := hval0
  have hW' := hW
  obtain ⟨p, q, hA0, hV, rfl, hfz, hnd⟩ := hW
  have hA : DataW.TrodAll enc Try.prog W 0 (fun _ => true) true Try.f4.params.toList args.toList ds p := hA0
  rw [Try.params4] at hA hval
  obtain ⟨v0, vs0, d0, ds0, p0, q0, hargs, rfl, rfl, h0, r0⟩ := trodAll_cons hA
  obtain ⟨v1, vs1, d1, ds1, p1, q1, rfl, rfl, rfl, h1, r1⟩ := trodAll_cons r0
  obtain ⟨v2, vs2, d2, ds2, p2, q2, rfl, rfl, rfl, h2, r2⟩ := trodAll_cons r1
  obtain ⟨rfl, rfl, rfl⟩ := trodAll_nil r2
  obtain rfl : args = #[v0, v1, v2] := by cases args; simp_all
  obtain ⟨rfl, rfl⟩ := trodVars_none hV
  have k0 := h0
  have lt0 : ∀ x ∈ p0, x.block < W.heap.size := by obtain ⟨m, hm⟩ := k0; exact DataW.trod_lt m _ _ _ hm
  have k1 := h1
  have lt1 : ∀ x ∈ p1, x.block < W.heap.size := by obtain ⟨m, hm⟩ := k1; exact DataW.trod_lt m _ _ _ hm
  have k2 := h2
  have lt2 : ∀ x ∈ p2, x.block < W.heap.size := by obtain ⟨m, hm⟩ := k2; exact DataW.trod_lt m _ _ _ hm
  clear hA0
  obtain ⟨a0, rfl, rfl, rfl, w0⟩ := open_int Try.underlying3 (hval 0 3 v0 rfl rfl) h0
  obtain ⟨cs1, rfl, hz1⟩ := okWide_struct Try.underlying24 (hval 1 24 v1 rfl rfl)
  obtain ⟨c1_0, c1_1, rfl⟩ := arr2 (hz1.trans (by kernel_rfl))
  obtain ⟨fu1, hf1⟩ := h1
  have hc1 : DataW.trod enc Try.prog W 0 (fun _ => true) true fu1 24 [c1_0, c1_1] = some (d1, p1) := hf1
  obtain ⟨m1_0, y1_0, g1_0⟩ := open_fld Try.underlying24 hc1 0 _ rfl
  have t1_0 : DataW.trod enc Try.prog W 0 (fun _ => true) true m1_0 3 (([c1_0, c1_1].drop 0).take (Try.prog.cellsOf 3)) = some y1_0 := g1_0
  rw [show Try.prog.cellsOf 3 = 1 from by kernel_rfl] at t1_0
  have u1_0 : DataW.trod enc Try.prog W 0 (fun _ => true) true m1_0 3 [c1_0] = some y1_0 := t1_0
  obtain ⟨m1_1, y1_1, g1_1⟩ := open_fld Try.underlying24 hc1 1 _ rfl
  have t1_1 : DataW.trod enc Try.prog W 0 (fun _ => true) true m1_1 4 (([c1_0, c1_1].drop 1).take (Try.prog.cellsOf 4)) = some y1_1 := g1_1
  rw [show Try.prog.cellsOf 4 = 1 from by kernel_rfl] at t1_1
  have u1_1 : DataW.trod enc Try.prog W 0 (fun _ => true) true m1_1 4 [c1_1] = some y1_1 := t1_1
  obtain ⟨a1_0, e1_0, x1_0, w1_0⟩ := DataW.trod_int Try.underlying3 u1_0
  obtain rfl : c1_0 = .int .i64 a1_0 := by simpa using e1_0
  obtain ⟨a1_1, e1_1, x1_1⟩ := DataW.trod_bool Try.underlying4 u1_1
  obtain rfl : c1_1 = .bool a1_1 := by simpa using e1_1
  obtain ⟨a2, lc2, cap2, rfl⟩ := okWide_slice Try.underlying22 (hval 2 22 v2 rfl rfl)
  obtain ⟨fu2, hf2⟩ := h2
  have hc2 : DataW.trod enc Try.prog W 0 (fun _ => true) true fu2 22 [.slice a2 lc2 cap2] = some (d2, p2) := hf2
  obtain ⟨b2, cb2, l2, e2, hb2, n2⟩ := bytes_open hc2
  simp only [Value.slice.injEq] at e2
  obtain ⟨rfl, rfl, rfl⟩ := e2
  refine (walk W a0 w0 a1_0 w1_0 a1_1 a2 cap2 l2 hb2 n2).mono fun e W' ⟨he, bel⟩ => ?_
  subst he
  exact ⟨_, rfl, _, _, _, [], _, [], hW', trodAll_mk1 (shut_bool Try.underlying4 _), (trodAll_cons_mk (Below.trod laidOut (by kernel_rfl) (of_decide_eq_true (by kernel_rfl)) k0 bel lt0) (trodAll_cons_mk (Below.trod laidOut (by kernel_rfl) (of_decide_eq_true (by kernel_rfl)) k1 bel lt1) (trodAll_cons_mk (Below.trod laidOut (by kernel_rfl) (of_decide_eq_true (by kernel_rfl)) k2 bel lt2) trodAll_mk0))), rfl, bel.frame _, fun h => by cases h⟩

theorem over : Rows.fixedSizesRow.holds Try.pinned (OpenSpec.ofChange Rows.fixedSizesSpec) :=
  OpenClaim.holds_of_wide 4 Try.f4 rfl rfl rfl rfl rfl rfl rfl ⟨rfl, rfl, rfl, rfl, rfl⟩ rfl rfl rfl rfl rfl (by kernel_rfl) Try.func4 (by kernel_rfl)
    (of_decide_eq_true (by kernel_rfl)) (by unfold Func.isWrapper; first | (rw [if_pos (by decide +kernel)]; kernel_rfl) | (rw [if_neg (by decide +kernel)]; exact ⟨rfl, rfl⟩))
    (fun os started H enc _ => lifted os started H enc)
theorem proved : Rows.FixedSizesSaid := over
#print axioms proved
end Go.Proofs.Ytjccmnmjbffikaa.fixedSizes
