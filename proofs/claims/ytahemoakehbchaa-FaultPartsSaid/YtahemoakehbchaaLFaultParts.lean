/- For every state, all events and every place the law FaultParts answers true and leaves its arguments as they were. No conditions. -/
import Derived.Test.YtahemoakehbchaaRows
import Derived.Test.YtahemoakehbchaaFaA
import Derived.Test.YtahemoakehbchaaFaE
import Derived.Test.YtahemoakehbchaaFaP
import Derived.Test.YtahemoakehbchaaInI
import Derived.WalkKit
import Derived.ProofKit
import Derived.OpenShut
import Derived.ShutString
import Derived.ChangeOld
import Derived.Below
import Derived.Carry
import Derived.Lib.SmallJoins
import Derived.Deep.RegionWith
import Derived.Deep.RegionHeld3
namespace Go.Proofs.Ytahemoakehbchaa.faultParts
open Go.ChangeShapes Go.WideShapes Go.ChangeAt Go.RowKit Go.Joins
set_option linter.unusedVariables false
set_option linter.unusedSimpArgs false
theorem own : ownKnob Try.prog.godebug = none := by kernel_rfl
theorem laidOut : laidOutB Try.prog = true := by kernel_rfl
theorem arr3 {α : Type} {cs : Array α} (h : cs.size = 3) : ∃ c0 c1 c2, cs = #[c0, c1, c2] := by
  obtain ⟨l⟩ := cs
  match l, h with
  | [c0, c1, c2], _ => exact ⟨c0, c1, c2, rfl⟩
theorem s6 {w : World} {R : Nat} {u0 u1 u2 : Value} {t : TypeId} (h : Blk w R #[u0, u1, u2] t) : R < w.heap.size ∧ w.cell? ⟨R, 0, none⟩ = some u0 ∧ w.cell? ⟨R, 1, none⟩ = some u1 ∧ w.cell? ⟨R, 2, none⟩ = some u2 ∧ w.frozen? ⟨R, 0, none⟩ = false ∧ w.frozen? ⟨R, 1, none⟩ = false ∧ w.frozen? ⟨R, 2, none⟩ = false :=
  ⟨h.lt, h.cell 0, h.cell 1, h.cell 2, h.frozen 0, h.frozen 1, h.frozen 2⟩
set_option maxHeartbeats 2000000 in
set_option maxRecDepth 100000 in
theorem walk (w : World) (a0_0 : Int) (w0_0 : (Lit.int .i64 a0_0).wf = true) (a0_1 : Int) (w0_1 : (Lit.int .i64 a0_1).wf = true) (a0_2 : Bool) (a1 : Option Addr) (cap1 : Nat) (l1 : List Int) (h1 : Is w a1 cap1 l1) (n1 : a1 = none → cap1 = 0) (a2 : Int) (w2 : (Lit.int .u16 a2).wf = true) :
    Calls Try.prog 5 #[.agg #[.int .i64 a0_0, .int .i64 a0_1, .bool a0_2], .slice a1 l1.length cap1, .int .u16 a2] w fun e w' => e = .returned (.bool true) ∧ Nb w w' := by
  have hL := h1.len
  have hcap := h1.hcap
  have hmax := h1.hmax
  unfold maxLen at hmax
  have HL := Lib.hid h1
  have AL := Lib.hid (fun w' => alive11_any w')
  obtain ⟨y0, hy0⟩ : ∃ y0, y0 = w.alloc (.cells #[.int .i64 a0_0, .int .i64 a0_1, .bool a0_2] 23) := ⟨_, rfl⟩
  have B0 := Lib.hid (show Blk y0 w.heap.size #[.int .i64 a0_0, .int .i64 a0_1, .bool a0_2] 23 by rw [hy0]; exact Blk.new _ _ _)
  have NY := Lib.hid (show Nb w y0 by rw [hy0]; exact Nb.rfl.al _)
  have HY := Lib.hid hy0
  clear hy0 h1 n1
  by_cases hbig : 5000 < l1.length
  · have d0 : decide ((5000 : Int) < (l1.length : Int)) = true := decide_eq_true (by omega)
    clear hbig
    go_enter Try.func5, Try.ntmps5
    go_wp2_with fail
    rw [← HY.out]
    refine (AL.out _).mono ?_
    rintro e z1 ⟨rfl, q1⟩
    have M1 := Lib.hid (NY.out.tr q1)
    clear q1
    go_wp2
    go_ret
    exact ⟨rfl, M1.out⟩
  have d0 : decide ((5000 : Int) < (l1.length : Int)) = false := decide_eq_false (by omega)
  have hle : l1.length ≤ 5000 := by omega
  obtain ⟨n, hn⟩ : ∃ n : Nat, a2 = n := ⟨a2.toNat, by simp [Lit.wf, IntKind.min, IntKind.max, IntKind.signed, IntKind.bits] at w2; omega⟩
  subst hn
  have hnb : n ≤ 65535 := by simp [Lit.wf, IntKind.min, IntKind.max, IntKind.signed, IntKind.bits] at w2; omega
  obtain ⟨k, hk⟩ : ∃ k, k = n % (l1.length + 1) := ⟨_, rfl⟩
  have hkl : k ≤ l1.length := by have := Nat.mod_lt n (show 0 < l1.length + 1 by omega); omega
  have k1 := fun w' (m : Nb w w') => fafter11_any ⟨a0_0, a0_1, a0_2⟩ a1 cap1 l1 w' (HL.out.below m)
  have hll : (l1.take k).length = k := by rw [List.length_take]; omega
  have hdl : (l1.drop k).length = l1.length - k := by rw [List.length_drop]
  have k2 := fun w' (m : Nb w w') => fafter11_any ⟨a0_0, a0_1, a0_2⟩ a1 cap1 (l1.take k) w' ((HL.out.head k).below m)
  have k3 := fun w' (m : Nb w w') => fafter11_any (afFa ⟨a0_0, a0_1, a0_2⟩ (l1.take k)) (cutA a1 cap1 k) (cap1 - k) (l1.drop k) w' ((HL.out.cutL k hkl).below m)
  rw [hll] at k2
  rw [hdl] at k3
  have hcase : (afE ⟨a0_0, a0_1, a0_2⟩ (l1.take k) = 0 ∧ afFa (afFa ⟨a0_0, a0_1, a0_2⟩ (l1.take k)) (l1.drop k) = afFa ⟨a0_0, a0_1, a0_2⟩ l1 ∧ afE (afFa ⟨a0_0, a0_1, a0_2⟩ (l1.take k)) (l1.drop k) = afE ⟨a0_0, a0_1, a0_2⟩ l1) ∨ (afE ⟨a0_0, a0_1, a0_2⟩ (l1.take k) = 2 ∧ afE ⟨a0_0, a0_1, a0_2⟩ l1 = 2) := by
    by_cases h0 : afE ⟨a0_0, a0_1, a0_2⟩ (l1.take k) = 0
    · have := afE_parts (m := l1.drop k) h0
      rw [List.take_append_drop] at this
      exact .inl ⟨h0, this⟩
    · have := afE_bad (m := l1.drop k) h0
      rw [List.take_append_drop] at this
      exact .inr this
  generalize afFa (afFa ⟨a0_0, a0_1, a0_2⟩ (l1.take k)) (l1.drop k) = Y3 at *
  generalize afE (afFa ⟨a0_0, a0_1, a0_2⟩ (l1.take k)) (l1.drop k) = E3 at *
  generalize afFa ⟨a0_0, a0_1, a0_2⟩ (l1.take k) = Y2 at *
  generalize afE ⟨a0_0, a0_1, a0_2⟩ (l1.take k) = E2 at *
  generalize afFa ⟨a0_0, a0_1, a0_2⟩ l1 = Y at *
  generalize afE ⟨a0_0, a0_1, a0_2⟩ l1 = E at *
  obtain ⟨T, R, O⟩ := Y
  obtain ⟨T2, R2, O2⟩ := Y2
  obtain ⟨T3, R3, O3⟩ := Y3
  simp only [Fa.cs] at k1 k2 k3
  have K1 := Lib.hid k1
  have K2 := Lib.hid k2
  have K3 := Lib.hid k3
  have heq := run_eqS
  have hcut := run_cutHI a1 l1.length cap1 k (by omega)
  have hcut2 := run_cutLI a1 l1.length cap1 k hkl
  clear k1 k2 k3 hll hdl hbig
  have hrem : (n : Int) % ((l1.length : Int) + 1) = (k : Int) := by
    rw [hk]
    rfl
  go_enter Try.func5, Try.ntmps5
  go_wp2_with fail
  rw [← HY.out]
  refine (AL.out _).mono ?_
  rintro e z1 ⟨rfl, q1⟩
  have B1 := Lib.hid (B0.out.nb q1)
  have M1 := Lib.hid (NY.out.tr q1)
  clear q1
  have c0 : z1.cell? ⟨w.heap.size, 0, none⟩ = some (.int .i64 a0_0) := (B1.out).cell 0
  have c1 : z1.cell? ⟨w.heap.size, 1, none⟩ = some (.int .i64 a0_1) := (B1.out).cell 1
  have c2 : z1.cell? ⟨w.heap.size, 2, none⟩ = some (.bool a0_2) := (B1.out).cell 2
  go_wp2_with fail
  refine (K1.out _ M1.out).mono ?_
  rintro e z2 ⟨rfl, q2⟩
  have B2 := Lib.hid (B1.out.nb q2)
  have M2 := Lib.hid (M1.out.tr q2)
  clear q2 c0 c1 c2
  obtain ⟨z3, hz3⟩ : ∃ z3, z3 = z2.alloc (.cells #[.int .i64 T, .int .i64 R, .bool O] 25) := ⟨_, rfl⟩
  have BX3 := Lib.hid (show Blk z3 z2.heap.size #[.int .i64 T, .int .i64 R, .bool O] 25 by rw [hz3]; exact Blk.new _ _ _)
  have B3 := Lib.hid (show Blk z3 w.heap.size #[.int .i64 a0_0, .int .i64 a0_1, .bool a0_2] 23 by rw [hz3]; exact B2.out.nb (Nb.rfl.al _))
  have M3 := Lib.hid (show Nb w z3 by rw [hz3]; exact Nb.al M2.out _)
  have HZ3 := Lib.hid hz3
  clear hz3
  go_wp2_with fail
  rw [← HZ3.out]
  have c0 : z3.cell? ⟨w.heap.size, 0, none⟩ = some (.int .i64 a0_0) := (B3.out).cell 0
  have c1 : z3.cell? ⟨w.heap.size, 1, none⟩ = some (.int .i64 a0_1) := (B3.out).cell 1
  have c2 : z3.cell? ⟨w.heap.size, 2, none⟩ = some (.bool a0_2) := (B3.out).cell 2
  clear hk
  have hw3 : w.heap.size < z3.heap.size := B3.out.lt
  rcases hcase with ⟨rfl, hy3, rfl⟩ | ⟨rfl, rfl⟩
  rotate_left
  · go_region_with ((go_at_call 15; refine (K2.out _ (by first | exact M3.out.tr (Below.drew (Below.refl _ _)) | exact M3.out.tr (Nb.al (Below.drew (Below.refl _ _)) _))).mono ?_; rintro e z4 ⟨rfl, q4⟩; first | (have xb : Blk z4 z3.heap.size #[.int .i64 0, .int .i64 0, .bool false] 25 := (by exact ((Blk.new z3 #[.int .i64 0, .int .i64 0, .bool false] 25).nb (Below.drew (Below.refl _ _))).nb q4); obtain ⟨xl, x0, x1, x2, g0, g1, g2⟩ := s6 xb; have XB := Lib.hid xb; clear xb) | skip))
    all_goals go_wp2
    all_goals go_ret
    all_goals refine ⟨rfl, ?_⟩
    · exact Nb.al (M3.out.tr (Nb.tr (Below.drew (Below.refl _ _) : Nb z3 z3.drew) q4)) _
    all_goals exact p3_nb (w := w) (b := z3.heap.size) (M3.out.tr (Nb.tr (Nb.al (Below.drew (Below.refl _ _) : Nb z3 z3.drew) _) q4)) M3.out.size _ _ _
  simp only [Fa.mk.injEq] at hy3
  obtain ⟨rfl, rfl, rfl⟩ := hy3
  go_region_with ((go_at_call 15; refine (K2.out _ (by first | exact M3.out.tr (Below.drew (Below.refl _ _)) | exact M3.out.tr (Nb.al (Below.drew (Below.refl _ _)) _))).mono ?_; rintro e z4 ⟨rfl, q4⟩; first | (have xb : Blk z4 z3.heap.size #[.int .i64 0, .int .i64 0, .bool false] 25 := (by exact ((Blk.new z3 #[.int .i64 0, .int .i64 0, .bool false] 25).nb (Below.drew (Below.refl _ _))).nb q4); obtain ⟨xl, x0, x1, x2, g0, g1, g2⟩ := s6 xb; have XB := Lib.hid xb; clear xb) | skip))
  all_goals go_wp2_with fail
  · obtain ⟨u, hu⟩ : ∃ u, u = z4.alloc (.cells #[.int .i64 T2, .int .i64 R2, .bool O2] 25) := ⟨_, rfl⟩
    have nzu : Nb z3 u := by rw [hu]; exact Nb.al (Nb.tr (Below.drew (Below.refl _ _) : Nb z3 z3.drew) q4) _
    have BA := Lib.hid (show Blk u z4.heap.size #[.int .i64 T2, .int .i64 R2, .bool O2] 25 by rw [hu]; exact Blk.new _ _ _)
    have BXU := Lib.hid (BX3.out.nb nzu)
    have MU := Lib.hid (M3.out.tr nzu)
    change Code.wp _ _ _ _ (z4.alloc (.cells #[.int .i64 T2, .int .i64 R2, .bool O2] 25))
    rw [← hu]
    clear hu nzu q4
    obtain ⟨al, a0, a1', a2', _, _, _⟩ := s6 BA.out
    have bl := BXU.out.lt
    go_region_with ((go_at_call 15; refine (K3.out _ (by first | exact MU.out.tr (Below.drew (Below.refl _ _)) | exact MU.out.tr (Nb.al (Below.drew (Below.refl _ _)) _))).mono ?_; rintro e v4 ⟨rfl, r4⟩; have NU : Nb u v4 := (by first | exact Nb.tr (Below.drew (Below.refl _ _) : Nb u u.drew) r4 | exact Nb.tr (Nb.al (Below.drew (Below.refl _ _) : Nb u u.drew) _) r4); obtain ⟨tl, t0, t1, t2, _, _, _⟩ := s6 (BXU.out.nb NU); have NUH := Lib.hid NU; first | (have xb : Blk v4 u.heap.size #[.int .i64 0, .int .i64 0, .bool false] 25 := (by exact ((Blk.new u #[.int .i64 0, .int .i64 0, .bool false] 25).nb (Below.drew (Below.refl _ _))).nb r4); obtain ⟨xl, x0, x1, x2, g0, g1, g2⟩ := s6 xb; clear xb) | skip; clear NU r4))
    all_goals go_wp2
    all_goals go_ret
    all_goals refine ⟨by simp, ?_⟩
    · exact Nb.al (MU.out.tr NUH.out) _
    all_goals exact p3_nb (w := w) (b := u.heap.size) (MU.out.tr NUH.out) MU.out.size _ _ _
  · obtain ⟨u, hu⟩ : ∃ u, u = p3 z4 z3.heap.size (.int .i64 T2) (.int .i64 R2) (.bool O2) := ⟨_, rfl⟩
    have nzu : Nb z3 u := by rw [hu]; exact p3_nb (Nb.tr (Nb.al (Below.drew (Below.refl _ _) : Nb z3 z3.drew) _) q4) (Nat.le_refl _) _ _ _
    have BA := Lib.hid (show Blk u z3.heap.size #[.int .i64 T2, .int .i64 R2, .bool O2] 25 by rw [hu]; exact p3_blk _ _ _ XB.out)
    have BXU := Lib.hid (BX3.out.nb nzu)
    have MU := Lib.hid (M3.out.tr nzu)
    change Code.wp _ _ _ _ (p3 z4 z3.heap.size (.int .i64 T2) (.int .i64 R2) (.bool O2))
    rw [← hu]
    clear hu nzu q4 xl x0 x1 x2 g0 g1 g2 XB
    obtain ⟨al, a0, a1', a2', _, _, _⟩ := s6 BA.out
    have bl := BXU.out.lt
    go_region_with ((go_at_call 15; refine (K3.out _ (by first | exact MU.out.tr (Below.drew (Below.refl _ _)) | exact MU.out.tr (Nb.al (Below.drew (Below.refl _ _)) _))).mono ?_; rintro e v4 ⟨rfl, r4⟩; have NU : Nb u v4 := (by first | exact Nb.tr (Below.drew (Below.refl _ _) : Nb u u.drew) r4 | exact Nb.tr (Nb.al (Below.drew (Below.refl _ _) : Nb u u.drew) _) r4); obtain ⟨tl, t0, t1, t2, _, _, _⟩ := s6 (BXU.out.nb NU); have NUH := Lib.hid NU; first | (have xb : Blk v4 u.heap.size #[.int .i64 0, .int .i64 0, .bool false] 25 := (by exact ((Blk.new u #[.int .i64 0, .int .i64 0, .bool false] 25).nb (Below.drew (Below.refl _ _))).nb r4); obtain ⟨xl, x0, x1, x2, g0, g1, g2⟩ := s6 xb; clear xb) | skip; clear NU r4))
    all_goals go_wp2
    all_goals go_ret
    all_goals refine ⟨by simp, ?_⟩
    · exact Nb.al (MU.out.tr NUH.out) _
    all_goals exact p3_nb (w := w) (b := u.heap.size) (MU.out.tr NUH.out) MU.out.size _ _ _
  · obtain ⟨u, hu⟩ : ∃ u, u = p3 z4 z3.heap.size (.int .i64 T2) (.int .i64 R2) (.bool O2) := ⟨_, rfl⟩
    have nzu : Nb z3 u := by rw [hu]; exact p3_nb (Nb.tr (Nb.al (Below.drew (Below.refl _ _) : Nb z3 z3.drew) _) q4) (Nat.le_refl _) _ _ _
    have BA := Lib.hid (show Blk u z3.heap.size #[.int .i64 T2, .int .i64 R2, .bool O2] 25 by rw [hu]; exact p3_blk _ _ _ XB.out)
    have BXU := Lib.hid (BX3.out.nb nzu)
    have MU := Lib.hid (M3.out.tr nzu)
    change Code.wp _ _ _ _ (p3 z4 z3.heap.size (.int .i64 T2) (.int .i64 R2) (.bool O2))
    rw [← hu]
    clear hu nzu q4 xl x0 x1 x2 g0 g1 g2 XB
    obtain ⟨al, a0, a1', a2', _, _, _⟩ := s6 BA.out
    have bl := BXU.out.lt
    go_region_with ((go_at_call 15; refine (K3.out _ (by first | exact MU.out.tr (Below.drew (Below.refl _ _)) | exact MU.out.tr (Nb.al (Below.drew (Below.refl _ _)) _))).mono ?_; rintro e v4 ⟨rfl, r4⟩; have NU : Nb u v4 := (by first | exact Nb.tr (Below.drew (Below.refl _ _) : Nb u u.drew) r4 | exact Nb.tr (Nb.al (Below.drew (Below.refl _ _) : Nb u u.drew) _) r4); obtain ⟨tl, t0, t1, t2, _, _, _⟩ := s6 (BXU.out.nb NU); have NUH := Lib.hid NU; first | (have xb : Blk v4 u.heap.size #[.int .i64 0, .int .i64 0, .bool false] 25 := (by exact ((Blk.new u #[.int .i64 0, .int .i64 0, .bool false] 25).nb (Below.drew (Below.refl _ _))).nb r4); obtain ⟨xl, x0, x1, x2, g0, g1, g2⟩ := s6 xb; clear xb) | skip; clear NU r4))
    all_goals go_wp2
    all_goals go_ret
    all_goals refine ⟨by simp, ?_⟩
    · exact Nb.al (MU.out.tr NUH.out) _
    all_goals exact p3_nb (w := w) (b := u.heap.size) (MU.out.tr NUH.out) MU.out.size _ _ _

set_option maxHeartbeats 2000000 in
set_option maxRecDepth 100000 in
theorem lifted (os : Os) (started : os.Started) (H : Type) (enc : TypeId × Value → H) :
    ReturnsInHanded {} Try.checked os 5 .any (Rows.faultPartsSpec.pre6 enc Try.prog Try.f5 Rows.faultPartsRow.domain false) (Rows.faultPartsSpec.post enc Try.prog Try.f5 false true false false) := by
  refine returnsInHanded_of_change (C := Try.checked) own started (by kernel_rfl) Try.func5
    (ChangeSpec.witness6 (enc := enc) (C := Try.checked) false ⟨#[], #[.agg #[.int .i64 0, .int .i64 0, .bool false], .slice none 0 0, .int .u16 0], []⟩ 8 (by kernel_rfl) (by kernel_rfl) (by kernel_rfl) (by kernel_rfl)) ?_
  intro W base args ds gs before hval0 hW hcnd _
  have hval : ∀ (j : Nat) t v, Try.f5.params[j]? = some t → args[j]? = some v → Value.okWide Try.prog W .any base t v := hval0
  have hW' := hW
  obtain ⟨p, q, hA0, hV, rfl, hfz, hnd⟩ := hW
  have hA : DataW.TrodAll enc Try.prog W 0 (fun _ => true) true Try.f5.params.toList args.toList ds p := hA0
  rw [Try.params5] at hA hval
  obtain ⟨v0, vs0, d0, ds0, p0, q0, hargs, rfl, rfl, h0, r0⟩ := trodAll_cons hA
  obtain ⟨v1, vs1, d1, ds1, p1, q1, rfl, rfl, rfl, h1, r1⟩ := trodAll_cons r0
  obtain ⟨v2, vs2, d2, ds2, p2, q2, rfl, rfl, rfl, h2, r2⟩ := trodAll_cons r1
  obtain ⟨rfl, rfl, rfl⟩ := trodAll_nil r2
  obtain rfl : args = #[v0, v1, v2] := by cases args; simp_all
  obtain ⟨rfl, rfl⟩ := trodVars_none hV
  have k0 := h0
  have lt0 : ∀ x ∈ p0, x.block < W.heap.size := by obtain ⟨m, hm⟩ := k0; exact DataW.trod_lt m _ _ _ hm
  have k1 := h1
  have lt1 : ∀ x ∈ p1, x.block < W.heap.size := by obtain ⟨m, hm⟩ := k1; exact DataW.trod_lt m _ _ _ hm
  have k2 := h2
  have lt2 : ∀ x ∈ p2, x.block < W.heap.size := by obtain ⟨m, hm⟩ := k2; exact DataW.trod_lt m _ _ _ hm
  clear hA0
  obtain ⟨cs0, rfl, hz0⟩ := okWide_struct Try.underlying23 (hval 0 23 v0 rfl rfl)
  obtain ⟨c0_0, c0_1, c0_2, rfl⟩ := arr3 (hz0.trans (by kernel_rfl))
  obtain ⟨fu0, hf0⟩ := h0
  have hc0 : DataW.trod enc Try.prog W 0 (fun _ => true) true fu0 23 [c0_0, c0_1, c0_2] = some (d0, p0) := hf0
  obtain ⟨m0_0, y0_0, g0_0⟩ := open_fld Try.underlying23 hc0 0 _ rfl
  have t0_0 : DataW.trod enc Try.prog W 0 (fun _ => true) true m0_0 3 (([c0_0, c0_1, c0_2].drop 0).take (Try.prog.cellsOf 3)) = some y0_0 := g0_0
  rw [show Try.prog.cellsOf 3 = 1 from by kernel_rfl] at t0_0
  have u0_0 : DataW.trod enc Try.prog W 0 (fun _ => true) true m0_0 3 [c0_0] = some y0_0 := t0_0
  obtain ⟨m0_1, y0_1, g0_1⟩ := open_fld Try.underlying23 hc0 1 _ rfl
  have t0_1 : DataW.trod enc Try.prog W 0 (fun _ => true) true m0_1 3 (([c0_0, c0_1, c0_2].drop 1).take (Try.prog.cellsOf 3)) = some y0_1 := g0_1
  rw [show Try.prog.cellsOf 3 = 1 from by kernel_rfl] at t0_1
  have u0_1 : DataW.trod enc Try.prog W 0 (fun _ => true) true m0_1 3 [c0_1] = some y0_1 := t0_1
  obtain ⟨m0_2, y0_2, g0_2⟩ := open_fld Try.underlying23 hc0 2 _ rfl
  have t0_2 : DataW.trod enc Try.prog W 0 (fun _ => true) true m0_2 4 (([c0_0, c0_1, c0_2].drop 2).take (Try.prog.cellsOf 4)) = some y0_2 := g0_2
  rw [show Try.prog.cellsOf 4 = 1 from by kernel_rfl] at t0_2
  have u0_2 : DataW.trod enc Try.prog W 0 (fun _ => true) true m0_2 4 [c0_2] = some y0_2 := t0_2
  obtain ⟨a0_0, e0_0, x0_0, w0_0⟩ := DataW.trod_int Try.underlying3 u0_0
  obtain rfl : c0_0 = .int .i64 a0_0 := by simpa using e0_0
  obtain ⟨a0_1, e0_1, x0_1, w0_1⟩ := DataW.trod_int Try.underlying3 u0_1
  obtain rfl : c0_1 = .int .i64 a0_1 := by simpa using e0_1
  obtain ⟨a0_2, e0_2, x0_2⟩ := DataW.trod_bool Try.underlying4 u0_2
  obtain rfl : c0_2 = .bool a0_2 := by simpa using e0_2
  obtain ⟨a1, lc1, cap1, rfl⟩ := okWide_slice Try.underlying37 (hval 1 37 v1 rfl rfl)
  obtain ⟨fu1, hf1⟩ := h1
  have hc1 : DataW.trod enc Try.prog W 0 (fun _ => true) true fu1 37 [.slice a1 lc1 cap1] = some (d1, p1) := hf1
  obtain ⟨b1, cb1, l1, e1, hb1, n1⟩ := ints_open hc1
  simp only [Value.slice.injEq] at e1
  obtain ⟨rfl, rfl, rfl⟩ := e1
  obtain ⟨a2, rfl, rfl, rfl, w2⟩ := open_int Try.underlying38 (hval 2 38 v2 rfl rfl) h2
  refine (walk W a0_0 w0_0 a0_1 w0_1 a0_2 a1 cap1 l1 hb1 n1 a2 w2).mono fun e W' ⟨he, bel⟩ => ?_
  subst he
  exact ⟨_, rfl, _, _, _, [], _, [], hW', trodAll_mk1 (shut_bool Try.underlying4 _), (trodAll_cons_mk (Below.trod laidOut (by kernel_rfl) (of_decide_eq_true (by kernel_rfl)) k0 bel lt0) (trodAll_cons_mk (Below.trod laidOut (by kernel_rfl) (of_decide_eq_true (by kernel_rfl)) k1 bel lt1) (trodAll_cons_mk (Below.trod laidOut (by kernel_rfl) (of_decide_eq_true (by kernel_rfl)) k2 bel lt2) trodAll_mk0))), rfl, bel.frame _, fun h => by cases h⟩

theorem over : Rows.faultPartsRow.holds Try.pinned (OpenSpec.ofChange Rows.faultPartsSpec) :=
  OpenClaim.holds_of_wide 5 Try.f5 rfl rfl rfl rfl rfl rfl rfl ⟨rfl, rfl, rfl, rfl, rfl⟩ rfl rfl rfl rfl rfl (by kernel_rfl) Try.func5 (by kernel_rfl)
    (of_decide_eq_true (by kernel_rfl)) (by unfold Func.isWrapper; first | (rw [if_pos (by decide +kernel)]; kernel_rfl) | (rw [if_neg (by decide +kernel)]; exact ⟨rfl, rfl⟩))
    (fun os started H enc _ => lifted os started H enc)
theorem proved : Rows.FaultPartsSaid := over
#print axioms proved
end Go.Proofs.Ytahemoakehbchaa.faultParts
