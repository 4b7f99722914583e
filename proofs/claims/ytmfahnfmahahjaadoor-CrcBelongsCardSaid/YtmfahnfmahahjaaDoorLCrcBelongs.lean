/- For every kind and every two rows of bytes the law CrcBelongs answers true and leaves its arguments as they were; the package's table of kinds is tied to the program's text. No conditions. -/
import Derived.Test.YtmfahnfmahahjaaDoorRows
import Derived.Test.YtmfahnfmahahjaaDoorCards
import Derived.Test.YtmfahnfmahahjaaDoorTie
import Derived.Test.YtmfahnfmahahjaaDoorCrcA
import Derived.Test.YtmfahnfmahahjaaDoorCrcB
import Derived.WalkKit
import Derived.ProofKit
import Derived.OpenShut
import Derived.ShutString
import Derived.ChangeOld
import Derived.Below
import Derived.Carry
import Derived.Lib.SmallJoins
import Derived.LaidMore
import Derived.LaidLaws
import Derived.Stop.Joined
import Derived.SevenTiedAt
namespace Go.Proofs.YtmfahnfmahahjaaDoor.crcBelongs
open Go.ChangeShapes Go.WideShapes Go.ChangeAt Go.RowKit Go.Joins
set_option linter.unusedVariables false
theorem own : ownKnob Tryd.prog.godebug = none := by kernel_rfl
theorem laidOut : laidOutB Tryd.prog = true := by kernel_rfl
theorem run_min3 (w : World) (ts : Array TypeId) (t : TypeId) (k k' k'' : IntKind) (x y z : Int) :
    (Builtin.min_ ts t #[.int k x, .int k' y, .int k'' z]).run Tryd.prog w = .ok (.int k (min (min x y) z)) w := by
  have e : (if y < x then y else x) = min x y := by
    rw [Int.min_def]
    split <;> split <;> omega
  have e2 : (if z < min x y then z else min x y) = min (min x y) z := by
    rw [Int.min_def (min x y) z]
    split <;> split <;> omega
  simp [Builtin.min_, Builtin.min2, e]
  by_cases h : y < x <;> simp [h, e2] <;> omega
set_option maxHeartbeats 4000000 in
set_option maxRecDepth 100000 in
theorem walk (w : World) (hK : Kinds w) (a0 : Int) (w0 : (Lit.int .i64 a0).wf = true) (a1 : Option Addr) (cap1 : Nat) (l1 : List Nat) (h1 : Bs w a1 cap1 l1) (n1 : a1 = none → cap1 = 0) (r1 : cap1 ≤ 140737488351232) (a2 : Option Addr) (cap2 : Nat) (l2 : List Nat) (h2 : Bs w a2 cap2 l2) (n2 : a2 = none → cap2 = 0) (r2 : cap2 ≤ 140737488351232) :
    Calls Tryd.prog 8 #[.int .i64 a0, .slice a1 l1.length cap1, .slice a2 l2.length cap2] w fun e w' => e = .returned (.bool true) ∧ Nb w w' := by
  have HA := Lib.hid h1
  have HB := Lib.hid h2
  have HK := Lib.hid hK
  have hLa := h1.len
  have hLb := h2.len
  have hca := h1.hcap
  have hcb := h2.hcap
  clear h1 h2 hK w0
  obtain ⟨N, hN⟩ : ∃ N, N = min (min l1.length l2.length) 2000 := ⟨_, rfl⟩
  have hN1 : N ≤ l1.length := by omega
  have hN2 : N ≤ l2.length := by omega
  have hN3 : N ≤ 2000 := by omega
  have hT1 : (l1.take N).length = N := by rw [List.length_take]; omega
  have hT2 : (l2.take N).length = N := by rw [List.length_take]; omega
  have hmin : ∀ ts t w, (Builtin.min_ ts t #[.int .i64 l1.length, .int .i64 l2.length, .int .i64 2000]).run Tryd.prog w = .ok (.int .i64 N) w := fun ts t w => by
    rw [run_min3, show min (min (l1.length : Int) (l2.length : Int)) 2000 = (N : Int) from by omega]
  clear hN
  go_enter Tryd.func8, Tryd.ntmps8
  go_wp2_with fail
  refine (alive2_any w HK.out).mono ?_
  rintro e w1 ⟨rfl, nb1⟩
  go_wp2_with fail
  refine (size_any a0 _ (HK.out.below nb1)).mono ?_
  rintro e w2 ⟨rfl, nb2⟩
  have nb12 := nb1.tr nb2
  by_cases hz : szK a0 = 0
  · have hd : ((szK a0 : Int) == 0) = true := by rw [beq_iff_eq]; omega
    go_wp2
    go_ret
    exact ⟨rfl, nb12⟩
  have hd : ((szK a0 : Int) == 0) = false := by rw [beq_eq_false_iff_ne]; omega
  have hk1 := check_u a1 cap1 (l1.take N) w2 ((HA.out.below nb12).head N)
  rw [hT1] at hk1
  go_wp2_with fail
  refine hk1.mono ?_
  clear hk1
  rintro e w3 ⟨rfl, rfl⟩
  cases hc1 : chk (l1.take N) with
  | false =>
    simp only [chkE, hc1, Bool.false_eq_true, if_false]
    go_wp2
    go_ret
    exact ⟨rfl, nb12⟩
  | true =>
    simp only [chkE, hc1, if_true]
    have hk2 := check_u a2 cap2 (l2.take N) w2 ((HB.out.below nb12).head N)
    rw [hT2] at hk2
    go_wp2_with fail
    refine hk2.mono ?_
    clear hk2
    rintro e w3 ⟨rfl, rfl⟩
    cases hc2 : chk (l2.take N) with
    | false =>
      simp only [chkE, hc2, Bool.false_eq_true, if_false]
      go_wp2
      go_ret
      exact ⟨rfl, nb12⟩
    | true =>
      simp only [chkE, hc2, if_true]
      have hm : ∀ w, (Instr.makeSlice 23 (.int .i64 (N : Int)) (.int .i64 (N : Int))).run Tryd.prog w = _ := fun w => run_makeFull w N (by omega)
      have hA1 : ∀ j, j < N → l1.getD j 0 ≤ 1 := fun j hj => chk_bit hc1 _ (by
        have : (l1.take N)[j]? = some (l1.getD j 0) := by simp [List.getElem?_take, hj, List.getD, (by omega : j < l1.length)]
        exact List.mem_of_getElem? this)
      have hB1 : ∀ j, j < N → l2.getD j 0 ≤ 1 := fun j hj => chk_bit hc2 _ (by
        have : (l2.take N)[j]? = some (l2.getD j 0) := by simp [List.getElem?_take, hj, List.getD, (by omega : j < l2.length)]
        exact List.mem_of_getElem? this)
      have A1 := Lib.hid hA1
      have B1 := Lib.hid hB1
      clear hA1 hB1
      have C1 := Lib.hid hc1
      have C2 := Lib.hid hc2
      clear hc1 hc2
      have o1 : OwnB (((w2.alloc (.cells (madeCells #[.int .u8 0] N) 5)).alloc (.cells (madeCells #[.int .u8 0] N) 5)).drew) (.slice (some ⟨w2.heap.size, 0, none⟩) N N) (List.replicate N 0) := by
        have h1 := OwnB.full w2 N (by omega)
        have h2 := h1.keep (F := fun _ => False) (Kp.alloc (o := .cells (madeCells #[.int .u8 0] N) 5)) (by simp)
        exact h2
      have o2 : OwnB (((w2.alloc (.cells (madeCells #[.int .u8 0] N) 5)).alloc (.cells (madeCells #[.int .u8 0] N) 5)).drew) (.slice (some ⟨w2.heap.size + 1, 0, none⟩) N N) (List.replicate N 0) := by
        have h1 := OwnB.full (w2.alloc (.cells (madeCells #[.int .u8 0] N) 5)) N (by omega)
        rw [show (w2.alloc (.cells (madeCells #[.int .u8 0] N) 5)).heap.size = w2.heap.size + 1 by simp] at h1
        exact h1
      have nb4 : Nb w (((w2.alloc (.cells (madeCells #[.int .u8 0] N) 5)).alloc (.cells (madeCells #[.int .u8 0] N) 5)).drew) := ((nb12.al _).al _).tr (Nb.drewN _ 1)
      have hs2 := nb12.size
      have O1 := Lib.hid o1
      have O2 := Lib.hid o2
      have N4 := Lib.hid nb4
      clear o1 o2 nb4
      go_wp2
      go_region
      · obtain ⟨w4, hw4⟩ : ∃ w4, w4 = ((w2.alloc (.cells (madeCells #[.int .u8 0] N) 5)).alloc (.cells (madeCells #[.int .u8 0] N) 5)).drew := ⟨_, rfl⟩
        obtain ⟨gz, hg1⟩ : ∃ g, g = w2.heap.size + 1 := ⟨_, rfl⟩
        obtain ⟨gx, hg0⟩ : ∃ g, g = w2.heap.size := ⟨_, rfl⟩
        have px := O1.out
        have pz := O2.out
        have nb4 := N4.out
        rw [← hw4, ← hg1] at pz ⊢
        rw [← hw4, ← hg0] at px
        rw [← hg0]
        rw [← hw4] at nb4
        have hgx : w.heap.size ≤ gx := by omega
        have hgz : w.heap.size ≤ gz := by omega
        have hxz : gz ≠ gx := by omega
        have PX := Lib.hid px
        have PZ := Lib.hid pz
        clear O1 O2 N4 hw4 hg0 hg1 px pz hm
        go_wp2
        go_loopw [45] (fun i wr => ∃ (j : Nat) (Y : List Nat), j ≤ N ∧ i = .int .i64 j ∧ Differ l1 l2 Y N j ∧ OwnB wr (.slice (some ⟨gx, 0, none⟩) N N) Y ∧ Kp (fun x => x = gx) w4 wr) (fun i _ => N - (intOf i).toNat)
        case atStart => exact ⟨0, _, Nat.zero_le _, rfl, Differ.zero l1 l2 N, PX.out, Kp.rfl⟩
        case round =>
          obtain ⟨j, Y, hj, rfl, hD, ho, hkp⟩ := hrel
          have hbel : Nb w wr := nb4.trans (hkp.toBelow nb4.size (fun x hx => by rw [hx]; exact hgx))
          by_cases hlt : j < N
          · obtain ⟨b1, q1, rfl, hcl1⟩ := (HA.out.below hbel).hcells (by omega)
            obtain ⟨b2, q2, rfl, hcl2⟩ := (HB.out.below hbel).hcells (by omega)
            have c1 := hcl1 j (by omega)
            have c2 := hcl2 j (by omega)
            have hu := A1.out j hlt
            have hv := B1.out j hlt
            have hstep := hD.step hlt
            have hset := ho.setByte (g := gx) rfl j (by rw [hD.len]; exact hlt) (l1.getD j 0 ^^^ l2.getD j 0) (by have := xor_le hu hv; omega)
            have c0 := ho.cell j (by rw [hD.len]; exact hlt)
            have f0 := ho.frozen (g := gx) rfl j
            have hxor := xor_u8 _ _ hu hv
            obtain ⟨y, hy⟩ : ∃ y, y = Y.getD j 0 := ⟨_, rfl⟩
            obtain ⟨ua, hua⟩ : ∃ ua, ua = l1.getD j 0 := ⟨_, rfl⟩
            obtain ⟨ub, hub⟩ : ∃ ub, ub = l2.getD j 0 := ⟨_, rfl⟩
            rw [← hua] at c1 hxor hstep hset
            rw [← hub] at c2 hxor hstep hset
            rw [← hy] at c0
            have hkp2 := hkp.tr (Kp.set (F := fun x => x = gx) (w := wr) (p := ⟨gx, j, none⟩) (u := .int .u8 ((ua ^^^ ub : Nat) : Int)) rfl) (fun x hx => .inl hx)
            have HT2 := Lib.hid hstep
            have HS := Lib.hid hset
            have HX := Lib.hid hxor
            clear hcl1 hcl2 hu hv hstep hset hxor hD ho hkp hy hua hub hbel
            go_wp2
            go_region
            rw [HX.out]
            go_wp2
            go_roundw
            case rel => exact ⟨j + 1, _, by omega, by go_num, HT2.out, HS.out.drewN 1, hkp2.tr (Kp.ofNb (Nb.drewN _ 1)) (fun _ h => .inl h)⟩
            case measure => simp [intOf]; omega
          · obtain rfl : j = N := by omega
            have hY := hD.full hN1 hN2
            subst hY
            have bx := ho.asBs.1
            have bz := (PZ.out.keep hkp (by intro y hy hy2; simp [Value.ownBlock] at hy; omega)).asBs.1
            have hxl : (xorL (l1.take j) (l2.take j)).length = j := hD.len
            have BX := Lib.hid bx
            have BZ := Lib.hid bz
            have XL := Lib.hid hxl
            have hbX : ∀ b ∈ xorL (l1.take j) (l2.take j), b ≤ 1 := fun b hb => by
              obtain ⟨i, hi, rfl⟩ := List.getElem_of_mem hb
              simp only [xorL, List.getElem_zipWith]
              exact xor_le (chk_bit C1.out _ (List.getElem_mem _)) (chk_bit C2.out _ (List.getElem_mem _))
            have hcX : chk (xorL (l1.take j) (l2.take j)) = true := by
              simp only [chk, Bool.and_eq_true, decide_eq_true_eq, List.all_eq_true]
              exact ⟨by omega, hbX⟩
            have hcZ : chk (List.replicate j 0) = true := by
              simp only [chk, Bool.and_eq_true, decide_eq_true_eq, List.all_eq_true, List.length_replicate]
              exact ⟨by omega, by simp⟩
            obtain ⟨z1, z2, z3, _, z5⟩ := kindOk a0 hz
            have hfour := four_sums (szK a0) (polyK a0) (startK a0) j (by omega) z3 z5 (l1.take j) (l2.take j) hT1 hT2 (chk_bit C1.out) (chk_bit C2.out)
            have s1 := fun w' hk' hb' => sum_u a0 a1 cap1 (l1.take j) w' hk' hb'
            have s2 := fun w' hk' hb' => sum_u a0 a2 cap2 (l2.take j) w' hk' hb'
            have s3 := fun w' hk' hb' => sum_u a0 (some ⟨gx, 0, none⟩) j (xorL (l1.take j) (l2.take j)) w' hk' hb'
            have s4 := fun w' hk' hb' => sum_u a0 (some ⟨gz, 0, none⟩) j (List.replicate j 0) w' hk' hb'
            rw [(sumN_ok (moreOk_start hz C1.out)).1, (sumN_ok (moreOk_start hz C1.out)).2, hT1] at s1
            rw [(sumN_ok (moreOk_start hz C2.out)).1, (sumN_ok (moreOk_start hz C2.out)).2, hT2] at s2
            rw [(sumN_ok (moreOk_start hz hcX)).1, (sumN_ok (moreOk_start hz hcX)).2, hxl] at s3
            rw [(sumN_ok (moreOk_start hz hcZ)).1, (sumN_ok (moreOk_start hz hcZ)).2, List.length_replicate] at s4
            have hp64 : (2 : Nat) ^ szK a0 ≤ 4294967296 := Nat.pow_le_pow_right (by omega) z2
            have g1 := runC_lt z3 (l1.take j) _ z5
            have g2 := runC_lt z3 (l2.take j) _ z5
            have g3 := runC_lt z3 (xorL (l1.take j) (l2.take j)) _ z5
            have g4 := runC_lt z3 (List.replicate j 0) _ z5
            generalize runC (szK a0) (polyK a0) (startK a0) (l1.take j) = R1 at *
            generalize runC (szK a0) (polyK a0) (startK a0) (l2.take j) = R2 at *
            generalize runC (szK a0) (polyK a0) (startK a0) (xorL (l1.take j) (l2.take j)) = R3 at *
            generalize runC (szK a0) (polyK a0) (startK a0) (List.replicate j 0) = R4 at *
            have x12 : R1 ^^^ R2 < 2 ^ szK a0 := Nat.xor_lt_two_pow g1 g2
            have x123 : R1 ^^^ R2 ^^^ R3 < 2 ^ szK a0 := Nat.xor_lt_two_pow x12 g3
            have e1 : bits BinOp.xor IntKind.u64 0 (R1 : Int) = (R1 : Int) := by
              have := bits_xor_u64_nat 0 R1 (by omega) (by omega)
              rwa [Nat.zero_xor] at this
            have e2 := bits_xor_u64_nat R1 R2 (by omega) (by omega)
            have e3 := bits_xor_u64_nat (R1 ^^^ R2) R3 (by omega) (by omega)
            have e4 := bits_xor_u64_nat (R1 ^^^ R2 ^^^ R3) R4 (by omega) (by omega)
            rw [hfour] at e4
            have S1 := Lib.hid s1
            have S2 := Lib.hid s2
            have S3 := Lib.hid s3
            have S4 := Lib.hid s4
            have E1 := Lib.hid e1
            have E2 := Lib.hid e2
            have E3 := Lib.hid e3
            have E4 := Lib.hid e4
            clear hD ho hkp bx bz hxl hbX hcX hcZ z1 z2 z3 z5 hfour s1 s2 s3 s4 hp64 g1 g2 g3 g4 x12 x123 e1 e2 e3 e4
            have hix0 : ∀ (c0 c1 c2 c3 : Value) w, (Instr.index 48 (.agg #[c0, c1, c2, c3]) (.int .i64 0)).run Tryd.prog w = .ok c0 w := fun _ _ _ _ _ => by kernel_rfl
            have hix1 : ∀ (c0 c1 c2 c3 : Value) w, (Instr.index 48 (.agg #[c0, c1, c2, c3]) (.int .i64 1)).run Tryd.prog w = .ok c1 w := fun _ _ _ _ _ => by kernel_rfl
            have hix2 : ∀ (c0 c1 c2 c3 : Value) w, (Instr.index 48 (.agg #[c0, c1, c2, c3]) (.int .i64 2)).run Tryd.prog w = .ok c2 w := fun _ _ _ _ _ => by kernel_rfl
            have hix3 : ∀ (c0 c1 c2 c3 : Value) w, (Instr.index 48 (.agg #[c0, c1, c2, c3]) (.int .i64 3)).run Tryd.prog w = .ok c3 w := fun _ _ _ _ _ => by kernel_rfl
            go_wp2
            go_quiet (fail)
            have hbd : Nb w (wr.drewN nq) := hbel.tr (Nb.drewN _ _)
            go_wp2
            go_loopw [11, 70] (fun s i wv => ((i = .int .i64 0 ∧ s = .int .u64 0) ∨ (i = .int .i64 1 ∧ s = .int .u64 R1) ∨ (i = .int .i64 2 ∧ s = .int .u64 (R1 ^^^ R2 : Nat)) ∨ (i = .int .i64 3 ∧ s = .int .u64 (R1 ^^^ R2 ^^^ R3 : Nat)) ∨ (i = .int .i64 4 ∧ s = .int .u64 ((0 : Nat) : Int))) ∧ Nb wr wv ∧ Nb w wv) (fun _ i _ => 4 - (intOf i).toNat)
            case atStart => exact ⟨.inl ⟨rfl, rfl⟩, Nb.drewN _ _, hbd⟩
            case round =>
              obtain ⟨hrel, hw5, hb5⟩ := hrel
              rcases hrel with ⟨rfl, rfl⟩ | ⟨rfl, rfl⟩ | ⟨rfl, rfl⟩ | ⟨rfl, rfl⟩ | ⟨rfl, rfl⟩
              · go_wp2_with fail
                refine (S1.out _ (HK.out.below hb5) (((HA.out.below hb5).head j))).mono ?_
                rintro e w6 ⟨rfl, nb6⟩
                have hw6 := hw5.tr nb6
                have hb6 := hb5.tr nb6
                go_wp2
                rw [E1.out]
                go_roundw
                case rel =>
                  refine ⟨_, _, _, _, _, _, _, _, _, _, _, _, _, _, _, _, _, _, _, _, ?_, rfl⟩
                  exact ⟨.inr (.inl ⟨rfl, rfl⟩), hw6, hb6⟩
                case measure => simp [intOf]
              · go_wp2_with fail
                refine (S2.out _ (HK.out.below hb5) (((HB.out.below hb5).head j))).mono ?_
                rintro e w6 ⟨rfl, nb6⟩
                have hw6 := hw5.tr nb6
                have hb6 := hb5.tr nb6
                go_wp2
                rw [E2.out]
                go_roundw
                case rel =>
                  refine ⟨_, _, _, _, _, _, _, _, _, _, _, _, _, _, _, _, _, _, _, _, ?_, rfl⟩
                  exact ⟨.inr (.inr (.inl ⟨rfl, rfl⟩)), hw6, hb6⟩
                case measure => simp [intOf]
              · go_wp2_with fail
                refine (S3.out _ (HK.out.below hb5) (BX.out.below hw5)).mono ?_
                rintro e w6 ⟨rfl, nb6⟩
                have hw6 := hw5.tr nb6
                have hb6 := hb5.tr nb6
                go_wp2
                rw [E3.out]
                go_roundw
                case rel =>
                  refine ⟨_, _, _, _, _, _, _, _, _, _, _, _, _, _, _, _, _, _, _, _, ?_, rfl⟩
                  exact ⟨.inr (.inr (.inr (.inl ⟨rfl, rfl⟩))), hw6, hb6⟩
                case measure => simp [intOf]
              · go_wp2_with fail
                refine (S4.out _ (HK.out.below hb5) (BZ.out.below hw5)).mono ?_
                rintro e w6 ⟨rfl, nb6⟩
                have hw6 := hw5.tr nb6
                have hb6 := hb5.tr nb6
                go_wp2
                rw [E4.out]
                go_roundw
                case rel =>
                  refine ⟨_, _, _, _, _, _, _, _, _, _, _, _, _, _, _, _, _, _, _, _, ?_, rfl⟩
                  exact ⟨.inr (.inr (.inr (.inr ⟨rfl, rfl⟩))), hw6, hb6⟩
                case measure => simp [intOf]
              · go_wp2
                go_ret
                exact ⟨rfl, hb5⟩
      · obtain ⟨w4, hw4⟩ : ∃ w4, w4 = ((w2.alloc (.cells (madeCells #[.int .u8 0] N) 5)).alloc (.cells (madeCells #[.int .u8 0] N) 5)).drew := ⟨_, rfl⟩
        obtain ⟨gx, hg1⟩ : ∃ g, g = w2.heap.size + 1 := ⟨_, rfl⟩
        obtain ⟨gz, hg0⟩ : ∃ g, g = w2.heap.size := ⟨_, rfl⟩
        have pz := O1.out
        have px := O2.out
        have nb4 := N4.out
        rw [← hw4, ← hg1] at px ⊢
        rw [← hw4, ← hg0] at pz
        rw [← hg0]
        rw [← hw4] at nb4
        have hgx : w.heap.size ≤ gx := by omega
        have hgz : w.heap.size ≤ gz := by omega
        have hxz : gz ≠ gx := by omega
        have PX := Lib.hid px
        have PZ := Lib.hid pz
        clear O1 O2 N4 hw4 hg0 hg1 px pz hm
        go_wp2
        go_loopw [45] (fun i wr => ∃ (j : Nat) (Y : List Nat), j ≤ N ∧ i = .int .i64 j ∧ Differ l1 l2 Y N j ∧ OwnB wr (.slice (some ⟨gx, 0, none⟩) N N) Y ∧ Kp (fun x => x = gx) w4 wr) (fun i _ => N - (intOf i).toNat)
        case atStart => exact ⟨0, _, Nat.zero_le _, rfl, Differ.zero l1 l2 N, PX.out, Kp.rfl⟩
        case round =>
          obtain ⟨j, Y, hj, rfl, hD, ho, hkp⟩ := hrel
          have hbel : Nb w wr := nb4.trans (hkp.toBelow nb4.size (fun x hx => by rw [hx]; exact hgx))
          by_cases hlt : j < N
          · obtain ⟨b1, q1, rfl, hcl1⟩ := (HA.out.below hbel).hcells (by omega)
            obtain ⟨b2, q2, rfl, hcl2⟩ := (HB.out.below hbel).hcells (by omega)
            have c1 := hcl1 j (by omega)
            have c2 := hcl2 j (by omega)
            have hu := A1.out j hlt
            have hv := B1.out j hlt
            have hstep := hD.step hlt
            have hset := ho.setByte (g := gx) rfl j (by rw [hD.len]; exact hlt) (l1.getD j 0 ^^^ l2.getD j 0) (by have := xor_le hu hv; omega)
            have c0 := ho.cell j (by rw [hD.len]; exact hlt)
            have f0 := ho.frozen (g := gx) rfl j
            have hxor := xor_u8 _ _ hu hv
            obtain ⟨y, hy⟩ : ∃ y, y = Y.getD j 0 := ⟨_, rfl⟩
            obtain ⟨ua, hua⟩ : ∃ ua, ua = l1.getD j 0 := ⟨_, rfl⟩
            obtain ⟨ub, hub⟩ : ∃ ub, ub = l2.getD j 0 := ⟨_, rfl⟩
            rw [← hua] at c1 hxor hstep hset
            rw [← hub] at c2 hxor hstep hset
            rw [← hy] at c0
            have hkp2 := hkp.tr (Kp.set (F := fun x => x = gx) (w := wr) (p := ⟨gx, j, none⟩) (u := .int .u8 ((ua ^^^ ub : Nat) : Int)) rfl) (fun x hx => .inl hx)
            have HT2 := Lib.hid hstep
            have HS := Lib.hid hset
            have HX := Lib.hid hxor
            clear hcl1 hcl2 hu hv hstep hset hxor hD ho hkp hy hua hub hbel
            go_wp2
            go_region
            rw [HX.out]
            go_wp2
            go_roundw
            case rel => exact ⟨j + 1, _, by omega, by go_num, HT2.out, HS.out.drewN 1, hkp2.tr (Kp.ofNb (Nb.drewN _ 1)) (fun _ h => .inl h)⟩
            case measure => simp [intOf]; omega
          · obtain rfl : j = N := by omega
            have hY := hD.full hN1 hN2
            subst hY
            have bx := ho.asBs.1
            have bz := (PZ.out.keep hkp (by intro y hy hy2; simp [Value.ownBlock] at hy; omega)).asBs.1
            have hxl : (xorL (l1.take j) (l2.take j)).length = j := hD.len
            have BX := Lib.hid bx
            have BZ := Lib.hid bz
            have XL := Lib.hid hxl
            have hbX : ∀ b ∈ xorL (l1.take j) (l2.take j), b ≤ 1 := fun b hb => by
              obtain ⟨i, hi, rfl⟩ := List.getElem_of_mem hb
              simp only [xorL, List.getElem_zipWith]
              exact xor_le (chk_bit C1.out _ (List.getElem_mem _)) (chk_bit C2.out _ (List.getElem_mem _))
            have hcX : chk (xorL (l1.take j) (l2.take j)) = true := by
              simp only [chk, Bool.and_eq_true, decide_eq_true_eq, List.all_eq_true]
              exact ⟨by omega, hbX⟩
            have hcZ : chk (List.replicate j 0) = true := by
              simp only [chk, Bool.and_eq_true, decide_eq_true_eq, List.all_eq_true, List.length_replicate]
              exact ⟨by omega, by simp⟩
            obtain ⟨z1, z2, z3, _, z5⟩ := kindOk a0 hz
            have hfour := four_sums (szK a0) (polyK a0) (startK a0) j (by omega) z3 z5 (l1.take j) (l2.take j) hT1 hT2 (chk_bit C1.out) (chk_bit C2.out)
            have s1 := fun w' hk' hb' => sum_u a0 a1 cap1 (l1.take j) w' hk' hb'
            have s2 := fun w' hk' hb' => sum_u a0 a2 cap2 (l2.take j) w' hk' hb'
            have s3 := fun w' hk' hb' => sum_u a0 (some ⟨gx, 0, none⟩) j (xorL (l1.take j) (l2.take j)) w' hk' hb'
            have s4 := fun w' hk' hb' => sum_u a0 (some ⟨gz, 0, none⟩) j (List.replicate j 0) w' hk' hb'
            rw [(sumN_ok (moreOk_start hz C1.out)).1, (sumN_ok (moreOk_start hz C1.out)).2, hT1] at s1
            rw [(sumN_ok (moreOk_start hz C2.out)).1, (sumN_ok (moreOk_start hz C2.out)).2, hT2] at s2
            rw [(sumN_ok (moreOk_start hz hcX)).1, (sumN_ok (moreOk_start hz hcX)).2, hxl] at s3
            rw [(sumN_ok (moreOk_start hz hcZ)).1, (sumN_ok (moreOk_start hz hcZ)).2, List.length_replicate] at s4
            have hp64 : (2 : Nat) ^ szK a0 ≤ 4294967296 := Nat.pow_le_pow_right (by omega) z2
            have g1 := runC_lt z3 (l1.take j) _ z5
            have g2 := runC_lt z3 (l2.take j) _ z5
            have g3 := runC_lt z3 (xorL (l1.take j) (l2.take j)) _ z5
            have g4 := runC_lt z3 (List.replicate j 0) _ z5
            generalize runC (szK a0) (polyK a0) (startK a0) (l1.take j) = R1 at *
            generalize runC (szK a0) (polyK a0) (startK a0) (l2.take j) = R2 at *
            generalize runC (szK a0) (polyK a0) (startK a0) (xorL (l1.take j) (l2.take j)) = R3 at *
            generalize runC (szK a0) (polyK a0) (startK a0) (List.replicate j 0) = R4 at *
            have x12 : R1 ^^^ R2 < 2 ^ szK a0 := Nat.xor_lt_two_pow g1 g2
            have x123 : R1 ^^^ R2 ^^^ R3 < 2 ^ szK a0 := Nat.xor_lt_two_pow x12 g3
            have e1 : bits BinOp.xor IntKind.u64 0 (R1 : Int) = (R1 : Int) := by
              have := bits_xor_u64_nat 0 R1 (by omega) (by omega)
              rwa [Nat.zero_xor] at this
            have e2 := bits_xor_u64_nat R1 R2 (by omega) (by omega)
            have e3 := bits_xor_u64_nat (R1 ^^^ R2) R3 (by omega) (by omega)
            have e4 := bits_xor_u64_nat (R1 ^^^ R2 ^^^ R3) R4 (by omega) (by omega)
            rw [hfour] at e4
            have S1 := Lib.hid s1
            have S2 := Lib.hid s2
            have S3 := Lib.hid s3
            have S4 := Lib.hid s4
            have E1 := Lib.hid e1
            have E2 := Lib.hid e2
            have E3 := Lib.hid e3
            have E4 := Lib.hid e4
            clear hD ho hkp bx bz hxl hbX hcX hcZ z1 z2 z3 z5 hfour s1 s2 s3 s4 hp64 g1 g2 g3 g4 x12 x123 e1 e2 e3 e4
            have hix0 : ∀ (c0 c1 c2 c3 : Value) w, (Instr.index 48 (.agg #[c0, c1, c2, c3]) (.int .i64 0)).run Tryd.prog w = .ok c0 w := fun _ _ _ _ _ => by kernel_rfl
            have hix1 : ∀ (c0 c1 c2 c3 : Value) w, (Instr.index 48 (.agg #[c0, c1, c2, c3]) (.int .i64 1)).run Tryd.prog w = .ok c1 w := fun _ _ _ _ _ => by kernel_rfl
            have hix2 : ∀ (c0 c1 c2 c3 : Value) w, (Instr.index 48 (.agg #[c0, c1, c2, c3]) (.int .i64 2)).run Tryd.prog w = .ok c2 w := fun _ _ _ _ _ => by kernel_rfl
            have hix3 : ∀ (c0 c1 c2 c3 : Value) w, (Instr.index 48 (.agg #[c0, c1, c2, c3]) (.int .i64 3)).run Tryd.prog w = .ok c3 w := fun _ _ _ _ _ => by kernel_rfl
            go_wp2
            go_quiet (fail)
            have hbd : Nb w (wr.drewN nq) := hbel.tr (Nb.drewN _ _)
            go_wp2
            go_loopw [11, 70] (fun s i wv => ((i = .int .i64 0 ∧ s = .int .u64 0) ∨ (i = .int .i64 1 ∧ s = .int .u64 R1) ∨ (i = .int .i64 2 ∧ s = .int .u64 (R1 ^^^ R2 : Nat)) ∨ (i = .int .i64 3 ∧ s = .int .u64 (R1 ^^^ R2 ^^^ R3 : Nat)) ∨ (i = .int .i64 4 ∧ s = .int .u64 ((0 : Nat) : Int))) ∧ Nb wr wv ∧ Nb w wv) (fun _ i _ => 4 - (intOf i).toNat)
            case atStart => exact ⟨.inl ⟨rfl, rfl⟩, Nb.drewN _ _, hbd⟩
            case round =>
              obtain ⟨hrel, hw5, hb5⟩ := hrel
              rcases hrel with ⟨rfl, rfl⟩ | ⟨rfl, rfl⟩ | ⟨rfl, rfl⟩ | ⟨rfl, rfl⟩ | ⟨rfl, rfl⟩
              · go_wp2_with fail
                refine (S1.out _ (HK.out.below hb5) (((HA.out.below hb5).head j))).mono ?_
                rintro e w6 ⟨rfl, nb6⟩
                have hw6 := hw5.tr nb6
                have hb6 := hb5.tr nb6
                go_wp2
                rw [E1.out]
                go_roundw
                case rel =>
                  refine ⟨_, _, _, _, _, _, _, _, _, _, _, _, _, _, _, _, _, _, _, _, ?_, rfl⟩
                  exact ⟨.inr (.inl ⟨rfl, rfl⟩), hw6, hb6⟩
                case measure => simp [intOf]
              · go_wp2_with fail
                refine (S2.out _ (HK.out.below hb5) (((HB.out.below hb5).head j))).mono ?_
                rintro e w6 ⟨rfl, nb6⟩
                have hw6 := hw5.tr nb6
                have hb6 := hb5.tr nb6
                go_wp2
                rw [E2.out]
                go_roundw
                case rel =>
                  refine ⟨_, _, _, _, _, _, _, _, _, _, _, _, _, _, _, _, _, _, _, _, ?_, rfl⟩
                  exact ⟨.inr (.inr (.inl ⟨rfl, rfl⟩)), hw6, hb6⟩
                case measure => simp [intOf]
              · go_wp2_with fail
                refine (S3.out _ (HK.out.below hb5) (BX.out.below hw5)).mono ?_
                rintro e w6 ⟨rfl, nb6⟩
                have hw6 := hw5.tr nb6
                have hb6 := hb5.tr nb6
                go_wp2
                rw [E3.out]
                go_roundw
                case rel =>
                  refine ⟨_, _, _, _, _, _, _, _, _, _, _, _, _, _, _, _, _, _, _, _, ?_, rfl⟩
                  exact ⟨.inr (.inr (.inr (.inl ⟨rfl, rfl⟩))), hw6, hb6⟩
                case measure => simp [intOf]
              · go_wp2_with fail
                refine (S4.out _ (HK.out.below hb5) (BZ.out.below hw5)).mono ?_
                rintro e w6 ⟨rfl, nb6⟩
                have hw6 := hw5.tr nb6
                have hb6 := hb5.tr nb6
                go_wp2
                rw [E4.out]
                go_roundw
                case rel =>
                  refine ⟨_, _, _, _, _, _, _, _, _, _, _, _, _, _, _, _, _, _, _, _, ?_, rfl⟩
                  exact ⟨.inr (.inr (.inr (.inr ⟨rfl, rfl⟩))), hw6, hb6⟩
                case measure => simp [intOf]
              · go_wp2
                go_ret
                exact ⟨rfl, hb5⟩

theorem door_met (os : Os) (args : Array Value) : laidMetH Tryd.prog Rows.crcBelongsRow.laid ((World.doorLaid Tryd.prog 19 os).forCall (fun _ _ => 0) ⟨#[], args, []⟩).memory :=
  laidMetH_of_parts3 (fuel := 8) (laidMet_of_run' 8 (by kernel_rfl) (by kernel_rfl)) (by kernel_rfl) (by kernel_rfl)
set_option maxHeartbeats 2000000 in
set_option maxRecDepth 100000 in
theorem lifted (os : Os) (started : os.Started) (H : Type) (enc : TypeId × Value → H) :
    ReturnsInHanded {} Tryd.checked os 8 .any (fun w args => (Rows.crcBelongsSpec.pre enc Tryd.prog Tryd.f8 [] false w args ∧ laidMetH Tryd.prog Rows.crcBelongsRow.laid w) ∧ sizedMet enc Tryd.prog Tryd.f8 (OpenSpec.ofChange Rows.crcBelongsSpec) false w args)
      (Rows.crcBelongsSpec.post enc Tryd.prog Tryd.f8 false true false false) := by
  refine returnsInHanded_of_change_and (C := Tryd.checked) (X := fun w _ => laidMetH Tryd.prog Rows.crcBelongsRow.laid w) (fun _ _ _ hh h => h.of_heap hh) own started (by kernel_rfl) Tryd.func8
    (ChangeSpec.witness_shaped (enc := enc) (C := Tryd.checked) (os := os) (X := fun w _ => laidMetH Tryd.prog Rows.crcBelongsRow.laid w) false (World.doorLaid Tryd.prog 19 os) #[.int .i64 0, .slice none 0 0, .slice none 0 0] 8 rfl (World.shaped_of_RefB (by kernel_rfl) (by kernel_rfl)) (by kernel_rfl) (by kernel_rfl) (by kernel_rfl) (door_met os _)) ?_
  intro W base args ds gs before hval0 hW _ hR hL _
  have hval : ∀ (j : Nat) t v, Tryd.f8.params[j]? = some t → args[j]? = some v → Value.okWide Tryd.prog W .any base t v := hval0
  have hW' := hW
  obtain ⟨p, q, hA0, hV, rfl, hfz, hnd⟩ := hW
  have hA : DataW.TrodAll enc Tryd.prog W 0 (fun _ => true) true Tryd.f8.params.toList args.toList ds p := hA0
  rw [Tryd.params8] at hA hval
  obtain ⟨v0, vs0, d0, ds0, p0, q0, hargs, rfl, rfl, h0, r0⟩ := trodAll_cons hA
  obtain ⟨v1, vs1, d1, ds1, p1, q1, rfl, rfl, rfl, h1, r1⟩ := trodAll_cons r0
  obtain ⟨v2, vs2, d2, ds2, p2, q2, rfl, rfl, rfl, h2, r2⟩ := trodAll_cons r1
  obtain ⟨rfl, rfl, rfl⟩ := trodAll_nil r2
  obtain rfl : args = #[v0, v1, v2] := by cases args; simp_all
  obtain ⟨rfl, rfl⟩ := trodVars_none hV
  have k0 := h0
  have lt0 : ∀ x ∈ p0, x.block < W.heap.size := by obtain ⟨m, hm⟩ := k0; exact DataW.trod_lt m _ _ _ hm
  have k1 := h1
  have lt1 : ∀ x ∈ p1, x.block < W.heap.size := by obtain ⟨m, hm⟩ := k1; exact DataW.trod_lt m _ _ _ hm
  have k2 := h2
  have lt2 : ∀ x ∈ p2, x.block < W.heap.size := by obtain ⟨m, hm⟩ := k2; exact DataW.trod_lt m _ _ _ hm
  clear hA0
  rw [Tryd.params8] at hR
  have hR0 : (DataW.weightsEach Tryd.prog ([3, 23, 23] ++ Rows.crcBelongsSpec.plain.varTypes Tryd.prog) ([d0, d1, d2] ++ [])).all (· ≤ reachBytes) = true := hR
  simp only [List.cons_append, List.nil_append, DataW.weightsEach, List.append_nil, List.all_append, Bool.and_eq_true] at hR0
  obtain ⟨hR0, hR1, hR2, _⟩ := hR0
  obtain ⟨a0, rfl, rfl, rfl, w0⟩ := open_int Tryd.underlying3 (hval 0 3 v0 rfl rfl) h0
  obtain ⟨fu1, hf1⟩ := h1
  obtain ⟨a1, lc1, cap1, rfl⟩ := okWide_slice Tryd.underlying23 (hval 1 23 v1 rfl rfl)
  have hc1 : DataW.trod enc Tryd.prog W 0 (fun _ => true) true fu1 23 [.slice a1 lc1 cap1] = some (d1, p1) := hf1
  obtain ⟨l1, rfl, hb1, n1, rr1⟩ := bytes_of_slice hc1 hR1
  obtain ⟨fu2, hf2⟩ := h2
  obtain ⟨a2, lc2, cap2, rfl⟩ := okWide_slice Tryd.underlying23 (hval 2 23 v2 rfl rfl)
  have hc2 : DataW.trod enc Tryd.prog W 0 (fun _ => true) true fu2 23 [.slice a2 lc2 cap2] = some (d2, p2) := hf2
  obtain ⟨l2, rfl, hb2, n2, rr2⟩ := bytes_of_slice hc2 hR2
  refine (walk W (kinds_of hL) a0 w0 a1 cap1 l1 hb1 n1 rr1 a2 cap2 l2 hb2 n2 rr2).mono fun e W' ⟨he, bel⟩ => ?_
  subst he
  exact ⟨_, rfl, _, _, _, [], _, [], hW', trodAll_mk1 (shut_bool Tryd.underlying4 _), (trodAll_cons_mk (Below.trod laidOut (by kernel_rfl) (of_decide_eq_true (by kernel_rfl)) k0 bel lt0) (trodAll_cons_mk (Below.trod laidOut (by kernel_rfl) (of_decide_eq_true (by kernel_rfl)) k1 bel lt1) (trodAll_cons_mk (Below.trod laidOut (by kernel_rfl) (of_decide_eq_true (by kernel_rfl)) k2 bel lt2) trodAll_mk0))), rfl, bel.frame _, fun h => by cases h⟩

theorem over : Rows.crcBelongsRow.holds Tryd.pinned (OpenSpec.ofChange Rows.crcBelongsSpec) :=
  OpenClaim.holds_of_wide 8 Tryd.f8 rfl rfl rfl rfl rfl rfl rfl ⟨rfl, rfl, rfl, rfl, rfl⟩ rfl rfl rfl rfl rfl (by kernel_rfl) Tryd.func8 (by kernel_rfl)
    (of_decide_eq_true (by kernel_rfl)) (by unfold Func.isWrapper; first | (rw [if_pos (by decide +kernel)]; kernel_rfl) | (rw [if_neg (by decide +kernel)]; exact ⟨rfl, rfl⟩))
    (fun os started H enc _ => lifted os started H enc)

theorem plain (f : FuncId) (fn : Func) (hf : Tryd.pinned.checked.prog.funcNamed "omnibus/omnibuslaw02.CrcBelongs" = some f) (hfn : Tryd.pinned.checked.prog.funcs[f]? = some fn) :
    false = Tryd.pinned.checked.prog.looks [] ∧ ∀ (j : Nat) t, fn.params[j]? = some t → Tryd.pinned.checked.prog.wantsStandIn t = false := by
  obtain rfl : f = 8 := Option.some.inj ((show Tryd.prog.funcNamed "omnibus/omnibuslaw02.CrcBelongs" = some 8 by kernel_rfl).symm.trans hf) |>.symm
  obtain rfl : fn = Tryd.f8 := (Option.some.inj (Tryd.func8.symm.trans hfn)).symm
  refine ⟨by kernel_rfl, fun j t ht => ?_⟩
  rw [Tryd.params8] at ht
  have hm : t ∈ [3, 23] := by have := Array.mem_of_getElem? ht; simp at this ⊢; omega
  have hall : ([3, 23].all fun u => !Tryd.prog.wantsStandIn u) = true := by kernel_rfl
  exact (show Tryd.prog.wantsStandIn t = false by simpa using List.all_eq_true.1 hall t hm)
theorem proved : Rows.CrcBelongsCardSaid :=
  Claim7.holds_tied_plain_at .later [] _ _ _ _ over (fun _ h => by cases h) (by kernel_rfl) (fun _ h => by cases h) crcBelongs_row_tie rfl ⟨rfl, rfl⟩ (by kernel_rfl) rfl plain (by kernel_rfl)
#print axioms proved
end Go.Proofs.YtmfahnfmahahjaaDoor.crcBelongs
