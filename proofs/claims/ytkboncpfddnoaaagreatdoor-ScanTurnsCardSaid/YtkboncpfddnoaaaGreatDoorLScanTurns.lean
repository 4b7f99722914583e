/- For every frame and place the law ScanTurns answers true and leaves its arguments as they were; the package's tables of kinds of sums and of longer sizes are tied to the program's text. No conditions. -/
import Derived.Test.YtkboncpfddnoaaaGreatDoorRows
import Derived.Test.YtkboncpfddnoaaaGreatDoorCards
import Derived.Test.YtkboncpfddnoaaaGreatDoorTie
import Derived.Test.YtkboncpfddnoaaaGreatDoorScA
import Derived.Test.YtkboncpfddnoaaaGreatDoorScB
import Derived.Test.YtkboncpfddnoaaaGreatDoorScL
import Derived.Test.YtkboncpfddnoaaaGreatDoorFdX
import Derived.Test.YtkboncpfddnoaaaGreatDoorGs
import Derived.Test.YtkboncpfddnoaaaGreatDoorGa
import Derived.Test.YtkboncpfddnoaaaGreatDoorFrmE
import Derived.WalkKit
import Derived.ProofKit
import Derived.OpenShut
import Derived.ShutString
import Derived.ChangeOld
import Derived.Below
import Derived.Carry
import Derived.Lib.SmallJoins
import Derived.Deep.RegionWith
import Derived.Deep.RegionHeld3
import Derived.LaidMore
import Derived.LaidLaws
import Derived.Stop.Joined
import Derived.SevenTiedAt
namespace Go.Proofs.YtkboncpfddnoaaaGreatDoor.scanTurns
open Go.ChangeShapes Go.WideShapes Go.ChangeAt Go.RowKit Go.Joins
set_option linter.unusedVariables false
set_option linter.unusedSimpArgs false
theorem own : ownKnob Tryz.prog.godebug = none := by kernel_rfl
theorem laidOut : laidOutB Tryz.prog = true := by kernel_rfl
theorem arr11 {α : Type} {cs : Array α} (h : cs.size = 11) : ∃ c0 c1 c2 c3 c4 c5 c6 c7 c8 c9 c10, cs = #[c0, c1, c2, c3, c4, c5, c6, c7, c8, c9, c10] := by
  obtain ⟨l⟩ := cs
  match l, h with
  | [c0, c1, c2, c3, c4, c5, c6, c7, c8, c9, c10], _ => exact ⟨c0, c1, c2, c3, c4, c5, c6, c7, c8, c9, c10, rfl⟩
set_option maxHeartbeats 8000000 in
set_option maxRecDepth 100000 in
theorem walk (w : World) (hK : Both w) (a0_0 : Int) (w0_0 : (Lit.int .i64 a0_0).wf = true) (a0_1 : Int) (w0_1 : (Lit.int .u32 a0_1).wf = true) (a0_2 : Bool) (a0_3 : Bool) (a0_4 : Bool) (a0_5 : Bool) (a0_6 : Bool) (a0_7 : Int) (w0_7 : (Lit.int .u8 a0_7).wf = true) (a0_8 : Int) (w0_8 : (Lit.int .u8 a0_8).wf = true) (a0_9 : Int) (w0_9 : (Lit.int .u32 a0_9).wf = true) (a0_10 : Option Addr) (cap0_10 : Nat) (l0_10 : List Nat) (h0_10 : Bs w a0_10 cap0_10 l0_10) (n0_10 : a0_10 = none → cap0_10 = 0) (a1 : Int) (w1 : (Lit.int .u16 a1).wf = true) :
    Calls Tryz.prog 5 #[.agg #[.int .i64 a0_0, .int .u32 a0_1, .bool a0_2, .bool a0_3, .bool a0_4, .bool a0_5, .bool a0_6, .int .u8 a0_7, .int .u8 a0_8, .int .u32 a0_9, .slice a0_10 l0_10.length cap0_10], .int .u16 a1] w fun e w' => e = .returned (.bool true) ∧ Nb w w' := by
  have hL0 := h0_10.len
  have hW : WdX ⟨a0_0, a0_1, a0_2, a0_3, a0_4, a0_5, a0_6, a0_7, a0_8, a0_9⟩ := by
    simp [Lit.wf, IntKind.min, IntKind.max, IntKind.signed, IntKind.bits] at w0_1 w0_7 w0_8 w0_9
    simp only [WdX]
    omega
  have hat : 0 ≤ a1 ∧ a1 < 65536 := by
    simp [Lit.wf, IntKind.min, IntKind.max, IntKind.signed, IntKind.bits] at w1
    omega
  obtain ⟨at_, rfl⟩ := Int.eq_ofNat_of_zero_le hat.1
  have hat2 : at_ < 65536 := by omega
  have HK := Lib.hid hK
  have HA := Lib.hid h0_10
  have hbB := h0_10.hbyte
  have QF := Lib.hid (Blk.new w #[.int .i64 a0_0, .int .u32 a0_1, .bool a0_2, .bool a0_3, .bool a0_4, .bool a0_5, .bool a0_6, .int .u8 a0_7, .int .u8 a0_8, .int .u32 a0_9, .slice a0_10 l0_10.length cap0_10] 29)
  have M0 := Lib.hid (Nb.rfl.al (.cells #[.int .i64 a0_0, .int .u32 a0_1, .bool a0_2, .bool a0_3, .bool a0_4, .bool a0_5, .bool a0_6, .int .u8 a0_7, .int .u8 a0_8, .int .u32 a0_9, .slice a0_10 l0_10.length cap0_10] 29) : Nb w _)
  have F0 := Lib.hid (fun w' (n : Nb w w') => check5_any ⟨a0_0, a0_1, a0_2, a0_3, a0_4, a0_5, a0_6, a0_7, a0_8, a0_9⟩ a0_10 cap0_10 l0_10 w' (HA.out.below n) (HK.out.below n).2)
  have F1 := Lib.hid (fun w' (n : Nb w w') => wire9_any ⟨a0_0, a0_1, a0_2, a0_3, a0_4, a0_5, a0_6, a0_7, a0_8, a0_9⟩ a0_10 cap0_10 l0_10 w' (HA.out.below n) hW (HK.out.below n).1 (HK.out.below n).2)
  clear hK h0_10 w0_0 w0_1 w0_7 w0_8 w0_9 n0_10 w1 hat
  cases hok : okF ⟨a0_0, a0_1, a0_2, a0_3, a0_4, a0_5, a0_6, a0_7, a0_8, a0_9⟩ l0_10 with
  | false =>
    rw [show checkN ⟨a0_0, a0_1, a0_2, a0_3, a0_4, a0_5, a0_6, a0_7, a0_8, a0_9⟩ l0_10 = 2 by simp [checkN, hok]] at F0
    clear hok F1 hW hbB hat2
    simp only [Hd.cs] at F0
    go_enter Tryz.func5, Tryz.ntmps5
    go_wp2_with fail
    refine (alive9_any _ (HK.out.below M0.out)).mono ?_
    rintro e w1 ⟨rfl, n1⟩
    have Q1 := Lib.hid (QF.out.nb n1)
    have M1 := Lib.hid (M0.out.tr n1)
    clear n1
    obtain ⟨c0, c1, c2, c3, c4, c5, c6, c7, c8, c9, c10⟩ := Q1.out.c11
    go_wp2_with fail
    refine (F0.out _ M1.out).mono ?_
    rintro e w2 ⟨rfl, n2⟩
    have Q2 := Lib.hid (Q1.out.nb n2)
    have M2 := Lib.hid (M1.out.tr n2)
    clear n2 c0 c1 c2 c3 c4 c5 c6 c7 c8 c9 c10
    obtain ⟨c0, c1, c2, c3, c4, c5, c6, c7, c8, c9, c10⟩ := Q2.out.c11
    go_wp2
    go_ret
    exact ⟨rfl, M2.out⟩
  | true =>
    rw [show checkN ⟨a0_0, a0_1, a0_2, a0_3, a0_4, a0_5, a0_6, a0_7, a0_8, a0_9⟩ l0_10 = 0 by simp [checkN, hok]] at F0
    rw [erF_of, if_pos hok] at F1
    simp only [Hd.cs] at F0 F1
    by_cases h100 : 100 < l0_10.length
    · have d1 : decide (100 < (l0_10.length : Int)) = true := decide_eq_true (by omega)
      clear hok F1 hW hbB hat2 h100
      go_enter Tryz.func5, Tryz.ntmps5
      go_wp2_with fail
      refine (alive9_any _ (HK.out.below M0.out)).mono ?_
      rintro e w1 ⟨rfl, n1⟩
      have Q1 := Lib.hid (QF.out.nb n1)
      have M1 := Lib.hid (M0.out.tr n1)
      clear n1
      obtain ⟨c0, c1, c2, c3, c4, c5, c6, c7, c8, c9, c10⟩ := Q1.out.c11
      go_wp2_with fail
      refine (F0.out _ M1.out).mono ?_
      rintro e w2 ⟨rfl, n2⟩
      have Q2 := Lib.hid (Q1.out.nb n2)
      have M2 := Lib.hid (M1.out.tr n2)
      clear n2 c0 c1 c2 c3 c4 c5 c6 c7 c8 c9 c10
      obtain ⟨c0, c1, c2, c3, c4, c5, c6, c7, c8, c9, c10⟩ := Q2.out.c11
      go_wp2
      go_ret
      exact ⟨rfl, M2.out⟩
    have d1 : decide (100 < (l0_10.length : Int)) = false := decide_eq_false (by omega)
    clear h100
    obtain ⟨e1, e2, e3, e4, e5, e6, e7, hc⟩ := wF_of hok hW hbB
    have hfr := fromF_le hok
    have hln : (wF ⟨a0_0, a0_1, a0_2, a0_3, a0_4, a0_5, a0_6, a0_7, a0_8, a0_9⟩ l0_10).length = (rawF ⟨a0_0, a0_1, a0_2, a0_3, a0_4, a0_5, a0_6, a0_7, a0_8, a0_9⟩ l0_10).length + 10 := by rw [e1, List.length_append, ones_len]
    obtain ⟨R, hR⟩ : ∃ R, (rawF ⟨a0_0, a0_1, a0_2, a0_3, a0_4, a0_5, a0_6, a0_7, a0_8, a0_9⟩ l0_10).length = R := ⟨_, rfl⟩
    obtain ⟨fr, hfrr⟩ : ∃ fr, fromF ⟨a0_0, a0_1, a0_2, a0_3, a0_4, a0_5, a0_6, a0_7, a0_8, a0_9⟩ l0_10 = fr := ⟨_, rfl⟩
    obtain ⟨q, hq⟩ : ∃ q, at_ % (R + 9 - fr) = q := ⟨_, rfl⟩
    have hq2 : q < R + 9 - fr := by rw [← hq]; exact Nat.mod_lt _ (by omega)
    have hgb : (wF ⟨a0_0, a0_1, a0_2, a0_3, a0_4, a0_5, a0_6, a0_7, a0_8, a0_9⟩ l0_10).getD (fr + q) 0 ≤ 1 := by
      have := chk_bit hc
      exact this _ (List.mem_of_getElem? (i := fr + q) (by simp [List.getD, List.getElem?_eq_getElem (show fr + q < (wF ⟨a0_0, a0_1, a0_2, a0_3, a0_4, a0_5, a0_6, a0_7, a0_8, a0_9⟩ l0_10).length by omega)]))
    obtain ⟨t1, t2, t3⟩ := turn_any hok hW hbB (k := fr + q) (v := (wF ⟨a0_0, a0_1, a0_2, a0_3, a0_4, a0_5, a0_6, a0_7, a0_8, a0_9⟩ l0_10).getD (fr + q) 0 ^^^ 1) (by omega) (by omega) (xor1_le _ hgb) (xor1_ne _ hgb)
    have S3 := Lib.hid (fun w' (a' : Option Addr) (c' : Nat) (n : Nb w w') (h : Bs w' a' c' ((wF ⟨a0_0, a0_1, a0_2, a0_3, a0_4, a0_5, a0_6, a0_7, a0_8, a0_9⟩ l0_10).set (fr + q) ((wF ⟨a0_0, a0_1, a0_2, a0_3, a0_4, a0_5, a0_6, a0_7, a0_8, a0_9⟩ l0_10).getD (fr + q) 0 ^^^ 1))) => by
      have := scan9_any true a' c' _ w' h (HK.out.below n)
      rw [rowS_of t1, chkE, if_pos t1, List.length_set] at this
      exact this)
    have SM := Lib.hid (fun w' (a' : Option Addr) (c' : Nat) (n : Nb w w') (h : Bs w' a' c' l0_10) => by
      have := same5_any ⟨a0_0, a0_1, a0_2, a0_3, a0_4, a0_5, a0_6, a0_7, a0_8, a0_9⟩ ⟨a0_0, a0_1, a0_2, a0_3, a0_4, a0_5, a0_6, a0_7, a0_8, a0_9⟩ a' a0_10 c' cap0_10 l0_10 l0_10 w' h (HA.out.below n)
      rw [sameF_rfl] at this
      exact this)
    have hkind := okF_kind hok
    have hxr := xor1 _ hgb
    rw [e2, hR] at F1 t2 t3
    have hfr2 : fr ≤ R := by omega
    have hRb : R ≤ 100000 := by omega
    have hln2 : (wF ⟨a0_0, a0_1, a0_2, a0_3, a0_4, a0_5, a0_6, a0_7, a0_8, a0_9⟩ l0_10).length = R + 10 := by omega
    have HLN := Lib.hid hln2
    have hwb : (wF ⟨a0_0, a0_1, a0_2, a0_3, a0_4, a0_5, a0_6, a0_7, a0_8, a0_9⟩ l0_10).length ≤ 100010 := by omega
    have hw1 : 10 ≤ (wF ⟨a0_0, a0_1, a0_2, a0_3, a0_4, a0_5, a0_6, a0_7, a0_8, a0_9⟩ l0_10).length := by omega
    have hkI : ((fr : Int) + (q : Int)) < ((wF ⟨a0_0, a0_1, a0_2, a0_3, a0_4, a0_5, a0_6, a0_7, a0_8, a0_9⟩ l0_10).length : Int) := by omega
    have hkN : fr + q < (wF ⟨a0_0, a0_1, a0_2, a0_3, a0_4, a0_5, a0_6, a0_7, a0_8, a0_9⟩ l0_10).length := by omega
    have hrem : Int.tmod (at_ : Int) (((wF ⟨a0_0, a0_1, a0_2, a0_3, a0_4, a0_5, a0_6, a0_7, a0_8, a0_9⟩ l0_10).length : Int) - 1 - (fr : Int)) = (q : Int) := by
      rw [hln2, Int.tmod_eq_emod_of_nonneg (by omega), show ((R + 10 : Nat) : Int) - 1 - (fr : Int) = ((R + 9 - fr : Nat) : Int) by omega, ← hq]
      rfl
    have hdz : ((((wF ⟨a0_0, a0_1, a0_2, a0_3, a0_4, a0_5, a0_6, a0_7, a0_8, a0_9⟩ l0_10).length : Int) - 1 - (fr : Int)) == 0) = false := by rw [beq_eq_false_iff_ne]; omega
    have hwr : wrap64 (((wF ⟨a0_0, a0_1, a0_2, a0_3, a0_4, a0_5, a0_6, a0_7, a0_8, a0_9⟩ l0_10).length : Int) - 1 - (fr : Int)) = ((wF ⟨a0_0, a0_1, a0_2, a0_3, a0_4, a0_5, a0_6, a0_7, a0_8, a0_9⟩ l0_10).length : Int) - 1 - (fr : Int) := by unfold wrap64; omega
    clear hln hln2
    rcases hkind with hk | hk | hk
    · simp only at hk
      subst hk
      have hF0 : fr = (rawF ⟨1, a0_1, a0_2, a0_3, a0_4, a0_5, a0_6, a0_7, a0_8, a0_9⟩ l0_10).length := by rw [← hfrr]; simp [fromF]
      have hF : (R : Int) = (fr : Int) := by omega
      clear hF0
      clear hfr hfrr hR t1 hq e1 e2 e3 e4 e5 e6 e7 hc hok hW hbB
      generalize wF _ l0_10 = W at *
      generalize arbF _ l0_10 = N at *
      go_enter Tryz.func5, Tryz.ntmps5
      go_wp2_with fail
      refine (alive9_any _ (HK.out.below M0.out)).mono ?_
      rintro e w1 ⟨rfl, n1⟩
      have Q1 := Lib.hid (QF.out.nb n1)
      have M1 := Lib.hid (M0.out.tr n1)
      clear n1
      obtain ⟨c0, c1, c2, c3, c4, c5, c6, c7, c8, c9, c10⟩ := Q1.out.c11
      go_wp2_with fail
      refine (F0.out _ M1.out).mono ?_
      rintro e w2 ⟨rfl, n2⟩
      have Q2 := Lib.hid (Q1.out.nb n2)
      have M2 := Lib.hid (M1.out.tr n2)
      clear n2 c0 c1 c2 c3 c4 c5 c6 c7 c8 c9 c10
      obtain ⟨c0, c1, c2, c3, c4, c5, c6, c7, c8, c9, c10⟩ := Q2.out.c11
      go_wp2_with fail
      refine (F1.out _ M2.out).mono ?_
      rintro e w3 ⟨⟨a3, k3, rfl, f3⟩, n3⟩
      obtain ⟨g, k3', he3⟩ := f3.1.shape (by omega)
      simp only [Value.slice.injEq, true_and] at he3
      obtain ⟨rfl, rfl⟩ := he3
      have M3 := Lib.hid (M2.out.tr n3)
      have Q3 := Lib.hid (Q2.out.nb n3)
      have lt3 : w.heap.size < w3.heap.size := Q3.out.lt
      have O3 := Lib.hid f3
      have lg : g < w3.heap.size := O3.out.1.lt (g := g) rfl
      have ng : ¬ g = w3.heap.size := by omega
      clear n3 f3 c0 c1 c2 c3 c4 c5 c6 c7 c8 c9 c10
      obtain ⟨c0, c1, c2, c3, c4, c5, c6, c7, c8, c9, c10⟩ := Q3.out.c11
      have z0 := O3.out.1.cell (fr + q) (by omega)
      have z1 : w3.frozen? ⟨g, fr + q, none⟩ = false := O3.out.1.frozen (g := g) rfl _
      generalize W.getD (fr + q) 0 = u at *
      go_wp2_with fail
      · exfalso
        have := HLN.out
        omega
      have hu2 : u ^^^ 1 ≤ 1 := xor1_le _ hgb
      have hO := O3.out.1.setByte (g := g) rfl (fr + q) hkN (u ^^^ 1) (by omega)
      have hg2 : w2.heap.size ≤ g := O3.out.2 g rfl
      have hs2 := M2.out.size
      have hw2 : w.heap.size < w2.heap.size := Q2.out.lt
      obtain ⟨w5, hw5⟩ : ∃ w5, w5 = (w3.setCell ⟨g, fr + q, none⟩ (.int .u8 ((u ^^^ 1 : Nat) : Int))).alloc (.cells #[.slice (some ⟨g, 0, none⟩) W.length k3, .int .i64 N, .int .i64 ((fr : Int) + 1)] 43) := ⟨_, rfl⟩
      have M5 := Lib.hid (show Nb w w5 by rw [hw5]; exact (M3.out.st (by show w.heap.size ≤ g; omega) _).al _)
      have B5 := Lib.hid (show Bs w5 (some ⟨g, 0, none⟩) k3 (W.set (fr + q) (u ^^^ 1)) by rw [hw5]; exact hO.asBs.1.below (Nb.rfl.al _))
      have Q5 := Lib.hid (show Blk w5 w.heap.size _ 29 by rw [hw5]; exact (Q3.out.other (p := ⟨g, fr + q, none⟩) (by show w.heap.size ≠ g; omega) _).nb (Nb.rfl.al _))
      have hsz : (w3.setCell ⟨g, fr + q, none⟩ (.int .u8 ((u ^^^ 1 : Nat) : Int))).heap.size = w3.heap.size := by simp [World.setCell]
      have yb := Blk.new (w3.setCell ⟨g, fr + q, none⟩ (.int .u8 ((u ^^^ 1 : Nat) : Int))) #[.slice (some ⟨g, 0, none⟩) W.length k3, .int .i64 N, .int .i64 ((fr : Int) + 1)] 43
      rw [hsz, ← hw5] at yb
      have Y5 := Lib.hid yb
      rw [← hw5]
      clear hw5 yb hO z0 z1 hsz c0 c1 c2 c3 c4 c5 c6 c7 c8 c9 c10
      generalize W.set (fr + q) (u ^^^ 1) = W2 at *
      refine (S3.out _ _ k3 M5.out B5.out).mono ?_
      rintro e w6 ⟨⟨a6, k6, rfl, b6⟩, n6⟩
      have M6 := Lib.hid (M5.out.tr n6)
      have Q6 := Lib.hid (Q5.out.nb n6)
      have Y6 := Lib.hid (Y5.out.nb n6)
      have lt6 : w.heap.size < w6.heap.size := Q6.out.lt
      have lt6' : w3.heap.size < w6.heap.size := Y6.out.lt
      clear n6
      by_cases hkr : fr + q = R + 1
      · have hq1 : True := trivial
        rw [t2 hkr] at b6 ⊢
        have dk : ((fr : Int) + (q : Int) == (R : Int) + 1) = true := by rw [beq_iff_eq]; omega
        have dk1 : ((fr : Int) + (q : Int) == (fr : Int) + 1) = true := by rw [beq_iff_eq]; omega
        simp only [staV, doneS]
        obtain ⟨w7, hw7⟩ : ∃ w7, w7 = w6.alloc (.cells #[.int .i64 2, .int .i64 0, .int .i64 1, .int .u32 a0_1, .bool a0_2, .bool a0_3, .bool a0_4, .bool a0_5, .bool a0_6, .int .u8 a0_7, .int .u8 a0_8, .int .u32 a0_9, .slice a6 l0_10.length k6] 31) := ⟨_, rfl⟩
        have n67 : Nb w6 w7 := by rw [hw7]; exact Nb.rfl.al _
        have X7 := Lib.hid (show Blk w7 w6.heap.size #[.int .i64 2, .int .i64 0, .int .i64 1, .int .u32 a0_1, .bool a0_2, .bool a0_3, .bool a0_4, .bool a0_5, .bool a0_6, .int .u8 a0_7, .int .u8 a0_8, .int .u32 a0_9, .slice a6 l0_10.length k6] 31 by rw [hw7]; exact Blk.new _ _ _)
        have M7 := Lib.hid (M6.out.tr n67)
        have B7 := Lib.hid (show Bs w7 a6 k6 l0_10 from b6.below n67)
        have E7 := Lib.hid hw7
        obtain ⟨c0, c1, c2, c3, c4, c5, c6, c7, c8, c9, c10⟩ := (Q6.out.nb n67).c11
        obtain ⟨y0, y1, y2⟩ := (Y6.out.nb n67).c3
        obtain ⟨x0, x1, x2, x3, x4, x5, x6, x7, x8, x9, x10, x11, x12⟩ := X7.out.c13
        rw [hw7] at c0 c1 c2 c3 c4 c5 c6 c7 c8 c9 c10 y0 y1 y2 x0 x1 x2 x3 x4 x5 x6 x7 x8 x9 x10 x11 x12
        clear hw7 n67 b6 t2 t3
        go_wp2_with fail
        rw [← E7.out]
        refine (SM.out _ a6 k6 M7.out B7.out).mono ?_
        rintro e w8 ⟨rfl, n8⟩
        have M8 := Lib.hid (M7.out.tr n8)
        clear n8
        go_wp2
        go_ret
        exact ⟨rfl, M8.out⟩
      · have hs := t3 hkr
        generalize staOf (scS true W2) = s at *
        have ds : ((s.k : Int) != 2) = true := by rw [bne_iff_ne]; omega
        have dk : ((fr : Int) + (q : Int) == (R : Int) + 1) = false := by rw [beq_eq_false_iff_ne]; omega
        have dk1 : ((fr : Int) + (q : Int) == (fr : Int) + 1) = false := by rw [beq_eq_false_iff_ne]; omega
        have dq1 : ((q : Int) == 1) = false := by rw [beq_eq_false_iff_ne]; omega
        simp only [staV]
        obtain ⟨y0, y1, y2⟩ := Y6.out.c3
        obtain ⟨c0, c1, c2, c3, c4, c5, c6, c7, c8, c9, c10⟩ := Q6.out.c11
        clear b6 t2 t3 hkr
        go_wp2
        go_ret
        exact ⟨rfl, M6.out.al _⟩
    · simp only at hk
      subst hk
      have hoD : okD ⟨2, a0_1, a0_2, a0_3, a0_4, a0_5, a0_6, a0_7, a0_8, a0_9⟩ l0_10 = true := by simp [okD, hok]
      have hF : (putL (bdC ⟨2, a0_1, a0_2, a0_3, a0_4, a0_5, a0_6, a0_7, a0_8, a0_9⟩ l0_10)).length = fr := by rw [← hfrr]; simp [fromF]
      have hbl2 := bd_len hoD
      have hl64 := len64 hoD
      have hchb : chk (bdC ⟨2, a0_1, a0_2, a0_3, a0_4, a0_5, a0_6, a0_7, a0_8, a0_9⟩ l0_10) = true := chk_of bd_bit (by omega)
      obtain ⟨s1, s2, s3⟩ := sp_ok hchb (by omega)
      have hRP : fr < R := by
        have : rawF ⟨2, a0_1, a0_2, a0_3, a0_4, a0_5, a0_6, a0_7, a0_8, a0_9⟩ l0_10 = rwD ⟨2, a0_1, a0_2, a0_3, a0_4, a0_5, a0_6, a0_7, a0_8, a0_9⟩ l0_10 := by simp [rawF]
        rw [← hR, this, rw_len, hF]
        split <;> omega
      have F2 := Lib.hid (fun w' (n : Nb w w') => by
        have := body7_any ⟨2, a0_1, a0_2, a0_3, a0_4, a0_5, a0_6, a0_7, a0_8, a0_9⟩ a0_10 cap0_10 l0_10 w' (HA.out.below n) hW.1 (HK.out.below n).2
        rw [show okDE ⟨2, a0_1, a0_2, a0_3, a0_4, a0_5, a0_6, a0_7, a0_8, a0_9⟩ l0_10 = 0 by rw [okDE, if_pos hoD]] at this
        simp only [Hd.cs] at this
        exact this)
      have F3 := Lib.hid (fun w' (a' : Option Addr) (c' : Nat) (hb : Bs w' a' c' (bdC ⟨2, a0_1, a0_2, a0_3, a0_4, a0_5, a0_6, a0_7, a0_8, a0_9⟩ l0_10)) => by
        have := sput_u a' c' (bdC ⟨2, a0_1, a0_2, a0_3, a0_4, a0_5, a0_6, a0_7, a0_8, a0_9⟩ l0_10) w' hb
        rw [s1, s2] at this
        exact this)
      clear s1 s2 s3 hchb hbl2 hl64 hoD
      generalize putL (bdC ⟨2, a0_1, a0_2, a0_3, a0_4, a0_5, a0_6, a0_7, a0_8, a0_9⟩ l0_10) = P at *
      generalize bdC ⟨2, a0_1, a0_2, a0_3, a0_4, a0_5, a0_6, a0_7, a0_8, a0_9⟩ l0_10 = L at *
      have dge : decide ((R : Int) ≤ (P.length : Int)) = false := decide_eq_false (by omega)
      subst hF
      clear hfr hfrr hR t1 hq e1 e2 e3 e4 e5 e6 e7 hc hok hW hbB
      generalize wF _ l0_10 = W at *
      generalize arbF _ l0_10 = N at *
      go_enter Tryz.func5, Tryz.ntmps5
      go_wp2_with fail
      refine (alive9_any _ (HK.out.below M0.out)).mono ?_
      rintro e w1 ⟨rfl, n1⟩
      have Q1 := Lib.hid (QF.out.nb n1)
      have M1 := Lib.hid (M0.out.tr n1)
      clear n1
      obtain ⟨c0, c1, c2, c3, c4, c5, c6, c7, c8, c9, c10⟩ := Q1.out.c11
      go_wp2_with fail
      refine (F0.out _ M1.out).mono ?_
      rintro e w2 ⟨rfl, n2⟩
      have Q2 := Lib.hid (Q1.out.nb n2)
      have M2 := Lib.hid (M1.out.tr n2)
      clear n2 c0 c1 c2 c3 c4 c5 c6 c7 c8 c9 c10
      obtain ⟨c0, c1, c2, c3, c4, c5, c6, c7, c8, c9, c10⟩ := Q2.out.c11
      go_wp2_with fail
      refine (F1.out _ M2.out).mono ?_
      rintro e w3 ⟨⟨a3, k3, rfl, f3⟩, n3⟩
      obtain ⟨g, k3', he3⟩ := f3.1.shape (by omega)
      simp only [Value.slice.injEq, true_and] at he3
      obtain ⟨rfl, rfl⟩ := he3
      have M3 := Lib.hid (M2.out.tr n3)
      have Q3 := Lib.hid (Q2.out.nb n3)
      have lt3 : w.heap.size < w3.heap.size := Q3.out.lt
      have O3 := Lib.hid f3
      have lg : g < w3.heap.size := O3.out.1.lt (g := g) rfl
      have ng : ¬ g = w3.heap.size := by omega
      clear n3 f3 c0 c1 c2 c3 c4 c5 c6 c7 c8 c9 c10
      obtain ⟨c0, c1, c2, c3, c4, c5, c6, c7, c8, c9, c10⟩ := Q3.out.c11
      have hg2 : w2.heap.size ≤ g := O3.out.2 g rfl
      have hs2 := M2.out.size
      have hw2 : w.heap.size < w2.heap.size := Q2.out.lt
      go_wp2_with fail
      obtain ⟨w4, hw4⟩ : ∃ w4, w4 = w3.alloc (.cells #[.slice (some ⟨g, 0, none⟩) W.length k3, .int .i64 N, .int .i64 ((R : Int) + 1)] 43) := ⟨_, rfl⟩
      have n34 : Nb w3 w4 := by rw [hw4]; exact Nb.rfl.al _
      have Y4 := Lib.hid (show Blk w4 w3.heap.size #[.slice (some ⟨g, 0, none⟩) W.length k3, .int .i64 N, .int .i64 ((R : Int) + 1)] 43 by rw [hw4]; exact Blk.new _ _ _)
      rw [← hw4]
      have M4 := Lib.hid (M3.out.tr n34)
      have Q4 := Lib.hid (Q3.out.nb n34)
      have O4 := Lib.hid (O3.out.keep n34)
      clear hw4 n34 c0 c1 c2 c3 c4 c5 c6 c7 c8 c9 c10
      refine (F2.out _ M4.out).mono ?_
      rintro e w5 ⟨⟨a5, k5, rfl, f5⟩, n5⟩
      have M5 := Lib.hid (M4.out.tr n5)
      have Q5 := Lib.hid (Q4.out.nb n5)
      have O5 := Lib.hid (O4.out.keep n5)
      have Y5 := Lib.hid (Y4.out.nb n5)
      have B5 := Lib.hid f5.bs.1
      clear n5 f5
      go_wp2_with fail
      refine (F3.out _ a5 k5 B5.out).mono ?_
      rintro e w6 ⟨⟨a6, k6, rfl, f6⟩, n6⟩
      have M6 := Lib.hid (M5.out.tr n6)
      have Q6 := Lib.hid (Q5.out.nb n6)
      have O6 := Lib.hid (O5.out.keep n6)
      have Y6 := Lib.hid (Y5.out.nb n6)
      clear n6 f6 B5
      obtain ⟨y0, y1, y2⟩ := Y6.out.c3
      have z0 := O6.out.1.cell (P.length + q) (by omega)
      have z1 : w6.frozen? ⟨g, P.length + q, none⟩ = false := O6.out.1.frozen (g := g) rfl _
      generalize W.getD (P.length + q) 0 = u at *
      go_wp2_with fail
      · exfalso
        have := HLN.out
        omega
      have hu2 : u ^^^ 1 ≤ 1 := xor1_le _ hgb
      have hO := O6.out.1.setByte (g := g) rfl (P.length + q) hkN (u ^^^ 1) (by omega)
      obtain ⟨w8, hw8⟩ : ∃ w8, w8 = w6.setCell ⟨g, P.length + q, none⟩ (.int .u8 ((u ^^^ 1 : Nat) : Int)) := ⟨_, rfl⟩
      have M5 := Lib.hid (show Nb w w8 by rw [hw8]; exact M6.out.st (by show w.heap.size ≤ g; omega) _)
      have B5 := Lib.hid (show Bs w8 (some ⟨g, 0, none⟩) k3 (W.set (P.length + q) (u ^^^ 1)) by rw [hw8]; exact hO.asBs.1)
      have Q5 := Lib.hid (show Blk w8 w.heap.size _ 29 by rw [hw8]; exact Q6.out.other (p := ⟨g, P.length + q, none⟩) (by show w.heap.size ≠ g; omega) _)
      have Y5 := Lib.hid (show Blk w8 w3.heap.size _ 43 by rw [hw8]; exact Y6.out.other (p := ⟨g, P.length + q, none⟩) (by show w3.heap.size ≠ g; omega) _)
      rw [← hw8]
      clear hw8 hO z0 z1 y0 y1 y2 M6 Q6 O6 Y6
      generalize W.set (P.length + q) (u ^^^ 1) = W2 at *
      refine (S3.out _ _ k3 M5.out B5.out).mono ?_
      rintro e w6 ⟨⟨a6, k6, rfl, b6⟩, n6⟩
      have M6 := Lib.hid (M5.out.tr n6)
      have Q6 := Lib.hid (Q5.out.nb n6)
      have Y6 := Lib.hid (Y5.out.nb n6)
      have lt6 : w.heap.size < w6.heap.size := Q6.out.lt
      have lt6' : w3.heap.size < w6.heap.size := Y6.out.lt
      clear n6
      by_cases hkr : P.length + q = R + 1
      · have hq1 : True := trivial
        rw [t2 hkr] at b6 ⊢
        have dk : ((P.length : Int) + (q : Int) == (R : Int) + 1) = true := by rw [beq_iff_eq]; omega
        have hq2 : True := trivial
        simp only [staV, doneS]
        obtain ⟨w7, hw7⟩ : ∃ w7, w7 = w6.alloc (.cells #[.int .i64 2, .int .i64 0, .int .i64 2, .int .u32 a0_1, .bool a0_2, .bool a0_3, .bool a0_4, .bool a0_5, .bool a0_6, .int .u8 a0_7, .int .u8 a0_8, .int .u32 a0_9, .slice a6 l0_10.length k6] 31) := ⟨_, rfl⟩
        have n67 : Nb w6 w7 := by rw [hw7]; exact Nb.rfl.al _
        have X7 := Lib.hid (show Blk w7 w6.heap.size #[.int .i64 2, .int .i64 0, .int .i64 2, .int .u32 a0_1, .bool a0_2, .bool a0_3, .bool a0_4, .bool a0_5, .bool a0_6, .int .u8 a0_7, .int .u8 a0_8, .int .u32 a0_9, .slice a6 l0_10.length k6] 31 by rw [hw7]; exact Blk.new _ _ _)
        have M7 := Lib.hid (M6.out.tr n67)
        have B7 := Lib.hid (show Bs w7 a6 k6 l0_10 from b6.below n67)
        have E7 := Lib.hid hw7
        obtain ⟨c0, c1, c2, c3, c4, c5, c6, c7, c8, c9, c10⟩ := (Q6.out.nb n67).c11
        obtain ⟨y0, y1, y2⟩ := (Y6.out.nb n67).c3
        obtain ⟨x0, x1, x2, x3, x4, x5, x6, x7, x8, x9, x10, x11, x12⟩ := X7.out.c13
        rw [hw7] at c0 c1 c2 c3 c4 c5 c6 c7 c8 c9 c10 y0 y1 y2 x0 x1 x2 x3 x4 x5 x6 x7 x8 x9 x10 x11 x12
        clear hw7 n67 b6 t2 t3
        go_wp2_with fail
        rw [← E7.out]
        refine (SM.out _ a6 k6 M7.out B7.out).mono ?_
        rintro e w8 ⟨rfl, n8⟩
        have M8 := Lib.hid (M7.out.tr n8)
        clear n8
        go_wp2
        go_ret
        exact ⟨rfl, M8.out⟩
      · have hs := t3 hkr
        generalize staOf (scS true W2) = s at *
        have ds : ((s.k : Int) != 2) = true := by rw [bne_iff_ne]; omega
        have dk : ((P.length : Int) + (q : Int) == (R : Int) + 1) = false := by rw [beq_eq_false_iff_ne]; omega
        have hq2 : True := trivial
        simp only [staV]
        obtain ⟨y0, y1, y2⟩ := Y6.out.c3
        obtain ⟨c0, c1, c2, c3, c4, c5, c6, c7, c8, c9, c10⟩ := Q6.out.c11
        clear b6 t2 t3 hkr
        go_wp2
        go_ret
        exact ⟨rfl, M6.out.al _⟩
    · simp only at hk
      subst hk
      have hF : arbF ⟨3, a0_1, a0_2, a0_3, a0_4, a0_5, a0_6, a0_7, a0_8, a0_9⟩ l0_10 = fr := by rw [← hfrr]; simp [fromF]
      clear hfr hfrr hR t1 hq e1 e2 e3 e4 e5 e6 e7 hc hok hW hbB
      generalize wF _ l0_10 = W at *
      generalize arbF _ l0_10 = N at *
      go_enter Tryz.func5, Tryz.ntmps5
      go_wp2_with fail
      refine (alive9_any _ (HK.out.below M0.out)).mono ?_
      rintro e w1 ⟨rfl, n1⟩
      have Q1 := Lib.hid (QF.out.nb n1)
      have M1 := Lib.hid (M0.out.tr n1)
      clear n1
      obtain ⟨c0, c1, c2, c3, c4, c5, c6, c7, c8, c9, c10⟩ := Q1.out.c11
      go_wp2_with fail
      refine (F0.out _ M1.out).mono ?_
      rintro e w2 ⟨rfl, n2⟩
      have Q2 := Lib.hid (Q1.out.nb n2)
      have M2 := Lib.hid (M1.out.tr n2)
      clear n2 c0 c1 c2 c3 c4 c5 c6 c7 c8 c9 c10
      obtain ⟨c0, c1, c2, c3, c4, c5, c6, c7, c8, c9, c10⟩ := Q2.out.c11
      go_wp2_with fail
      refine (F1.out _ M2.out).mono ?_
      rintro e w3 ⟨⟨a3, k3, rfl, f3⟩, n3⟩
      obtain ⟨g, k3', he3⟩ := f3.1.shape (by omega)
      simp only [Value.slice.injEq, true_and] at he3
      obtain ⟨rfl, rfl⟩ := he3
      have M3 := Lib.hid (M2.out.tr n3)
      have Q3 := Lib.hid (Q2.out.nb n3)
      have lt3 : w.heap.size < w3.heap.size := Q3.out.lt
      have O3 := Lib.hid f3
      have lg : g < w3.heap.size := O3.out.1.lt (g := g) rfl
      have ng : ¬ g = w3.heap.size := by omega
      clear n3 f3 c0 c1 c2 c3 c4 c5 c6 c7 c8 c9 c10
      obtain ⟨c0, c1, c2, c3, c4, c5, c6, c7, c8, c9, c10⟩ := Q3.out.c11
      have z0 := O3.out.1.cell (fr + q) (by omega)
      have z1 : w3.frozen? ⟨g, fr + q, none⟩ = false := O3.out.1.frozen (g := g) rfl _
      generalize W.getD (fr + q) 0 = u at *
      go_wp2_with fail
      · exfalso
        have := HLN.out
        omega
      have hu2 : u ^^^ 1 ≤ 1 := xor1_le _ hgb
      have hO := O3.out.1.setByte (g := g) rfl (fr + q) hkN (u ^^^ 1) (by omega)
      have hg2 : w2.heap.size ≤ g := O3.out.2 g rfl
      have hs2 := M2.out.size
      have hw2 : w.heap.size < w2.heap.size := Q2.out.lt
      obtain ⟨w5, hw5⟩ : ∃ w5, w5 = (w3.setCell ⟨g, fr + q, none⟩ (.int .u8 ((u ^^^ 1 : Nat) : Int))).alloc (.cells #[.slice (some ⟨g, 0, none⟩) W.length k3, .int .i64 fr, .int .i64 ((R : Int) + 1)] 43) := ⟨_, rfl⟩
      have M5 := Lib.hid (show Nb w w5 by rw [hw5]; exact (M3.out.st (by show w.heap.size ≤ g; omega) _).al _)
      have B5 := Lib.hid (show Bs w5 (some ⟨g, 0, none⟩) k3 (W.set (fr + q) (u ^^^ 1)) by rw [hw5]; exact hO.asBs.1.below (Nb.rfl.al _))
      have Q5 := Lib.hid (show Blk w5 w.heap.size _ 29 by rw [hw5]; exact (Q3.out.other (p := ⟨g, fr + q, none⟩) (by show w.heap.size ≠ g; omega) _).nb (Nb.rfl.al _))
      have hsz : (w3.setCell ⟨g, fr + q, none⟩ (.int .u8 ((u ^^^ 1 : Nat) : Int))).heap.size = w3.heap.size := by simp [World.setCell]
      have yb := Blk.new (w3.setCell ⟨g, fr + q, none⟩ (.int .u8 ((u ^^^ 1 : Nat) : Int))) #[.slice (some ⟨g, 0, none⟩) W.length k3, .int .i64 fr, .int .i64 ((R : Int) + 1)] 43
      rw [hsz, ← hw5] at yb
      have Y5 := Lib.hid yb
      rw [← hw5]
      clear hw5 yb hO z0 z1 hsz c0 c1 c2 c3 c4 c5 c6 c7 c8 c9 c10
      generalize W.set (fr + q) (u ^^^ 1) = W2 at *
      refine (S3.out _ _ k3 M5.out B5.out).mono ?_
      rintro e w6 ⟨⟨a6, k6, rfl, b6⟩, n6⟩
      have M6 := Lib.hid (M5.out.tr n6)
      have Q6 := Lib.hid (Q5.out.nb n6)
      have Y6 := Lib.hid (Y5.out.nb n6)
      have lt6 : w.heap.size < w6.heap.size := Q6.out.lt
      have lt6' : w3.heap.size < w6.heap.size := Y6.out.lt
      clear n6
      by_cases hkr : fr + q = R + 1
      · have hq1 : True := trivial
        rw [t2 hkr] at b6 ⊢
        have dk : ((fr : Int) + (q : Int) == (R : Int) + 1) = true := by rw [beq_iff_eq]; omega
        have hq2 : True := trivial
        simp only [staV, doneS]
        obtain ⟨w7, hw7⟩ : ∃ w7, w7 = w6.alloc (.cells #[.int .i64 2, .int .i64 0, .int .i64 3, .int .u32 a0_1, .bool a0_2, .bool a0_3, .bool a0_4, .bool a0_5, .bool a0_6, .int .u8 a0_7, .int .u8 a0_8, .int .u32 a0_9, .slice a6 l0_10.length k6] 31) := ⟨_, rfl⟩
        have n67 : Nb w6 w7 := by rw [hw7]; exact Nb.rfl.al _
        have X7 := Lib.hid (show Blk w7 w6.heap.size #[.int .i64 2, .int .i64 0, .int .i64 3, .int .u32 a0_1, .bool a0_2, .bool a0_3, .bool a0_4, .bool a0_5, .bool a0_6, .int .u8 a0_7, .int .u8 a0_8, .int .u32 a0_9, .slice a6 l0_10.length k6] 31 by rw [hw7]; exact Blk.new _ _ _)
        have M7 := Lib.hid (M6.out.tr n67)
        have B7 := Lib.hid (show Bs w7 a6 k6 l0_10 from b6.below n67)
        have E7 := Lib.hid hw7
        obtain ⟨c0, c1, c2, c3, c4, c5, c6, c7, c8, c9, c10⟩ := (Q6.out.nb n67).c11
        obtain ⟨y0, y1, y2⟩ := (Y6.out.nb n67).c3
        obtain ⟨x0, x1, x2, x3, x4, x5, x6, x7, x8, x9, x10, x11, x12⟩ := X7.out.c13
        rw [hw7] at c0 c1 c2 c3 c4 c5 c6 c7 c8 c9 c10 y0 y1 y2 x0 x1 x2 x3 x4 x5 x6 x7 x8 x9 x10 x11 x12
        clear hw7 n67 b6 t2 t3
        go_wp2_with fail
        rw [← E7.out]
        refine (SM.out _ a6 k6 M7.out B7.out).mono ?_
        rintro e w8 ⟨rfl, n8⟩
        have M8 := Lib.hid (M7.out.tr n8)
        clear n8
        go_wp2
        go_ret
        exact ⟨rfl, M8.out⟩
      · have hs := t3 hkr
        generalize staOf (scS true W2) = s at *
        have ds : ((s.k : Int) != 2) = true := by rw [bne_iff_ne]; omega
        have dk : ((fr : Int) + (q : Int) == (R : Int) + 1) = false := by rw [beq_eq_false_iff_ne]; omega
        have hq2 : True := trivial
        simp only [staV]
        obtain ⟨y0, y1, y2⟩ := Y6.out.c3
        obtain ⟨c0, c1, c2, c3, c4, c5, c6, c7, c8, c9, c10⟩ := Q6.out.c11
        clear b6 t2 t3 hkr
        go_wp2
        go_ret
        exact ⟨rfl, M6.out.al _⟩

theorem door_met (os : Os) (args : Array Value) : laidMetH Tryz.prog Rows.scanTurnsRow.laid ((World.doorLaid Tryz.prog 24 os).forCall (fun _ _ => 0) ⟨#[], args, []⟩).memory :=
  laidMetH_of_parts3 (fuel := 8) (laidMet_of_run' 8 (by kernel_rfl) (by kernel_rfl)) (by kernel_rfl) (by kernel_rfl)
set_option maxHeartbeats 2000000 in
set_option maxRecDepth 100000 in
theorem lifted (os : Os) (started : os.Started) (H : Type) (enc : TypeId × Value → H) :
    ReturnsInHanded {} Tryz.checked os 5 .any (fun w args => (Rows.scanTurnsSpec.pre enc Tryz.prog Tryz.f5 [] false w args ∧ laidMetH Tryz.prog Rows.scanTurnsRow.laid w) ∧ sizedMet enc Tryz.prog Tryz.f5 (OpenSpec.ofChange Rows.scanTurnsSpec) false w args)
      (Rows.scanTurnsSpec.post enc Tryz.prog Tryz.f5 false true false false) := by
  refine returnsInHanded_of_change_and (C := Tryz.checked) (X := fun w _ => laidMetH Tryz.prog Rows.scanTurnsRow.laid w) (fun _ _ _ hh h => h.of_heap hh) own started (by kernel_rfl) Tryz.func5
    (ChangeSpec.witness_shaped (enc := enc) (C := Tryz.checked) (os := os) (X := fun w _ => laidMetH Tryz.prog Rows.scanTurnsRow.laid w) false (World.doorLaid Tryz.prog 24 os) #[.agg #[.int .i64 0, .int .u32 0, .bool false, .bool false, .bool false, .bool false, .bool false, .int .u8 0, .int .u8 0, .int .u32 0, .slice none 0 0], .int .u16 0] 8 rfl (World.shaped_of_RefB (by kernel_rfl) (by kernel_rfl)) (by kernel_rfl) (by kernel_rfl) (by kernel_rfl) (door_met os _)) ?_
  intro W base args ds gs before hval0 hW _ hR hL _
  have hval : ∀ (j : Nat) t v, Tryz.f5.params[j]? = some t → args[j]? = some v → Value.okWide Tryz.prog W .any base t v := hval0
  have hW' := hW
  obtain ⟨p, q, hA0, hV, rfl, hfz, hnd⟩ := hW
  have hA : DataW.TrodAll enc Tryz.prog W 0 (fun _ => true) true Tryz.f5.params.toList args.toList ds p := hA0
  rw [Tryz.params5] at hA hval
  obtain ⟨v0, vs0, d0, ds0, p0, q0, hargs, rfl, rfl, h0, r0⟩ := trodAll_cons hA
  obtain ⟨v1, vs1, d1, ds1, p1, q1, rfl, rfl, rfl, h1, r1⟩ := trodAll_cons r0
  obtain ⟨rfl, rfl, rfl⟩ := trodAll_nil r1
  obtain rfl : args = #[v0, v1] := by cases args; simp_all
  obtain ⟨rfl, rfl⟩ := trodVars_none hV
  have k0 := h0
  have lt0 : ∀ x ∈ p0, x.block < W.heap.size := by obtain ⟨m, hm⟩ := k0; exact DataW.trod_lt m _ _ _ hm
  have k1 := h1
  have lt1 : ∀ x ∈ p1, x.block < W.heap.size := by obtain ⟨m, hm⟩ := k1; exact DataW.trod_lt m _ _ _ hm
  clear hA0
  obtain ⟨cs0, rfl, hz0⟩ := okWide_struct Tryz.underlying29 (hval 0 29 v0 rfl rfl)
  obtain ⟨c0_0, c0_1, c0_2, c0_3, c0_4, c0_5, c0_6, c0_7, c0_8, c0_9, c0_10, rfl⟩ := arr11 (hz0.trans (by kernel_rfl))
  obtain ⟨fu0, hf0⟩ := h0
  have hc0 : DataW.trod enc Tryz.prog W 0 (fun _ => true) true fu0 29 [c0_0, c0_1, c0_2, c0_3, c0_4, c0_5, c0_6, c0_7, c0_8, c0_9, c0_10] = some (d0, p0) := hf0
  obtain ⟨m0_0, y0_0, g0_0⟩ := open_fld Tryz.underlying29 hc0 0 _ rfl
  have t0_0 : DataW.trod enc Tryz.prog W 0 (fun _ => true) true m0_0 3 (([c0_0, c0_1, c0_2, c0_3, c0_4, c0_5, c0_6, c0_7, c0_8, c0_9, c0_10].drop 0).take (Tryz.prog.cellsOf 3)) = some y0_0 := g0_0
  rw [show Tryz.prog.cellsOf 3 = 1 from by kernel_rfl] at t0_0
  have u0_0 : DataW.trod enc Tryz.prog W 0 (fun _ => true) true m0_0 3 [c0_0] = some y0_0 := t0_0
  obtain ⟨m0_1, y0_1, g0_1⟩ := open_fld Tryz.underlying29 hc0 1 _ rfl
  have t0_1 : DataW.trod enc Tryz.prog W 0 (fun _ => true) true m0_1 27 (([c0_0, c0_1, c0_2, c0_3, c0_4, c0_5, c0_6, c0_7, c0_8, c0_9, c0_10].drop 1).take (Tryz.prog.cellsOf 27)) = some y0_1 := g0_1
  rw [show Tryz.prog.cellsOf 27 = 1 from by kernel_rfl] at t0_1
  have u0_1 : DataW.trod enc Tryz.prog W 0 (fun _ => true) true m0_1 27 [c0_1] = some y0_1 := t0_1
  obtain ⟨m0_2, y0_2, g0_2⟩ := open_fld Tryz.underlying29 hc0 2 _ rfl
  have t0_2 : DataW.trod enc Tryz.prog W 0 (fun _ => true) true m0_2 4 (([c0_0, c0_1, c0_2, c0_3, c0_4, c0_5, c0_6, c0_7, c0_8, c0_9, c0_10].drop 2).take (Tryz.prog.cellsOf 4)) = some y0_2 := g0_2
  rw [show Tryz.prog.cellsOf 4 = 1 from by kernel_rfl] at t0_2
  have u0_2 : DataW.trod enc Tryz.prog W 0 (fun _ => true) true m0_2 4 [c0_2] = some y0_2 := t0_2
  obtain ⟨m0_3, y0_3, g0_3⟩ := open_fld Tryz.underlying29 hc0 3 _ rfl
  have t0_3 : DataW.trod enc Tryz.prog W 0 (fun _ => true) true m0_3 4 (([c0_0, c0_1, c0_2, c0_3, c0_4, c0_5, c0_6, c0_7, c0_8, c0_9, c0_10].drop 3).take (Tryz.prog.cellsOf 4)) = some y0_3 := g0_3
  rw [show Tryz.prog.cellsOf 4 = 1 from by kernel_rfl] at t0_3
  have u0_3 : DataW.trod enc Tryz.prog W 0 (fun _ => true) true m0_3 4 [c0_3] = some y0_3 := t0_3
  obtain ⟨m0_4, y0_4, g0_4⟩ := open_fld Tryz.underlying29 hc0 4 _ rfl
  have t0_4 : DataW.trod enc Tryz.prog W 0 (fun _ => true) true m0_4 4 (([c0_0, c0_1, c0_2, c0_3, c0_4, c0_5, c0_6, c0_7, c0_8, c0_9, c0_10].drop 4).take (Tryz.prog.cellsOf 4)) = some y0_4 := g0_4
  rw [show Tryz.prog.cellsOf 4 = 1 from by kernel_rfl] at t0_4
  have u0_4 : DataW.trod enc Tryz.prog W 0 (fun _ => true) true m0_4 4 [c0_4] = some y0_4 := t0_4
  obtain ⟨m0_5, y0_5, g0_5⟩ := open_fld Tryz.underlying29 hc0 5 _ rfl
  have t0_5 : DataW.trod enc Tryz.prog W 0 (fun _ => true) true m0_5 4 (([c0_0, c0_1, c0_2, c0_3, c0_4, c0_5, c0_6, c0_7, c0_8, c0_9, c0_10].drop 5).take (Tryz.prog.cellsOf 4)) = some y0_5 := g0_5
  rw [show Tryz.prog.cellsOf 4 = 1 from by kernel_rfl] at t0_5
  have u0_5 : DataW.trod enc Tryz.prog W 0 (fun _ => true) true m0_5 4 [c0_5] = some y0_5 := t0_5
  obtain ⟨m0_6, y0_6, g0_6⟩ := open_fld Tryz.underlying29 hc0 6 _ rfl
  have t0_6 : DataW.trod enc Tryz.prog W 0 (fun _ => true) true m0_6 4 (([c0_0, c0_1, c0_2, c0_3, c0_4, c0_5, c0_6, c0_7, c0_8, c0_9, c0_10].drop 6).take (Tryz.prog.cellsOf 4)) = some y0_6 := g0_6
  rw [show Tryz.prog.cellsOf 4 = 1 from by kernel_rfl] at t0_6
  have u0_6 : DataW.trod enc Tryz.prog W 0 (fun _ => true) true m0_6 4 [c0_6] = some y0_6 := t0_6
  obtain ⟨m0_7, y0_7, g0_7⟩ := open_fld Tryz.underlying29 hc0 7 _ rfl
  have t0_7 : DataW.trod enc Tryz.prog W 0 (fun _ => true) true m0_7 5 (([c0_0, c0_1, c0_2, c0_3, c0_4, c0_5, c0_6, c0_7, c0_8, c0_9, c0_10].drop 7).take (Tryz.prog.cellsOf 5)) = some y0_7 := g0_7
  rw [show Tryz.prog.cellsOf 5 = 1 from by kernel_rfl] at t0_7
  have u0_7 : DataW.trod enc Tryz.prog W 0 (fun _ => true) true m0_7 5 [c0_7] = some y0_7 := t0_7
  obtain ⟨m0_8, y0_8, g0_8⟩ := open_fld Tryz.underlying29 hc0 8 _ rfl
  have t0_8 : DataW.trod enc Tryz.prog W 0 (fun _ => true) true m0_8 5 (([c0_0, c0_1, c0_2, c0_3, c0_4, c0_5, c0_6, c0_7, c0_8, c0_9, c0_10].drop 8).take (Tryz.prog.cellsOf 5)) = some y0_8 := g0_8
  rw [show Tryz.prog.cellsOf 5 = 1 from by kernel_rfl] at t0_8
  have u0_8 : DataW.trod enc Tryz.prog W 0 (fun _ => true) true m0_8 5 [c0_8] = some y0_8 := t0_8
  obtain ⟨m0_9, y0_9, g0_9⟩ := open_fld Tryz.underlying29 hc0 9 _ rfl
  have t0_9 : DataW.trod enc Tryz.prog W 0 (fun _ => true) true m0_9 27 (([c0_0, c0_1, c0_2, c0_3, c0_4, c0_5, c0_6, c0_7, c0_8, c0_9, c0_10].drop 9).take (Tryz.prog.cellsOf 27)) = some y0_9 := g0_9
  rw [show Tryz.prog.cellsOf 27 = 1 from by kernel_rfl] at t0_9
  have u0_9 : DataW.trod enc Tryz.prog W 0 (fun _ => true) true m0_9 27 [c0_9] = some y0_9 := t0_9
  obtain ⟨m0_10, y0_10, g0_10⟩ := open_fld Tryz.underlying29 hc0 10 _ rfl
  have t0_10 : DataW.trod enc Tryz.prog W 0 (fun _ => true) true m0_10 22 (([c0_0, c0_1, c0_2, c0_3, c0_4, c0_5, c0_6, c0_7, c0_8, c0_9, c0_10].drop 10).take (Tryz.prog.cellsOf 22)) = some y0_10 := g0_10
  rw [show Tryz.prog.cellsOf 22 = 1 from by kernel_rfl] at t0_10
  have u0_10 : DataW.trod enc Tryz.prog W 0 (fun _ => true) true m0_10 22 [c0_10] = some y0_10 := t0_10
  obtain ⟨a0_0, e0_0, x0_0, w0_0⟩ := DataW.trod_int Tryz.underlying3 u0_0
  obtain rfl : c0_0 = .int .i64 a0_0 := by simpa using e0_0
  obtain ⟨a0_1, e0_1, x0_1, w0_1⟩ := DataW.trod_int Tryz.underlying27 u0_1
  obtain rfl : c0_1 = .int .u32 a0_1 := by simpa using e0_1
  obtain ⟨a0_2, e0_2, x0_2⟩ := DataW.trod_bool Tryz.underlying4 u0_2
  obtain rfl : c0_2 = .bool a0_2 := by simpa using e0_2
  obtain ⟨a0_3, e0_3, x0_3⟩ := DataW.trod_bool Tryz.underlying4 u0_3
  obtain rfl : c0_3 = .bool a0_3 := by simpa using e0_3
  obtain ⟨a0_4, e0_4, x0_4⟩ := DataW.trod_bool Tryz.underlying4 u0_4
  obtain rfl : c0_4 = .bool a0_4 := by simpa using e0_4
  obtain ⟨a0_5, e0_5, x0_5⟩ := DataW.trod_bool Tryz.underlying4 u0_5
  obtain rfl : c0_5 = .bool a0_5 := by simpa using e0_5
  obtain ⟨a0_6, e0_6, x0_6⟩ := DataW.trod_bool Tryz.underlying4 u0_6
  obtain rfl : c0_6 = .bool a0_6 := by simpa using e0_6
  obtain ⟨a0_7, e0_7, x0_7, w0_7⟩ := DataW.trod_int Tryz.underlying5 u0_7
  obtain rfl : c0_7 = .int .u8 a0_7 := by simpa using e0_7
  obtain ⟨a0_8, e0_8, x0_8, w0_8⟩ := DataW.trod_int Tryz.underlying5 u0_8
  obtain rfl : c0_8 = .int .u8 a0_8 := by simpa using e0_8
  obtain ⟨a0_9, e0_9, x0_9, w0_9⟩ := DataW.trod_int Tryz.underlying27 u0_9
  obtain rfl : c0_9 = .int .u32 a0_9 := by simpa using e0_9
  obtain ⟨a0_10, cap0_10, l0_10, e0_10, hb0_10, n0_10⟩ := bytes_open u0_10
  subst e0_10
  obtain ⟨a1, rfl, rfl, rfl, w1⟩ := open_int Tryz.underlying48 (hval 1 48 v1 rfl rfl) h1
  refine (walk W (both_of hL) a0_0 w0_0 a0_1 w0_1 a0_2 a0_3 a0_4 a0_5 a0_6 a0_7 w0_7 a0_8 w0_8 a0_9 w0_9 a0_10 cap0_10 l0_10 hb0_10 n0_10 a1 w1).mono fun e W' ⟨he, bel⟩ => ?_
  subst he
  exact ⟨_, rfl, _, _, _, [], _, [], hW', trodAll_mk1 (shut_bool Tryz.underlying4 _), (trodAll_cons_mk (Below.trod laidOut (by kernel_rfl) (of_decide_eq_true (by kernel_rfl)) k0 bel lt0) (trodAll_cons_mk (Below.trod laidOut (by kernel_rfl) (of_decide_eq_true (by kernel_rfl)) k1 bel lt1) trodAll_mk0)), rfl, bel.frame _, fun h => by cases h⟩

theorem over : Rows.scanTurnsRow.holds Tryz.pinned (OpenSpec.ofChange Rows.scanTurnsSpec) :=
  OpenClaim.holds_of_wide 5 Tryz.f5 rfl rfl rfl rfl rfl rfl rfl ⟨rfl, rfl, rfl, rfl, rfl⟩ rfl rfl rfl rfl rfl (by kernel_rfl) Tryz.func5 (by kernel_rfl)
    (of_decide_eq_true (by kernel_rfl)) (by unfold Func.isWrapper; first | (rw [if_pos (by decide +kernel)]; kernel_rfl) | (rw [if_neg (by decide +kernel)]; exact ⟨rfl, rfl⟩))
    (fun os started H enc _ => lifted os started H enc)

theorem plain (f : FuncId) (fn : Func) (hf : Tryz.pinned.checked.prog.funcNamed "omnibus/omnibuslaw09.ScanTurns" = some f) (hfn : Tryz.pinned.checked.prog.funcs[f]? = some fn) :
    false = Tryz.pinned.checked.prog.looks [] ∧ ∀ (j : Nat) t, fn.params[j]? = some t → Tryz.pinned.checked.prog.wantsStandIn t = false := by
  obtain rfl : f = 5 := Option.some.inj ((show Tryz.prog.funcNamed "omnibus/omnibuslaw09.ScanTurns" = some 5 by kernel_rfl).symm.trans hf) |>.symm
  obtain rfl : fn = Tryz.f5 := (Option.some.inj (Tryz.func5.symm.trans hfn)).symm
  refine ⟨by kernel_rfl, fun j t ht => ?_⟩
  rw [Tryz.params5] at ht
  have hm : t ∈ [29, 48] := by have := Array.mem_of_getElem? ht; simp at this ⊢; omega
  have hall : ([29, 48].all fun u => !Tryz.prog.wantsStandIn u) = true := by kernel_rfl
  exact (show Tryz.prog.wantsStandIn t = false by simpa using List.all_eq_true.1 hall t hm)
theorem proved : Rows.ScanTurnsCardSaid :=
  Claim7.holds_tied_plain_at .later [] _ _ _ _ over (fun _ h => by cases h) (by kernel_rfl) (fun _ h => by cases h) scanTurns_row_tie rfl ⟨rfl, rfl⟩ (by kernel_rfl) rfl plain (by kernel_rfl)
#print axioms proved
end Go.Proofs.YtkboncpfddnoaaaGreatDoor.scanTurns
