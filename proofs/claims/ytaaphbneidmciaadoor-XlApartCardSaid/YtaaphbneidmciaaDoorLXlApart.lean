/- For every two frames the law XlApart answers true and leaves its arguments as they were; the package's tables of kinds of sums and of longer sizes are tied to the program's text. No conditions. -/
import Derived.Test.YtaaphbneidmciaaDoorRows
import Derived.Test.YtaaphbneidmciaaDoorCards
import Derived.Test.YtaaphbneidmciaaDoorTie
import Derived.Test.YtaaphbneidmciaaDoorXlA
import Derived.Test.YtaaphbneidmciaaDoorClaQ
import Derived.Test.YtaaphbneidmciaaDoorGa
import Derived.Test.YtaaphbneidmciaaDoorFrmE
import Derived.WalkKit
import Derived.ProofKit
import Derived.OpenShut
import Derived.ShutString
import Derived.ChangeOld
import Derived.Below
import Derived.Carry
import Derived.Lib.SmallJoins
import Derived.Deep.RegionWith
import Derived.Deep.RegionHeld3
import Derived.LaidMore
import Derived.LaidLaws
import Derived.Stop.Joined
import Derived.SevenTiedAt
namespace Go.Proofs.YtaaphbneidmciaaDoor.xlApart
open Go.ChangeShapes Go.WideShapes Go.ChangeAt Go.RowKit Go.Joins
set_option linter.unusedVariables false
set_option linter.unusedSimpArgs false
theorem own : ownKnob Tryd.prog.godebug = none := by kernel_rfl
theorem laidOut : laidOutB Tryd.prog = true := by kernel_rfl
theorem arr11 {α : Type} {cs : Array α} (h : cs.size = 11) : ∃ c0 c1 c2 c3 c4 c5 c6 c7 c8 c9 c10, cs = #[c0, c1, c2, c3, c4, c5, c6, c7, c8, c9, c10] := by
  obtain ⟨l⟩ := cs
  match l, h with
  | [c0, c1, c2, c3, c4, c5, c6, c7, c8, c9, c10], _ => exact ⟨c0, c1, c2, c3, c4, c5, c6, c7, c8, c9, c10, rfl⟩
set_option maxHeartbeats 8000000 in
set_option maxRecDepth 100000 in
theorem walk (w : World) (hK : Both w) (a0_0 : Int) (w0_0 : (Lit.int .i64 a0_0).wf = true) (a0_1 : Int) (w0_1 : (Lit.int .u32 a0_1).wf = true) (a0_2 : Bool) (a0_3 : Bool) (a0_4 : Bool) (a0_5 : Bool) (a0_6 : Bool) (a0_7 : Int) (w0_7 : (Lit.int .u8 a0_7).wf = true) (a0_8 : Int) (w0_8 : (Lit.int .u8 a0_8).wf = true) (a0_9 : Int) (w0_9 : (Lit.int .u32 a0_9).wf = true) (a0_10 : Option Addr) (cap0_10 : Nat) (l0_10 : List Nat) (h0_10 : Bs w a0_10 cap0_10 l0_10) (n0_10 : a0_10 = none → cap0_10 = 0) (a1_0 : Int) (w1_0 : (Lit.int .i64 a1_0).wf = true) (a1_1 : Int) (w1_1 : (Lit.int .u32 a1_1).wf = true) (a1_2 : Bool) (a1_3 : Bool) (a1_4 : Bool) (a1_5 : Bool) (a1_6 : Bool) (a1_7 : Int) (w1_7 : (Lit.int .u8 a1_7).wf = true) (a1_8 : Int) (w1_8 : (Lit.int .u8 a1_8).wf = true) (a1_9 : Int) (w1_9 : (Lit.int .u32 a1_9).wf = true) (a1_10 : Option Addr) (cap1_10 : Nat) (l1_10 : List Nat) (h1_10 : Bs w a1_10 cap1_10 l1_10) (n1_10 : a1_10 = none → cap1_10 = 0) :
    Calls Tryd.prog 7 #[.agg #[.int .i64 a0_0, .int .u32 a0_1, .bool a0_2, .bool a0_3, .bool a0_4, .bool a0_5, .bool a0_6, .int .u8 a0_7, .int .u8 a0_8, .int .u32 a0_9, .slice a0_10 l0_10.length cap0_10], .agg #[.int .i64 a1_0, .int .u32 a1_1, .bool a1_2, .bool a1_3, .bool a1_4, .bool a1_5, .bool a1_6, .int .u8 a1_7, .int .u8 a1_8, .int .u32 a1_9, .slice a1_10 l1_10.length cap1_10]] w fun e w' => e = .returned (.bool true) ∧ Nb w w' := by
  have hL0 := h0_10.len
  have hL1 := h1_10.len
  have hI : WdX ⟨a0_0, a0_1, a0_2, a0_3, a0_4, a0_5, a0_6, a0_7, a0_8, a0_9⟩ := by
    simp [Lit.wf, IntKind.min, IntKind.max, IntKind.signed, IntKind.bits] at w0_1 w0_7 w0_8 w0_9
    simp only [WdX]
    omega
  have hJ : WdX ⟨a1_0, a1_1, a1_2, a1_3, a1_4, a1_5, a1_6, a1_7, a1_8, a1_9⟩ := by
    simp [Lit.wf, IntKind.min, IntKind.max, IntKind.signed, IntKind.bits] at w1_1 w1_7 w1_8 w1_9
    simp only [WdX]
    omega
  have HK := Lib.hid hK
  have HA := Lib.hid h0_10
  have HB := Lib.hid h1_10
  have F1 := Lib.hid (fun w' (n : Nb w w') => mine8_any ⟨a0_0, a0_1, a0_2, a0_3, a0_4, a0_5, a0_6, a0_7, a0_8, a0_9⟩ a0_10 cap0_10 l0_10 w' (HA.out.below n) (HK.out.below n).2)
  have F2 := Lib.hid (fun w' (n : Nb w w') => wire8_any ⟨a0_0, a0_1, a0_2, a0_3, a0_4, a0_5, a0_6, a0_7, a0_8, a0_9⟩ a0_10 cap0_10 l0_10 w' (HA.out.below n) hI (HK.out.below n).1 (HK.out.below n).2)
  have G1 := Lib.hid (fun w' (n : Nb w w') => mine8_any ⟨a1_0, a1_1, a1_2, a1_3, a1_4, a1_5, a1_6, a1_7, a1_8, a1_9⟩ a1_10 cap1_10 l1_10 w' (HB.out.below n) (HK.out.below n).2)
  have G2 := Lib.hid (fun w' (n : Nb w w') => wire8_any ⟨a1_0, a1_1, a1_2, a1_3, a1_4, a1_5, a1_6, a1_7, a1_8, a1_9⟩ a1_10 cap1_10 l1_10 w' (HB.out.below n) hJ (HK.out.below n).1 (HK.out.below n).2)
  have SM := Lib.hid (fun w' (n : Nb w w') => same5_any ⟨a0_0, a0_1, a0_2, a0_3, a0_4, a0_5, a0_6, a0_7, a0_8, a0_9⟩ ⟨a1_0, a1_1, a1_2, a1_3, a1_4, a1_5, a1_6, a1_7, a1_8, a1_9⟩ a0_10 a1_10 cap0_10 cap1_10 l0_10 l1_10 w' (HA.out.below n) (HB.out.below n))
  have QA := Lib.hid ((Blk.new w #[.int .i64 a0_0, .int .u32 a0_1, .bool a0_2, .bool a0_3, .bool a0_4, .bool a0_5, .bool a0_6, .int .u8 a0_7, .int .u8 a0_8, .int .u32 a0_9, .slice a0_10 l0_10.length cap0_10] 25).nb (Nb.rfl.al (.cells #[.int .i64 a1_0, .int .u32 a1_1, .bool a1_2, .bool a1_3, .bool a1_4, .bool a1_5, .bool a1_6, .int .u8 a1_7, .int .u8 a1_8, .int .u32 a1_9, .slice a1_10 l1_10.length cap1_10] 25)))
  have QB0 := Blk.new (w.alloc (.cells #[.int .i64 a0_0, .int .u32 a0_1, .bool a0_2, .bool a0_3, .bool a0_4, .bool a0_5, .bool a0_6, .int .u8 a0_7, .int .u8 a0_8, .int .u32 a0_9, .slice a0_10 l0_10.length cap0_10] 25)) #[.int .i64 a1_0, .int .u32 a1_1, .bool a1_2, .bool a1_3, .bool a1_4, .bool a1_5, .bool a1_6, .int .u8 a1_7, .int .u8 a1_8, .int .u32 a1_9, .slice a1_10 l1_10.length cap1_10] 25
  rw [World.size_alloc] at QB0
  have QB := Lib.hid QB0
  have M0 := Lib.hid ((Nb.rfl.al (.cells #[.int .i64 a0_0, .int .u32 a0_1, .bool a0_2, .bool a0_3, .bool a0_4, .bool a0_5, .bool a0_6, .int .u8 a0_7, .int .u8 a0_8, .int .u32 a0_9, .slice a0_10 l0_10.length cap0_10] 25)).al (.cells #[.int .i64 a1_0, .int .u32 a1_1, .bool a1_2, .bool a1_3, .bool a1_4, .bool a1_5, .bool a1_6, .int .u8 a1_7, .int .u8 a1_8, .int .u32 a1_9, .slice a1_10 l1_10.length cap1_10] 25) : Nb w _)
  have hbA := h0_10.hbyte
  have hbB := h1_10.hbyte
  clear hK h0_10 w0_0 w0_1 w0_7 w0_8 w0_9 n0_10 h1_10 w1_0 w1_1 w1_7 w1_8 w1_9 n1_10 QB0
  cases hok : okX ⟨a0_0, a0_1, a0_2, a0_3, a0_4, a0_5, a0_6, a0_7, a0_8, a0_9⟩ l0_10 with
  | false =>
    rw [hok] at F1
    clear hok F2 G1 G2 SM hbA hbB
    simp only [Hd.cs] at F1
    go_enter Tryd.func7, Tryd.ntmps7
    go_wp2_with fail
    refine (alive8_any _ (HK.out.below M0.out)).mono ?_
    rintro e w1 ⟨rfl, n1⟩
    have Q1 := Lib.hid (QA.out.nb n1)
    have M1 := Lib.hid (M0.out.tr n1)
    clear n1
    obtain ⟨c0, c1, c2, c3, c4, c5, c6, c7, c8, c9, c10⟩ := Q1.out.c11
    go_wp2_with fail
    refine (F1.out _ M1.out).mono ?_
    rintro e w2 ⟨rfl, n2⟩
    have M2 := Lib.hid (M1.out.tr n2)
    clear n2
    go_wp2
    go_ret
    exact ⟨rfl, M2.out⟩
  | true =>
    rw [hok] at F1
    go_enter Tryd.func7, Tryd.ntmps7
    go_wp2_with fail
    refine (alive8_any _ (HK.out.below M0.out)).mono ?_
    rintro e w1 ⟨rfl, n1⟩
    have Q1 := Lib.hid (QA.out.nb n1)
    have B1 := Lib.hid (QB.out.nb n1)
    have M1 := Lib.hid (M0.out.tr n1)
    clear n1
    obtain ⟨c0, c1, c2, c3, c4, c5, c6, c7, c8, c9, c10⟩ := Q1.out.c11
    go_wp2_with fail
    refine (F1.out _ M1.out).mono ?_
    rintro e w3 ⟨rfl, n3⟩
    have Q3 := Lib.hid (Q1.out.nb n3)
    have B3 := Lib.hid (B1.out.nb n3)
    have M3 := Lib.hid (M1.out.tr n3)
    clear n3 c0 c1 c2 c3 c4 c5 c6 c7 c8 c9 c10
    obtain ⟨e0, e1, e2, e3, e4, e5, e6, e7, e8, e9, e10⟩ := B3.out.c11
    go_wp2_with fail
    refine (G1.out _ M3.out).mono ?_
    rintro e w4 ⟨rfl, n4⟩
    have Q4 := Lib.hid (Q3.out.nb n4)
    have B4 := Lib.hid (B3.out.nb n4)
    have M4 := Lib.hid (M3.out.tr n4)
    clear n4 e0 e1 e2 e3 e4 e5 e6 e7 e8 e9 e10
    obtain ⟨c0, c1, c2, c3, c4, c5, c6, c7, c8, c9, c10⟩ := Q4.out.c11
    obtain ⟨e0, e1, e2, e3, e4, e5, e6, e7, e8, e9, e10⟩ := B4.out.c11
    cases hok2 : okX ⟨a1_0, a1_1, a1_2, a1_3, a1_4, a1_5, a1_6, a1_7, a1_8, a1_9⟩ l1_10 with
    | false =>
      go_wp2
      go_ret
      exact ⟨rfl, M4.out⟩
    | true =>
      by_cases h300 : 300 < l0_10.length
      · have d0 : decide (300 < (l0_10.length : Int)) = true := decide_eq_true (by omega)
        clear hok hok2 F2 G2 SM h300
        go_wp2
        go_ret
        exact ⟨rfl, M4.out⟩
      have d0 : decide (300 < (l0_10.length : Int)) = false := decide_eq_false (by omega)
      clear h300
      by_cases h300 : 300 < l1_10.length
      · have d0' : decide (300 < (l1_10.length : Int)) = true := decide_eq_true (by omega)
        clear hok hok2 F2 G2 SM h300
        go_wp2
        go_ret
        exact ⟨rfl, M4.out⟩
      have d0' : decide (300 < (l1_10.length : Int)) = false := decide_eq_false (by omega)
      clear h300
      have vA : okXE ⟨a0_0, a0_1, a0_2, a0_3, a0_4, a0_5, a0_6, a0_7, a0_8, a0_9⟩ l0_10 = 0 := by rw [okXE, if_pos hok]
      have vB : okXE ⟨a1_0, a1_1, a1_2, a1_3, a1_4, a1_5, a1_6, a1_7, a1_8, a1_9⟩ l1_10 = 0 := by rw [okXE, if_pos hok2]
      have hap := wx_apart hok hok2 hI hJ hbA hbB
      obtain ⟨P, z1, z2, g2, z3, z4, z5, z6, z7, g8, z8, z9⟩ := wx_ends hok
      obtain ⟨P', z1', z2', g2', z3', z4', z5', z6', z7', g8', z8', z9'⟩ := wx_ends hok2
      clear z1 z2 z3 z5 z6 z7 z8 z9 g8 z1' z2' z3' z5' z6' z7' z8' z9' g8'
      rw [vA] at F2
      rw [vB] at G2
      generalize wxC ⟨a0_0, a0_1, a0_2, a0_3, a0_4, a0_5, a0_6, a0_7, a0_8, a0_9⟩ l0_10 = WA at *
      generalize wxC ⟨a1_0, a1_1, a1_2, a1_3, a1_4, a1_5, a1_6, a1_7, a1_8, a1_9⟩ l1_10 = WB at *
      generalize wArbX ⟨a0_0, a0_1, a0_2, a0_3, a0_4, a0_5, a0_6, a0_7, a0_8, a0_9⟩ l0_10 = NA at *
      generalize wArbX ⟨a1_0, a1_1, a1_2, a1_3, a1_4, a1_5, a1_6, a1_7, a1_8, a1_9⟩ l1_10 = NB at *
      generalize wAckX ⟨a0_0, a0_1, a0_2, a0_3, a0_4, a0_5, a0_6, a0_7, a0_8, a0_9⟩ l0_10 = CA at *
      generalize wAckX ⟨a1_0, a1_1, a1_2, a1_3, a1_4, a1_5, a1_6, a1_7, a1_8, a1_9⟩ l1_10 = CB at *
      have lA : WA.length ≤ 200000 := by omega
      have lB : WB.length ≤ 200000 := by omega
      have pA : 0 < WA.length := by omega
      have pB : 0 < WB.length := by omega
      obtain ⟨M, hM⟩ : ∃ M, M = min WA.length WB.length := ⟨_, rfl⟩
      rw [← hM] at hap
      have hdf : diffB WA WB M = !sameF ⟨a0_0, a0_1, a0_2, a0_3, a0_4, a0_5, a0_6, a0_7, a0_8, a0_9⟩ ⟨a1_0, a1_1, a1_2, a1_3, a1_4, a1_5, a1_6, a1_7, a1_8, a1_9⟩ l0_10 l1_10 := by
        unfold diffB
        cases hsf : sameF ⟨a0_0, a0_1, a0_2, a0_3, a0_4, a0_5, a0_6, a0_7, a0_8, a0_9⟩ ⟨a1_0, a1_1, a1_2, a1_3, a1_4, a1_5, a1_6, a1_7, a1_8, a1_9⟩ l0_10 l1_10 with
        | true => rw [decide_eq_true (hap.2 hsf)]
        | false => rw [decide_eq_false (fun h => by rw [hap.1 h] at hsf; cases hsf)]
      generalize sameF ⟨a0_0, a0_1, a0_2, a0_3, a0_4, a0_5, a0_6, a0_7, a0_8, a0_9⟩ ⟨a1_0, a1_1, a1_2, a1_3, a1_4, a1_5, a1_6, a1_7, a1_8, a1_9⟩ l0_10 l1_10 = SF at *
      have mA : M ≤ WA.length := by omega
      have mB : M ≤ WB.length := by omega
      have hmin : ∀ (ts : Array TypeId) (ty : TypeId) (w : World), (Builtin.min_ ts ty #[.int .i64 (WA.length : Int), .int .i64 (WB.length : Int)]).run Tryd.prog w = .ok (.int .i64 (M : Int)) w := fun ts ty w => by
        rw [run_min2, show min (WA.length : Int) (WB.length : Int) = (M : Int) by omega]
      have HD := Lib.hid hdf
      clear hok hok2 vA vB g2 g2' z4 z4' hM F1 G1 hap hdf hI hJ hbA hbB
      simp only [Hd.cs] at F2 G2 SM
      go_wp2_with fail
      refine (F2.out _ M4.out).mono ?_
      rintro e w5 ⟨⟨a5, d5, rfl, f5⟩, n5⟩
      have Q5 := Lib.hid (Q4.out.nb n5)
      have B5 := Lib.hid (B4.out.nb n5)
      have M5 := Lib.hid (M4.out.tr n5)
      have W5 := Lib.hid (fun w' (n : Nb w5 w') => f5.1.asBs.1.below n)
      have lt5 : w.heap.size < w5.heap.size := Q5.out.lt
      have lt5' : w.heap.size + 1 < w5.heap.size := B5.out.lt
      clear f5 n5 c0 c1 c2 c3 c4 c5 c6 c7 c8 c9 c10 e0 e1 e2 e3 e4 e5 e6 e7 e8 e9 e10
      obtain ⟨bA, oA, rfl, _⟩ := (W5.out _ Nb.rfl).hcells (by omega)
      obtain ⟨e0, e1, e2, e3, e4, e5, e6, e7, e8, e9, e10⟩ := B5.out.c11
      go_wp2_with fail
      refine (G2.out _ (M5.out.al _)).mono ?_
      rintro e w6 ⟨⟨a6, d6, rfl, f6⟩, n6⟩
      have n56 : Nb w5 w6 := (Nb.rfl.al _).tr n6
      have Q6 := Lib.hid (Q5.out.nb n56)
      have B6 := Lib.hid (B5.out.nb n56)
      have M6 := Lib.hid (M5.out.tr n56)
      have XA6 := Lib.hid ((Blk.new w5 #[.slice (some ⟨bA, oA, none⟩) WA.length d5, .int .i64 NA, .int .i64 CA] 28).nb n6)
      have W6 := Lib.hid (fun w' (n : Nb w6 w') => W5.out w' (n56.tr n))
      have V6 := Lib.hid (fun w' (n : Nb w6 w') => f6.1.asBs.1.below n)
      have lt6'' : w5.heap.size < w6.heap.size := XA6.out.lt
      clear f6 n6 n56 e0 e1 e2 e3 e4 e5 e6 e7 e8 e9 e10
      obtain ⟨bB, oB, rfl, _⟩ := (V6.out _ Nb.rfl).hcells (by omega)
      obtain ⟨x0, x1, x2⟩ := XA6.out.c3
      go_wp2
      obtain ⟨w7, hw7⟩ : ∃ w7, w7 = w6.alloc (.cells #[.slice (some ⟨bB, oB, none⟩) WB.length d6, .int .i64 NB, .int .i64 CB] 28) := ⟨_, rfl⟩
      have n67 : Nb w6 w7 := by rw [hw7]; exact Nb.rfl.al _
      have XB7 := Lib.hid (show Blk w7 w6.heap.size #[.slice (some ⟨bB, oB, none⟩) WB.length d6, .int .i64 NB, .int .i64 CB] 28 by rw [hw7]; exact Blk.new _ _ _)
      have XA7 := Lib.hid (XA6.out.nb n67)
      have Q7 := Lib.hid (Q6.out.nb n67)
      have B7 := Lib.hid (B6.out.nb n67)
      have M7 := Lib.hid (M6.out.tr n67)
      have N67 := Lib.hid n67
      rw [← hw7]
      clear hw7 n67 x0 x1 x2 lt5 lt5' lt6''
      go_loopw [9, 56] (fun df ix wr => ∃ k : Nat, k ≤ M ∧ ix = .int .i64 k ∧ df = .bool (diffB WA WB k) ∧ Nb w7 wr) (fun _ ix _ => M - (intOf ix).toNat)
      case atStart => exact ⟨0, Nat.zero_le _, rfl, by rw [diffB_zero], Nb.rfl⟩
      case round =>
        obtain ⟨k, hk, rfl, rfl, hnb⟩ := hrel
        have NW := Lib.hid hnb
        clear hnb
        by_cases hlt : k < M
        · obtain ⟨x0, x1, x2⟩ := (XA7.out.nb NW.out).c3
          obtain ⟨y0, y1, y2⟩ := (XB7.out.nb NW.out).c3
          obtain ⟨b', o', he, hcA⟩ := (W6.out _ (N67.out.tr NW.out)).hcells (by omega)
          simp only [Option.some.injEq, Addr.mk.injEq, and_true] at he
          obtain ⟨rfl, rfl⟩ := he
          obtain ⟨b', o', he, hcB⟩ := (V6.out _ (N67.out.tr NW.out)).hcells (by omega)
          simp only [Option.some.injEq, Addr.mk.injEq, and_true] at he
          obtain ⟨rfl, rfl⟩ := he
          have u1 := hcA k (by omega)
          have u2 := hcB k (by omega)
          have kM : (k : Int) < (M : Int) := by omega
          have kb : (k : Int) ≤ 200000 := by omega
          have kA : (k : Int) < (WA.length : Int) := by omega
          have kB : (k : Int) < (WB.length : Int) := by omega
          have hst := diffB_step (A := WA) (B := WB) (k := k) (by omega) (by omega)
          generalize WA.getD k 0 = u at *
          generalize WB.getD k 0 = v at *
          clear hcA hcB
          cases hdk : diffB WA WB k with
          | true =>
            rw [hdk, Bool.true_or] at hst
            have HS := Lib.hid hst
            clear hst hdk
            go_wp2_with fail
            go_quiet (fail)
            rename_i nq
            have NW2 := Lib.hid (NW.out.tr (Nb.drewN wr nq))
            clear u1 u2 x0 x1 x2 y0 y1 y2
            generalize wr.drewN nq = wd at *
            go_wp2
            go_roundw
            case rel => exact ⟨k + 1, by omega, by go_num, by rw [HS.out], NW2.out⟩
            case measure => simp [intOf]; omega
          | false =>
            rw [hdk, Bool.false_or] at hst
            have HS := Lib.hid hst
            clear hst hdk
            go_wp2_with fail
            go_quiet (fail)
            rename_i nq
            have NW2 := Lib.hid (NW.out.tr (Nb.drewN wr nq))
            clear u1 u2 x0 x1 x2 y0 y1 y2
            generalize wr.drewN nq = wd at *
            go_wp2
            go_roundw
            case rel => exact ⟨k + 1, by omega, by go_num, by rw [HS.out], NW2.out⟩
            case measure => simp [intOf]; omega
        · obtain rfl : k = M := by omega
          rw [HD.out]
          obtain ⟨c0, c1, c2, c3, c4, c5, c6, c7, c8, c9, c10⟩ := (Q7.out.nb NW.out).c11
          obtain ⟨e0, e1, e2, e3, e4, e5, e6, e7, e8, e9, e10⟩ := (B7.out.nb NW.out).c11
          have M8 := Lib.hid (M7.out.tr NW.out)
          clear HD
          go_wp2_with fail
          refine (SM.out _ M8.out).mono ?_
          rintro e w9 ⟨rfl, n9⟩
          have M9 := Lib.hid (M8.out.tr n9)
          clear n9 c0 c1 c2 c3 c4 c5 c6 c7 c8 c9 c10 e0 e1 e2 e3 e4 e5 e6 e7 e8 e9 e10
          cases SF
          all_goals go_wp2
          all_goals go_ret
          all_goals exact ⟨rfl, M9.out⟩

theorem door_met (os : Os) (args : Array Value) : laidMetH Tryd.prog Rows.xlApartRow.laid ((World.doorLaid Tryd.prog 24 os).forCall (fun _ _ => 0) ⟨#[], args, []⟩).memory :=
  laidMetH_of_parts3 (fuel := 8) (laidMet_of_run' 8 (by kernel_rfl) (by kernel_rfl)) (by kernel_rfl) (by kernel_rfl)
set_option maxHeartbeats 2000000 in
set_option maxRecDepth 100000 in
theorem lifted (os : Os) (started : os.Started) (H : Type) (enc : TypeId × Value → H) :
    ReturnsInHanded {} Tryd.checked os 7 .any (fun w args => (Rows.xlApartSpec.pre enc Tryd.prog Tryd.f7 [] false w args ∧ laidMetH Tryd.prog Rows.xlApartRow.laid w) ∧ sizedMet enc Tryd.prog Tryd.f7 (OpenSpec.ofChange Rows.xlApartSpec) false w args)
      (Rows.xlApartSpec.post enc Tryd.prog Tryd.f7 false true false false) := by
  refine returnsInHanded_of_change_and (C := Tryd.checked) (X := fun w _ => laidMetH Tryd.prog Rows.xlApartRow.laid w) (fun _ _ _ hh h => h.of_heap hh) own started (by kernel_rfl) Tryd.func7
    (ChangeSpec.witness_shaped (enc := enc) (C := Tryd.checked) (os := os) (X := fun w _ => laidMetH Tryd.prog Rows.xlApartRow.laid w) false (World.doorLaid Tryd.prog 24 os) #[.agg #[.int .i64 0, .int .u32 0, .bool false, .bool false, .bool false, .bool false, .bool false, .int .u8 0, .int .u8 0, .int .u32 0, .slice none 0 0], .agg #[.int .i64 0, .int .u32 0, .bool false, .bool false, .bool false, .bool false, .bool false, .int .u8 0, .int .u8 0, .int .u32 0, .slice none 0 0]] 8 rfl (World.shaped_of_RefB (by kernel_rfl) (by kernel_rfl)) (by kernel_rfl) (by kernel_rfl) (by kernel_rfl) (door_met os _)) ?_
  intro W base args ds gs before hval0 hW _ hR hL _
  have hval : ∀ (j : Nat) t v, Tryd.f7.params[j]? = some t → args[j]? = some v → Value.okWide Tryd.prog W .any base t v := hval0
  have hW' := hW
  obtain ⟨p, q, hA0, hV, rfl, hfz, hnd⟩ := hW
  have hA : DataW.TrodAll enc Tryd.prog W 0 (fun _ => true) true Tryd.f7.params.toList args.toList ds p := hA0
  rw [Tryd.params7] at hA hval
  obtain ⟨v0, vs0, d0, ds0, p0, q0, hargs, rfl, rfl, h0, r0⟩ := trodAll_cons hA
  obtain ⟨v1, vs1, d1, ds1, p1, q1, rfl, rfl, rfl, h1, r1⟩ := trodAll_cons r0
  obtain ⟨rfl, rfl, rfl⟩ := trodAll_nil r1
  obtain rfl : args = #[v0, v1] := by cases args; simp_all
  obtain ⟨rfl, rfl⟩ := trodVars_none hV
  have k0 := h0
  have lt0 : ∀ x ∈ p0, x.block < W.heap.size := by obtain ⟨m, hm⟩ := k0; exact DataW.trod_lt m _ _ _ hm
  have k1 := h1
  have lt1 : ∀ x ∈ p1, x.block < W.heap.size := by obtain ⟨m, hm⟩ := k1; exact DataW.trod_lt m _ _ _ hm
  clear hA0
  obtain ⟨cs0, rfl, hz0⟩ := okWide_struct Tryd.underlying25 (hval 0 25 v0 rfl rfl)
  obtain ⟨c0_0, c0_1, c0_2, c0_3, c0_4, c0_5, c0_6, c0_7, c0_8, c0_9, c0_10, rfl⟩ := arr11 (hz0.trans (by kernel_rfl))
  obtain ⟨fu0, hf0⟩ := h0
  have hc0 : DataW.trod enc Tryd.prog W 0 (fun _ => true) true fu0 25 [c0_0, c0_1, c0_2, c0_3, c0_4, c0_5, c0_6, c0_7, c0_8, c0_9, c0_10] = some (d0, p0) := hf0
  obtain ⟨m0_0, y0_0, g0_0⟩ := open_fld Tryd.underlying25 hc0 0 _ rfl
  have t0_0 : DataW.trod enc Tryd.prog W 0 (fun _ => true) true m0_0 3 (([c0_0, c0_1, c0_2, c0_3, c0_4, c0_5, c0_6, c0_7, c0_8, c0_9, c0_10].drop 0).take (Tryd.prog.cellsOf 3)) = some y0_0 := g0_0
  rw [show Tryd.prog.cellsOf 3 = 1 from by kernel_rfl] at t0_0
  have u0_0 : DataW.trod enc Tryd.prog W 0 (fun _ => true) true m0_0 3 [c0_0] = some y0_0 := t0_0
  obtain ⟨m0_1, y0_1, g0_1⟩ := open_fld Tryd.underlying25 hc0 1 _ rfl
  have t0_1 : DataW.trod enc Tryd.prog W 0 (fun _ => true) true m0_1 22 (([c0_0, c0_1, c0_2, c0_3, c0_4, c0_5, c0_6, c0_7, c0_8, c0_9, c0_10].drop 1).take (Tryd.prog.cellsOf 22)) = some y0_1 := g0_1
  rw [show Tryd.prog.cellsOf 22 = 1 from by kernel_rfl] at t0_1
  have u0_1 : DataW.trod enc Tryd.prog W 0 (fun _ => true) true m0_1 22 [c0_1] = some y0_1 := t0_1
  obtain ⟨m0_2, y0_2, g0_2⟩ := open_fld Tryd.underlying25 hc0 2 _ rfl
  have t0_2 : DataW.trod enc Tryd.prog W 0 (fun _ => true) true m0_2 4 (([c0_0, c0_1, c0_2, c0_3, c0_4, c0_5, c0_6, c0_7, c0_8, c0_9, c0_10].drop 2).take (Tryd.prog.cellsOf 4)) = some y0_2 := g0_2
  rw [show Tryd.prog.cellsOf 4 = 1 from by kernel_rfl] at t0_2
  have u0_2 : DataW.trod enc Tryd.prog W 0 (fun _ => true) true m0_2 4 [c0_2] = some y0_2 := t0_2
  obtain ⟨m0_3, y0_3, g0_3⟩ := open_fld Tryd.underlying25 hc0 3 _ rfl
  have t0_3 : DataW.trod enc Tryd.prog W 0 (fun _ => true) true m0_3 4 (([c0_0, c0_1, c0_2, c0_3, c0_4, c0_5, c0_6, c0_7, c0_8, c0_9, c0_10].drop 3).take (Tryd.prog.cellsOf 4)) = some y0_3 := g0_3
  rw [show Tryd.prog.cellsOf 4 = 1 from by kernel_rfl] at t0_3
  have u0_3 : DataW.trod enc Tryd.prog W 0 (fun _ => true) true m0_3 4 [c0_3] = some y0_3 := t0_3
  obtain ⟨m0_4, y0_4, g0_4⟩ := open_fld Tryd.underlying25 hc0 4 _ rfl
  have t0_4 : DataW.trod enc Tryd.prog W 0 (fun _ => true) true m0_4 4 (([c0_0, c0_1, c0_2, c0_3, c0_4, c0_5, c0_6, c0_7, c0_8, c0_9, c0_10].drop 4).take (Tryd.prog.cellsOf 4)) = some y0_4 := g0_4
  rw [show Tryd.prog.cellsOf 4 = 1 from by kernel_rfl] at t0_4
  have u0_4 : DataW.trod enc Tryd.prog W 0 (fun _ => true) true m0_4 4 [c0_4] = some y0_4 := t0_4
  obtain ⟨m0_5, y0_5, g0_5⟩ := open_fld Tryd.underlying25 hc0 5 _ rfl
  have t0_5 : DataW.trod enc Tryd.prog W 0 (fun _ => true) true m0_5 4 (([c0_0, c0_1, c0_2, c0_3, c0_4, c0_5, c0_6, c0_7, c0_8, c0_9, c0_10].drop 5).take (Tryd.prog.cellsOf 4)) = some y0_5 := g0_5
  rw [show Tryd.prog.cellsOf 4 = 1 from by kernel_rfl] at t0_5
  have u0_5 : DataW.trod enc Tryd.prog W 0 (fun _ => true) true m0_5 4 [c0_5] = some y0_5 := t0_5
  obtain ⟨m0_6, y0_6, g0_6⟩ := open_fld Tryd.underlying25 hc0 6 _ rfl
  have t0_6 : DataW.trod enc Tryd.prog W 0 (fun _ => true) true m0_6 4 (([c0_0, c0_1, c0_2, c0_3, c0_4, c0_5, c0_6, c0_7, c0_8, c0_9, c0_10].drop 6).take (Tryd.prog.cellsOf 4)) = some y0_6 := g0_6
  rw [show Tryd.prog.cellsOf 4 = 1 from by kernel_rfl] at t0_6
  have u0_6 : DataW.trod enc Tryd.prog W 0 (fun _ => true) true m0_6 4 [c0_6] = some y0_6 := t0_6
  obtain ⟨m0_7, y0_7, g0_7⟩ := open_fld Tryd.underlying25 hc0 7 _ rfl
  have t0_7 : DataW.trod enc Tryd.prog W 0 (fun _ => true) true m0_7 5 (([c0_0, c0_1, c0_2, c0_3, c0_4, c0_5, c0_6, c0_7, c0_8, c0_9, c0_10].drop 7).take (Tryd.prog.cellsOf 5)) = some y0_7 := g0_7
  rw [show Tryd.prog.cellsOf 5 = 1 from by kernel_rfl] at t0_7
  have u0_7 : DataW.trod enc Tryd.prog W 0 (fun _ => true) true m0_7 5 [c0_7] = some y0_7 := t0_7
  obtain ⟨m0_8, y0_8, g0_8⟩ := open_fld Tryd.underlying25 hc0 8 _ rfl
  have t0_8 : DataW.trod enc Tryd.prog W 0 (fun _ => true) true m0_8 5 (([c0_0, c0_1, c0_2, c0_3, c0_4, c0_5, c0_6, c0_7, c0_8, c0_9, c0_10].drop 8).take (Tryd.prog.cellsOf 5)) = some y0_8 := g0_8
  rw [show Tryd.prog.cellsOf 5 = 1 from by kernel_rfl] at t0_8
  have u0_8 : DataW.trod enc Tryd.prog W 0 (fun _ => true) true m0_8 5 [c0_8] = some y0_8 := t0_8
  obtain ⟨m0_9, y0_9, g0_9⟩ := open_fld Tryd.underlying25 hc0 9 _ rfl
  have t0_9 : DataW.trod enc Tryd.prog W 0 (fun _ => true) true m0_9 22 (([c0_0, c0_1, c0_2, c0_3, c0_4, c0_5, c0_6, c0_7, c0_8, c0_9, c0_10].drop 9).take (Tryd.prog.cellsOf 22)) = some y0_9 := g0_9
  rw [show Tryd.prog.cellsOf 22 = 1 from by kernel_rfl] at t0_9
  have u0_9 : DataW.trod enc Tryd.prog W 0 (fun _ => true) true m0_9 22 [c0_9] = some y0_9 := t0_9
  obtain ⟨m0_10, y0_10, g0_10⟩ := open_fld Tryd.underlying25 hc0 10 _ rfl
  have t0_10 : DataW.trod enc Tryd.prog W 0 (fun _ => true) true m0_10 23 (([c0_0, c0_1, c0_2, c0_3, c0_4, c0_5, c0_6, c0_7, c0_8, c0_9, c0_10].drop 10).take (Tryd.prog.cellsOf 23)) = some y0_10 := g0_10
  rw [show Tryd.prog.cellsOf 23 = 1 from by kernel_rfl] at t0_10
  have u0_10 : DataW.trod enc Tryd.prog W 0 (fun _ => true) true m0_10 23 [c0_10] = some y0_10 := t0_10
  obtain ⟨a0_0, e0_0, x0_0, w0_0⟩ := DataW.trod_int Tryd.underlying3 u0_0
  obtain rfl : c0_0 = .int .i64 a0_0 := by simpa using e0_0
  obtain ⟨a0_1, e0_1, x0_1, w0_1⟩ := DataW.trod_int Tryd.underlying22 u0_1
  obtain rfl : c0_1 = .int .u32 a0_1 := by simpa using e0_1
  obtain ⟨a0_2, e0_2, x0_2⟩ := DataW.trod_bool Tryd.underlying4 u0_2
  obtain rfl : c0_2 = .bool a0_2 := by simpa using e0_2
  obtain ⟨a0_3, e0_3, x0_3⟩ := DataW.trod_bool Tryd.underlying4 u0_3
  obtain rfl : c0_3 = .bool a0_3 := by simpa using e0_3
  obtain ⟨a0_4, e0_4, x0_4⟩ := DataW.trod_bool Tryd.underlying4 u0_4
  obtain rfl : c0_4 = .bool a0_4 := by simpa using e0_4
  obtain ⟨a0_5, e0_5, x0_5⟩ := DataW.trod_bool Tryd.underlying4 u0_5
  obtain rfl : c0_5 = .bool a0_5 := by simpa using e0_5
  obtain ⟨a0_6, e0_6, x0_6⟩ := DataW.trod_bool Tryd.underlying4 u0_6
  obtain rfl : c0_6 = .bool a0_6 := by simpa using e0_6
  obtain ⟨a0_7, e0_7, x0_7, w0_7⟩ := DataW.trod_int Tryd.underlying5 u0_7
  obtain rfl : c0_7 = .int .u8 a0_7 := by simpa using e0_7
  obtain ⟨a0_8, e0_8, x0_8, w0_8⟩ := DataW.trod_int Tryd.underlying5 u0_8
  obtain rfl : c0_8 = .int .u8 a0_8 := by simpa using e0_8
  obtain ⟨a0_9, e0_9, x0_9, w0_9⟩ := DataW.trod_int Tryd.underlying22 u0_9
  obtain rfl : c0_9 = .int .u32 a0_9 := by simpa using e0_9
  obtain ⟨a0_10, cap0_10, l0_10, e0_10, hb0_10, n0_10⟩ := bytes_open u0_10
  subst e0_10
  obtain ⟨cs1, rfl, hz1⟩ := okWide_struct Tryd.underlying25 (hval 1 25 v1 rfl rfl)
  obtain ⟨c1_0, c1_1, c1_2, c1_3, c1_4, c1_5, c1_6, c1_7, c1_8, c1_9, c1_10, rfl⟩ := arr11 (hz1.trans (by kernel_rfl))
  obtain ⟨fu1, hf1⟩ := h1
  have hc1 : DataW.trod enc Tryd.prog W 0 (fun _ => true) true fu1 25 [c1_0, c1_1, c1_2, c1_3, c1_4, c1_5, c1_6, c1_7, c1_8, c1_9, c1_10] = some (d1, p1) := hf1
  obtain ⟨m1_0, y1_0, g1_0⟩ := open_fld Tryd.underlying25 hc1 0 _ rfl
  have t1_0 : DataW.trod enc Tryd.prog W 0 (fun _ => true) true m1_0 3 (([c1_0, c1_1, c1_2, c1_3, c1_4, c1_5, c1_6, c1_7, c1_8, c1_9, c1_10].drop 0).take (Tryd.prog.cellsOf 3)) = some y1_0 := g1_0
  rw [show Tryd.prog.cellsOf 3 = 1 from by kernel_rfl] at t1_0
  have u1_0 : DataW.trod enc Tryd.prog W 0 (fun _ => true) true m1_0 3 [c1_0] = some y1_0 := t1_0
  obtain ⟨m1_1, y1_1, g1_1⟩ := open_fld Tryd.underlying25 hc1 1 _ rfl
  have t1_1 : DataW.trod enc Tryd.prog W 0 (fun _ => true) true m1_1 22 (([c1_0, c1_1, c1_2, c1_3, c1_4, c1_5, c1_6, c1_7, c1_8, c1_9, c1_10].drop 1).take (Tryd.prog.cellsOf 22)) = some y1_1 := g1_1
  rw [show Tryd.prog.cellsOf 22 = 1 from by kernel_rfl] at t1_1
  have u1_1 : DataW.trod enc Tryd.prog W 0 (fun _ => true) true m1_1 22 [c1_1] = some y1_1 := t1_1
  obtain ⟨m1_2, y1_2, g1_2⟩ := open_fld Tryd.underlying25 hc1 2 _ rfl
  have t1_2 : DataW.trod enc Tryd.prog W 0 (fun _ => true) true m1_2 4 (([c1_0, c1_1, c1_2, c1_3, c1_4, c1_5, c1_6, c1_7, c1_8, c1_9, c1_10].drop 2).take (Tryd.prog.cellsOf 4)) = some y1_2 := g1_2
  rw [show Tryd.prog.cellsOf 4 = 1 from by kernel_rfl] at t1_2
  have u1_2 : DataW.trod enc Tryd.prog W 0 (fun _ => true) true m1_2 4 [c1_2] = some y1_2 := t1_2
  obtain ⟨m1_3, y1_3, g1_3⟩ := open_fld Tryd.underlying25 hc1 3 _ rfl
  have t1_3 : DataW.trod enc Tryd.prog W 0 (fun _ => true) true m1_3 4 (([c1_0, c1_1, c1_2, c1_3, c1_4, c1_5, c1_6, c1_7, c1_8, c1_9, c1_10].drop 3).take (Tryd.prog.cellsOf 4)) = some y1_3 := g1_3
  rw [show Tryd.prog.cellsOf 4 = 1 from by kernel_rfl] at t1_3
  have u1_3 : DataW.trod enc Tryd.prog W 0 (fun _ => true) true m1_3 4 [c1_3] = some y1_3 := t1_3
  obtain ⟨m1_4, y1_4, g1_4⟩ := open_fld Tryd.underlying25 hc1 4 _ rfl
  have t1_4 : DataW.trod enc Tryd.prog W 0 (fun _ => true) true m1_4 4 (([c1_0, c1_1, c1_2, c1_3, c1_4, c1_5, c1_6, c1_7, c1_8, c1_9, c1_10].drop 4).take (Tryd.prog.cellsOf 4)) = some y1_4 := g1_4
  rw [show Tryd.prog.cellsOf 4 = 1 from by kernel_rfl] at t1_4
  have u1_4 : DataW.trod enc Tryd.prog W 0 (fun _ => true) true m1_4 4 [c1_4] = some y1_4 := t1_4
  obtain ⟨m1_5, y1_5, g1_5⟩ := open_fld Tryd.underlying25 hc1 5 _ rfl
  have t1_5 : DataW.trod enc Tryd.prog W 0 (fun _ => true) true m1_5 4 (([c1_0, c1_1, c1_2, c1_3, c1_4, c1_5, c1_6, c1_7, c1_8, c1_9, c1_10].drop 5).take (Tryd.prog.cellsOf 4)) = some y1_5 := g1_5
  rw [show Tryd.prog.cellsOf 4 = 1 from by kernel_rfl] at t1_5
  have u1_5 : DataW.trod enc Tryd.prog W 0 (fun _ => true) true m1_5 4 [c1_5] = some y1_5 := t1_5
  obtain ⟨m1_6, y1_6, g1_6⟩ := open_fld Tryd.underlying25 hc1 6 _ rfl
  have t1_6 : DataW.trod enc Tryd.prog W 0 (fun _ => true) true m1_6 4 (([c1_0, c1_1, c1_2, c1_3, c1_4, c1_5, c1_6, c1_7, c1_8, c1_9, c1_10].drop 6).take (Tryd.prog.cellsOf 4)) = some y1_6 := g1_6
  rw [show Tryd.prog.cellsOf 4 = 1 from by kernel_rfl] at t1_6
  have u1_6 : DataW.trod enc Tryd.prog W 0 (fun _ => true) true m1_6 4 [c1_6] = some y1_6 := t1_6
  obtain ⟨m1_7, y1_7, g1_7⟩ := open_fld Tryd.underlying25 hc1 7 _ rfl
  have t1_7 : DataW.trod enc Tryd.prog W 0 (fun _ => true) true m1_7 5 (([c1_0, c1_1, c1_2, c1_3, c1_4, c1_5, c1_6, c1_7, c1_8, c1_9, c1_10].drop 7).take (Tryd.prog.cellsOf 5)) = some y1_7 := g1_7
  rw [show Tryd.prog.cellsOf 5 = 1 from by kernel_rfl] at t1_7
  have u1_7 : DataW.trod enc Tryd.prog W 0 (fun _ => true) true m1_7 5 [c1_7] = some y1_7 := t1_7
  obtain ⟨m1_8, y1_8, g1_8⟩ := open_fld Tryd.underlying25 hc1 8 _ rfl
  have t1_8 : DataW.trod enc Tryd.prog W 0 (fun _ => true) true m1_8 5 (([c1_0, c1_1, c1_2, c1_3, c1_4, c1_5, c1_6, c1_7, c1_8, c1_9, c1_10].drop 8).take (Tryd.prog.cellsOf 5)) = some y1_8 := g1_8
  rw [show Tryd.prog.cellsOf 5 = 1 from by kernel_rfl] at t1_8
  have u1_8 : DataW.trod enc Tryd.prog W 0 (fun _ => true) true m1_8 5 [c1_8] = some y1_8 := t1_8
  obtain ⟨m1_9, y1_9, g1_9⟩ := open_fld Tryd.underlying25 hc1 9 _ rfl
  have t1_9 : DataW.trod enc Tryd.prog W 0 (fun _ => true) true m1_9 22 (([c1_0, c1_1, c1_2, c1_3, c1_4, c1_5, c1_6, c1_7, c1_8, c1_9, c1_10].drop 9).take (Tryd.prog.cellsOf 22)) = some y1_9 := g1_9
  rw [show Tryd.prog.cellsOf 22 = 1 from by kernel_rfl] at t1_9
  have u1_9 : DataW.trod enc Tryd.prog W 0 (fun _ => true) true m1_9 22 [c1_9] = some y1_9 := t1_9
  obtain ⟨m1_10, y1_10, g1_10⟩ := open_fld Tryd.underlying25 hc1 10 _ rfl
  have t1_10 : DataW.trod enc Tryd.prog W 0 (fun _ => true) true m1_10 23 (([c1_0, c1_1, c1_2, c1_3, c1_4, c1_5, c1_6, c1_7, c1_8, c1_9, c1_10].drop 10).take (Tryd.prog.cellsOf 23)) = some y1_10 := g1_10
  rw [show Tryd.prog.cellsOf 23 = 1 from by kernel_rfl] at t1_10
  have u1_10 : DataW.trod enc Tryd.prog W 0 (fun _ => true) true m1_10 23 [c1_10] = some y1_10 := t1_10
  obtain ⟨a1_0, e1_0, x1_0, w1_0⟩ := DataW.trod_int Tryd.underlying3 u1_0
  obtain rfl : c1_0 = .int .i64 a1_0 := by simpa using e1_0
  obtain ⟨a1_1, e1_1, x1_1, w1_1⟩ := DataW.trod_int Tryd.underlying22 u1_1
  obtain rfl : c1_1 = .int .u32 a1_1 := by simpa using e1_1
  obtain ⟨a1_2, e1_2, x1_2⟩ := DataW.trod_bool Tryd.underlying4 u1_2
  obtain rfl : c1_2 = .bool a1_2 := by simpa using e1_2
  obtain ⟨a1_3, e1_3, x1_3⟩ := DataW.trod_bool Tryd.underlying4 u1_3
  obtain rfl : c1_3 = .bool a1_3 := by simpa using e1_3
  obtain ⟨a1_4, e1_4, x1_4⟩ := DataW.trod_bool Tryd.underlying4 u1_4
  obtain rfl : c1_4 = .bool a1_4 := by simpa using e1_4
  obtain ⟨a1_5, e1_5, x1_5⟩ := DataW.trod_bool Tryd.underlying4 u1_5
  obtain rfl : c1_5 = .bool a1_5 := by simpa using e1_5
  obtain ⟨a1_6, e1_6, x1_6⟩ := DataW.trod_bool Tryd.underlying4 u1_6
  obtain rfl : c1_6 = .bool a1_6 := by simpa using e1_6
  obtain ⟨a1_7, e1_7, x1_7, w1_7⟩ := DataW.trod_int Tryd.underlying5 u1_7
  obtain rfl : c1_7 = .int .u8 a1_7 := by simpa using e1_7
  obtain ⟨a1_8, e1_8, x1_8, w1_8⟩ := DataW.trod_int Tryd.underlying5 u1_8
  obtain rfl : c1_8 = .int .u8 a1_8 := by simpa using e1_8
  obtain ⟨a1_9, e1_9, x1_9, w1_9⟩ := DataW.trod_int Tryd.underlying22 u1_9
  obtain rfl : c1_9 = .int .u32 a1_9 := by simpa using e1_9
  obtain ⟨a1_10, cap1_10, l1_10, e1_10, hb1_10, n1_10⟩ := bytes_open u1_10
  subst e1_10
  refine (walk W (both_of hL) a0_0 w0_0 a0_1 w0_1 a0_2 a0_3 a0_4 a0_5 a0_6 a0_7 w0_7 a0_8 w0_8 a0_9 w0_9 a0_10 cap0_10 l0_10 hb0_10 n0_10 a1_0 w1_0 a1_1 w1_1 a1_2 a1_3 a1_4 a1_5 a1_6 a1_7 w1_7 a1_8 w1_8 a1_9 w1_9 a1_10 cap1_10 l1_10 hb1_10 n1_10).mono fun e W' ⟨he, bel⟩ => ?_
  subst he
  exact ⟨_, rfl, _, _, _, [], _, [], hW', trodAll_mk1 (shut_bool Tryd.underlying4 _), (trodAll_cons_mk (Below.trod laidOut (by kernel_rfl) (of_decide_eq_true (by kernel_rfl)) k0 bel lt0) (trodAll_cons_mk (Below.trod laidOut (by kernel_rfl) (of_decide_eq_true (by kernel_rfl)) k1 bel lt1) trodAll_mk0)), rfl, bel.frame _, fun h => by cases h⟩

theorem over : Rows.xlApartRow.holds Tryd.pinned (OpenSpec.ofChange Rows.xlApartSpec) :=
  OpenClaim.holds_of_wide 7 Tryd.f7 rfl rfl rfl rfl rfl rfl rfl ⟨rfl, rfl, rfl, rfl, rfl⟩ rfl rfl rfl rfl rfl (by kernel_rfl) Tryd.func7 (by kernel_rfl)
    (of_decide_eq_true (by kernel_rfl)) (by unfold Func.isWrapper; first | (rw [if_pos (by decide +kernel)]; kernel_rfl) | (rw [if_neg (by decide +kernel)]; exact ⟨rfl, rfl⟩))
    (fun os started H enc _ => lifted os started H enc)

theorem plain (f : FuncId) (fn : Func) (hf : Tryd.pinned.checked.prog.funcNamed "omnibus/omnibuslaw08.XlApart" = some f) (hfn : Tryd.pinned.checked.prog.funcs[f]? = some fn) :
    false = Tryd.pinned.checked.prog.looks [] ∧ ∀ (j : Nat) t, fn.params[j]? = some t → Tryd.pinned.checked.prog.wantsStandIn t = false := by
  obtain rfl : f = 7 := Option.some.inj ((show Tryd.prog.funcNamed "omnibus/omnibuslaw08.XlApart" = some 7 by kernel_rfl).symm.trans hf) |>.symm
  obtain rfl : fn = Tryd.f7 := (Option.some.inj (Tryd.func7.symm.trans hfn)).symm
  refine ⟨by kernel_rfl, fun j t ht => ?_⟩
  rw [Tryd.params7] at ht
  have hm : t ∈ [25] := by have := Array.mem_of_getElem? ht; simp at this ⊢; omega
  have hall : ([25].all fun u => !Tryd.prog.wantsStandIn u) = true := by kernel_rfl
  exact (show Tryd.prog.wantsStandIn t = false by simpa using List.all_eq_true.1 hall t hm)
theorem proved : Rows.XlApartCardSaid :=
  Claim7.holds_tied_plain_at .later [] _ _ _ _ over (fun _ h => by cases h) (by kernel_rfl) (fun _ h => by cases h) xlApart_row_tie rfl ⟨rfl, rfl⟩ (by kernel_rfl) rfl plain (by kernel_rfl)
#print axioms proved
end Go.Proofs.YtaaphbneidmciaaDoor.xlApart
