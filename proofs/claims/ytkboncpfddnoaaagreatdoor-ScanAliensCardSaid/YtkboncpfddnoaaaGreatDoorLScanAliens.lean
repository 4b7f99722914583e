/- For every row and frame the law ScanAliens answers true and leaves its arguments as they were; the package's tables of kinds of sums and of longer sizes are tied to the program's text. No conditions. -/
import Derived.Test.YtkboncpfddnoaaaGreatDoorRows
import Derived.Test.YtkboncpfddnoaaaGreatDoorCards
import Derived.Test.YtkboncpfddnoaaaGreatDoorTie
import Derived.Test.YtkboncpfddnoaaaGreatDoorScA
import Derived.Test.YtkboncpfddnoaaaGreatDoorScB
import Derived.Test.YtkboncpfddnoaaaGreatDoorGa
import Derived.Test.YtkboncpfddnoaaaGreatDoorFrmE
import Derived.WalkKit
import Derived.ProofKit
import Derived.OpenShut
import Derived.ShutString
import Derived.ChangeOld
import Derived.Below
import Derived.Carry
import Derived.Lib.SmallJoins
import Derived.Deep.RegionWith
import Derived.Deep.RegionHeld3
import Derived.LaidMore
import Derived.LaidLaws
import Derived.Stop.Joined
import Derived.SevenTiedAt
namespace Go.Proofs.YtkboncpfddnoaaaGreatDoor.scanAliens
open Go.ChangeShapes Go.WideShapes Go.ChangeAt Go.RowKit Go.Joins
set_option linter.unusedVariables false
set_option linter.unusedSimpArgs false
theorem own : ownKnob Tryz.prog.godebug = none := by kernel_rfl
theorem laidOut : laidOutB Tryz.prog = true := by kernel_rfl
theorem arr11 {α : Type} {cs : Array α} (h : cs.size = 11) : ∃ c0 c1 c2 c3 c4 c5 c6 c7 c8 c9 c10, cs = #[c0, c1, c2, c3, c4, c5, c6, c7, c8, c9, c10] := by
  obtain ⟨l⟩ := cs
  match l, h with
  | [c0, c1, c2, c3, c4, c5, c6, c7, c8, c9, c10], _ => exact ⟨c0, c1, c2, c3, c4, c5, c6, c7, c8, c9, c10, rfl⟩
set_option maxHeartbeats 8000000 in
set_option maxRecDepth 100000 in
theorem walk (w : World) (hK : Both w) (a0 : Option Addr) (cap0 : Nat) (l0 : List Nat) (h0 : Bs w a0 cap0 l0) (n0 : a0 = none → cap0 = 0) (a1_0 : Int) (w1_0 : (Lit.int .i64 a1_0).wf = true) (a1_1 : Int) (w1_1 : (Lit.int .u32 a1_1).wf = true) (a1_2 : Bool) (a1_3 : Bool) (a1_4 : Bool) (a1_5 : Bool) (a1_6 : Bool) (a1_7 : Int) (w1_7 : (Lit.int .u8 a1_7).wf = true) (a1_8 : Int) (w1_8 : (Lit.int .u8 a1_8).wf = true) (a1_9 : Int) (w1_9 : (Lit.int .u32 a1_9).wf = true) (a1_10 : Option Addr) (cap1_10 : Nat) (l1_10 : List Nat) (h1_10 : Bs w a1_10 cap1_10 l1_10) (n1_10 : a1_10 = none → cap1_10 = 0) :
    Calls Tryz.prog 7 #[.slice a0 l0.length cap0, .agg #[.int .i64 a1_0, .int .u32 a1_1, .bool a1_2, .bool a1_3, .bool a1_4, .bool a1_5, .bool a1_6, .int .u8 a1_7, .int .u8 a1_8, .int .u32 a1_9, .slice a1_10 l1_10.length cap1_10]] w fun e w' => e = .returned (.bool true) ∧ Nb w w' := by
  have hL0 := h0.len
  have hL1 := h1_10.len
  have hW : WdX ⟨a1_0, a1_1, a1_2, a1_3, a1_4, a1_5, a1_6, a1_7, a1_8, a1_9⟩ := by
    simp [Lit.wf, IntKind.min, IntKind.max, IntKind.signed, IntKind.bits] at w1_1 w1_7 w1_8 w1_9
    simp only [WdX]
    omega
  have HK := Lib.hid hK
  have HA := Lib.hid h0
  have HB := Lib.hid h1_10
  have hbB := h1_10.hbyte
  have QF := Lib.hid (Blk.new w #[.int .i64 a1_0, .int .u32 a1_1, .bool a1_2, .bool a1_3, .bool a1_4, .bool a1_5, .bool a1_6, .int .u8 a1_7, .int .u8 a1_8, .int .u32 a1_9, .slice a1_10 l1_10.length cap1_10] 29)
  have M0 := Lib.hid (Nb.rfl.al (.cells #[.int .i64 a1_0, .int .u32 a1_1, .bool a1_2, .bool a1_3, .bool a1_4, .bool a1_5, .bool a1_6, .int .u8 a1_7, .int .u8 a1_8, .int .u32 a1_9, .slice a1_10 l1_10.length cap1_10] 29) : Nb w _)
  have S1 := Lib.hid (fun w' (n : Nb w w') => scan9_any true a0 cap0 l0 w' (HA.out.below n) (HK.out.below n))
  have S2 := Lib.hid (fun w' (n : Nb w w') => scan9_any false a0 cap0 l0 w' (HA.out.below n) (HK.out.below n))
  have F1 := Lib.hid (fun w' (n : Nb w w') => wire9_any ⟨a1_0, a1_1, a1_2, a1_3, a1_4, a1_5, a1_6, a1_7, a1_8, a1_9⟩ a1_10 cap1_10 l1_10 w' (HB.out.below n) hW (HK.out.below n).1 (HK.out.below n).2)
  clear hK h0 h1_10 w1_0 w1_1 w1_7 w1_8 w1_9 n1_10 n0
  by_cases h400 : 400 < l0.length
  · have d0 : decide (400 < (l0.length : Int)) = true := decide_eq_true (by omega)
    clear S1 S2 F1 h400 hW
    go_enter Tryz.func7, Tryz.ntmps7
    go_wp2_with fail
    refine (alive9_any _ (HK.out.below M0.out)).mono ?_
    rintro e w1 ⟨rfl, n1⟩
    have Q1 := Lib.hid (QF.out.nb n1)
    have M1 := Lib.hid (M0.out.tr n1)
    clear n1
    obtain ⟨c0, c1, c2, c3, c4, c5, c6, c7, c8, c9, c10⟩ := Q1.out.c11
    go_wp2
    go_ret
    exact ⟨rfl, M1.out⟩
  have d0 : decide (400 < (l0.length : Int)) = false := decide_eq_false (by omega)
  clear h400
  by_cases h100 : 100 < l1_10.length
  · have d1 : decide (100 < (l1_10.length : Int)) = true := decide_eq_true (by omega)
    clear S1 S2 F1 h100 hW
    go_enter Tryz.func7, Tryz.ntmps7
    go_wp2_with fail
    refine (alive9_any _ (HK.out.below M0.out)).mono ?_
    rintro e w1 ⟨rfl, n1⟩
    have Q1 := Lib.hid (QF.out.nb n1)
    have M1 := Lib.hid (M0.out.tr n1)
    clear n1
    obtain ⟨c0, c1, c2, c3, c4, c5, c6, c7, c8, c9, c10⟩ := Q1.out.c11
    go_wp2
    go_ret
    exact ⟨rfl, M1.out⟩
  have d1 : decide (100 < (l1_10.length : Int)) = false := decide_eq_false (by omega)
  clear h100
  obtain ⟨r4, hr⟩ := row_both l0
  generalize rowS true l0 = sa at *
  generalize rowS false l0 = sb at *
  generalize chkE l0 = E0 at *
  have dA : ((sa.k : Int) == 4) = false := by rw [beq_eq_false_iff_ne]; omega
  have hwi : (okF ⟨a1_0, a1_1, a1_2, a1_3, a1_4, a1_5, a1_6, a1_7, a1_8, a1_9⟩ l1_10 = false ∧ erF ⟨a1_0, a1_1, a1_2, a1_3, a1_4, a1_5, a1_6, a1_7, a1_8, a1_9⟩ l1_10 = 2) ∨ (okF ⟨a1_0, a1_1, a1_2, a1_3, a1_4, a1_5, a1_6, a1_7, a1_8, a1_9⟩ l1_10 = true ∧ erF ⟨a1_0, a1_1, a1_2, a1_3, a1_4, a1_5, a1_6, a1_7, a1_8, a1_9⟩ l1_10 = 0) := by
    cases ho : okF ⟨a1_0, a1_1, a1_2, a1_3, a1_4, a1_5, a1_6, a1_7, a1_8, a1_9⟩ l1_10 with
    | false => exact .inl ⟨rfl, by rw [erF_of, ho]; rfl⟩
    | true => exact .inr ⟨rfl, by rw [erF_of, ho]; rfl⟩
  rcases hwi with ⟨hok, her⟩ | ⟨hok, her⟩
  · rw [her] at F1
    clear her hok hbB hW
    generalize wF _ l1_10 = W at *
    generalize arbF _ l1_10 = N at *
    generalize ackF _ l1_10 = C at *
    simp only [Hd.cs] at F1
    rcases hr with hs | hs
    · have hs := hs.symm
      subst hs
      go_enter Tryz.func7, Tryz.ntmps7
      go_wp2_with fail
      refine (alive9_any _ (HK.out.below M0.out)).mono ?_
      rintro e w1 ⟨rfl, n1⟩
      have Q1 := Lib.hid (QF.out.nb n1)
      have M1 := Lib.hid (M0.out.tr n1)
      clear n1
      obtain ⟨c0, c1, c2, c3, c4, c5, c6, c7, c8, c9, c10⟩ := Q1.out.c11
      go_wp2_with fail
      refine (S1.out _ M1.out).mono ?_
      rintro e w2 ⟨⟨a2, k2, rfl, b2⟩, n2⟩
      have M2 := Lib.hid (M1.out.tr n2)
      have Q2 := Lib.hid (Q1.out.nb n2)
      have lt2 : w.heap.size < w2.heap.size := Q2.out.lt
      clear n2 c0 c1 c2 c3 c4 c5 c6 c7 c8 c9 c10
      simp only [staV]
      obtain ⟨w3, hw3⟩ : ∃ w3, w3 = w2.alloc (.cells #[.int .i64 sa.k, .int .i64 sa.e, .int .i64 sa.f.K, .int .u32 sa.f.I, .bool sa.f.X, .bool sa.f.R, .bool sa.f.B, .bool sa.f.E, .bool sa.f.S, .int .u8 sa.f.D, .int .u8 sa.f.V, .int .u32 sa.f.A, .slice a2 sa.l.length k2] 31) := ⟨_, rfl⟩
      have n23 : Nb w2 w3 := by rw [hw3]; exact Nb.rfl.al _
      have A3 := Lib.hid (show Blk w3 w2.heap.size #[.int .i64 sa.k, .int .i64 sa.e, .int .i64 sa.f.K, .int .u32 sa.f.I, .bool sa.f.X, .bool sa.f.R, .bool sa.f.B, .bool sa.f.E, .bool sa.f.S, .int .u8 sa.f.D, .int .u8 sa.f.V, .int .u32 sa.f.A, .slice a2 sa.l.length k2] 31 by rw [hw3]; exact Blk.new _ _ _)
      have M3 := Lib.hid (M2.out.tr n23)
      have Q3 := Lib.hid (Q2.out.nb n23)
      have D3 := Lib.hid (b2.below n23)
      have E3 := Lib.hid hw3
      clear hw3 n23 b2
      go_wp2_with fail
      rw [← E3.out]
      refine (S2.out _ M3.out).mono ?_
      rintro e w4 ⟨⟨a4, k4, rfl, b4⟩, n4⟩
      have M4 := Lib.hid (M3.out.tr n4)
      have Q4 := Lib.hid (Q3.out.nb n4)
      have A4 := Lib.hid (A3.out.nb n4)
      have D4 := Lib.hid (D3.out.below n4)
      have lt4 : w.heap.size < w4.heap.size := Q4.out.lt
      have lt4' : w2.heap.size < w4.heap.size := A4.out.lt
      clear n4 E3
      simp only [staV]
      obtain ⟨w5, hw5⟩ : ∃ w5, w5 = w4.alloc (.cells #[.int .i64 sa.k, .int .i64 sa.e, .int .i64 sa.f.K, .int .u32 sa.f.I, .bool sa.f.X, .bool sa.f.R, .bool sa.f.B, .bool sa.f.E, .bool sa.f.S, .int .u8 sa.f.D, .int .u8 sa.f.V, .int .u32 sa.f.A, .slice a4 sa.l.length k4] 31) := ⟨_, rfl⟩
      have n45 : Nb w4 w5 := by rw [hw5]; exact Nb.rfl.al _
      have B5 := Lib.hid (show Blk w5 w4.heap.size #[.int .i64 sa.k, .int .i64 sa.e, .int .i64 sa.f.K, .int .u32 sa.f.I, .bool sa.f.X, .bool sa.f.R, .bool sa.f.B, .bool sa.f.E, .bool sa.f.S, .int .u8 sa.f.D, .int .u8 sa.f.V, .int .u32 sa.f.A, .slice a4 sa.l.length k4] 31 by rw [hw5]; exact Blk.new _ _ _)
      have A5 := Lib.hid (A4.out.nb n45)
      have M5 := Lib.hid (M4.out.tr n45)
      have Q5 := Lib.hid (Q4.out.nb n45)
      have D5 := Lib.hid (D4.out.below n45)
      have G5 := Lib.hid (b4.below n45)
      have E5 := Lib.hid hw5
      clear hw5 n45 b4
      obtain ⟨x0, x1, x2, x3, x4, x5, x6, x7, x8, x9, x10, x11, x12⟩ := A5.out.c13
      obtain ⟨y0, y1, y2, y3, y4, y5, y6, y7, y8, y9, y10, y11, y12⟩ := B5.out.c13
      rw [E5.out] at x0 x1 x2 x3 x4 x5 x6 x7 x8 x9 x10 x11 x12 y0 y1 y2 y3 y4 y5 y6 y7 y8 y9 y10 y11 y12
      obtain ⟨c0, c1, c2, c3, c4, c5, c6, c7, c8, c9, c10⟩ := Q5.out.c11
      rw [E5.out] at c0 c1 c2 c3 c4 c5 c6 c7 c8 c9 c10
      have dB : ((sa.k : Int) != 4) = true := by rw [bne_iff_ne]; omega
      go_wp2_with fail
      rw [← E5.out]
      refine (same9_any sa sa a2 a4 k2 k4 _ D5.out G5.out).mono ?_
      rintro e w6 ⟨rfl, n6⟩
      rw [sameT_rfl]
      have M6 := Lib.hid (M5.out.tr n6)
      have Q6 := Lib.hid (Q5.out.nb n6)
      have A6 := Lib.hid (A5.out.nb n6)
      clear n6 E5 x0 x1 x2 x3 x4 x5 x6 x7 x8 x9 x10 x11 x12 y0 y1 y2 y3 y4 y5 y6 y7 y8 y9 y10 y11 y12 c0 c1 c2 c3 c4 c5 c6 c7 c8 c9 c10
      obtain ⟨x0, x1, x2, x3, x4, x5, x6, x7, x8, x9, x10, x11, x12⟩ := A6.out.c13
      obtain ⟨c0, c1, c2, c3, c4, c5, c6, c7, c8, c9, c10⟩ := Q6.out.c11
      go_wp2_with fail
      refine (F1.out _ M6.out).mono ?_
      rintro e w7 ⟨⟨a7, k7, rfl, f7⟩, n7⟩
      have M7 := Lib.hid (M6.out.tr n7)
      clear f7 n7
      go_wp2
      go_ret
      exact ⟨rfl, M7.out.al _⟩
    · subst hs
      go_enter Tryz.func7, Tryz.ntmps7
      go_wp2_with fail
      refine (alive9_any _ (HK.out.below M0.out)).mono ?_
      rintro e w1 ⟨rfl, n1⟩
      have Q1 := Lib.hid (QF.out.nb n1)
      have M1 := Lib.hid (M0.out.tr n1)
      clear n1
      obtain ⟨c0, c1, c2, c3, c4, c5, c6, c7, c8, c9, c10⟩ := Q1.out.c11
      go_wp2_with fail
      refine (S1.out _ M1.out).mono ?_
      rintro e w2 ⟨⟨a2, k2, rfl, b2⟩, n2⟩
      have M2 := Lib.hid (M1.out.tr n2)
      have Q2 := Lib.hid (Q1.out.nb n2)
      have lt2 : w.heap.size < w2.heap.size := Q2.out.lt
      clear n2 c0 c1 c2 c3 c4 c5 c6 c7 c8 c9 c10
      simp only [staV]
      obtain ⟨w3, hw3⟩ : ∃ w3, w3 = w2.alloc (.cells #[.int .i64 sa.k, .int .i64 sa.e, .int .i64 sa.f.K, .int .u32 sa.f.I, .bool sa.f.X, .bool sa.f.R, .bool sa.f.B, .bool sa.f.E, .bool sa.f.S, .int .u8 sa.f.D, .int .u8 sa.f.V, .int .u32 sa.f.A, .slice a2 sa.l.length k2] 31) := ⟨_, rfl⟩
      have n23 : Nb w2 w3 := by rw [hw3]; exact Nb.rfl.al _
      have A3 := Lib.hid (show Blk w3 w2.heap.size #[.int .i64 sa.k, .int .i64 sa.e, .int .i64 sa.f.K, .int .u32 sa.f.I, .bool sa.f.X, .bool sa.f.R, .bool sa.f.B, .bool sa.f.E, .bool sa.f.S, .int .u8 sa.f.D, .int .u8 sa.f.V, .int .u32 sa.f.A, .slice a2 sa.l.length k2] 31 by rw [hw3]; exact Blk.new _ _ _)
      have M3 := Lib.hid (M2.out.tr n23)
      have Q3 := Lib.hid (Q2.out.nb n23)
      have D3 := Lib.hid (b2.below n23)
      have E3 := Lib.hid hw3
      clear hw3 n23 b2
      go_wp2_with fail
      rw [← E3.out]
      refine (S2.out _ M3.out).mono ?_
      rintro e w4 ⟨⟨a4, k4, rfl, b4⟩, n4⟩
      have M4 := Lib.hid (M3.out.tr n4)
      have Q4 := Lib.hid (Q3.out.nb n4)
      have A4 := Lib.hid (A3.out.nb n4)
      have D4 := Lib.hid (D3.out.below n4)
      have lt4 : w.heap.size < w4.heap.size := Q4.out.lt
      have lt4' : w2.heap.size < w4.heap.size := A4.out.lt
      clear n4 E3
      simp only [staV]
      simp only [alienS, noF, List.length_nil]
      obtain ⟨w5, hw5⟩ : ∃ w5, w5 = w4.alloc (.cells #[.int .i64 4, .int .i64 0, .int .i64 0, .int .u32 0, .bool false, .bool false, .bool false, .bool false, .bool false, .int .u8 0, .int .u8 0, .int .u32 0, .slice a4 0 k4] 31) := ⟨_, rfl⟩
      have n45 : Nb w4 w5 := by rw [hw5]; exact Nb.rfl.al _
      have B5 := Lib.hid (show Blk w5 w4.heap.size #[.int .i64 4, .int .i64 0, .int .i64 0, .int .u32 0, .bool false, .bool false, .bool false, .bool false, .bool false, .int .u8 0, .int .u8 0, .int .u32 0, .slice a4 0 k4] 31 by rw [hw5]; exact Blk.new _ _ _)
      have A5 := Lib.hid (A4.out.nb n45)
      have M5 := Lib.hid (M4.out.tr n45)
      have Q5 := Lib.hid (Q4.out.nb n45)
      have D5 := Lib.hid (D4.out.below n45)
      have G5 := Lib.hid (b4.below n45)
      have E5 := Lib.hid hw5
      clear hw5 n45 b4
      obtain ⟨x0, x1, x2, x3, x4, x5, x6, x7, x8, x9, x10, x11, x12⟩ := A5.out.c13
      obtain ⟨y0, y1, y2, y3, y4, y5, y6, y7, y8, y9, y10, y11, y12⟩ := B5.out.c13
      rw [E5.out] at x0 x1 x2 x3 x4 x5 x6 x7 x8 x9 x10 x11 x12 y0 y1 y2 y3 y4 y5 y6 y7 y8 y9 y10 y11 y12
      obtain ⟨c0, c1, c2, c3, c4, c5, c6, c7, c8, c9, c10⟩ := Q5.out.c11
      rw [E5.out] at c0 c1 c2 c3 c4 c5 c6 c7 c8 c9 c10
      go_wp2_with fail
      rw [← E5.out]
      have M6 := Lib.hid M5.out
      have Q6 := Lib.hid Q5.out
      obtain ⟨w6, hw6⟩ : ∃ w6, w6 = w5 := ⟨_, rfl⟩
      rw [← hw6] at M6 Q6
      rw [← hw6]
      clear hw6 E5 x0 x1 x2 x3 x4 x5 x6 x7 x8 x9 x10 x11 x12 y0 y1 y2 y3 y4 y5 y6 y7 y8 y9 y10 y11 y12 c0 c1 c2 c3 c4 c5 c6 c7 c8 c9 c10
      refine (F1.out _ M6.out).mono ?_
      rintro e w7 ⟨⟨a7, k7, rfl, f7⟩, n7⟩
      have M7 := Lib.hid (M6.out.tr n7)
      clear f7 n7
      go_wp2
      go_ret
      exact ⟨rfl, M7.out.al _⟩
  rw [her] at F1
  have hfr := fun kn h => row_frame (kn := kn) hok hW hbB h
  obtain ⟨e1, e2, e3, e4, e5, e6, e7, hc⟩ := wF_of hok hW hbB
  clear e1 e2 e3 e4 e5 e6
  by_cases hK3 : a1_0 = 3
  · subst hK3
    obtain ⟨r1, r2, r3, r5, r6⟩ := row_alien hok hW hbB rfl
    have hck : ∀ n, chkE ((wF ⟨3, a1_1, a1_2, a1_3, a1_4, a1_5, a1_6, a1_7, a1_8, a1_9⟩ l1_10).take n) = 0 := fun n => by rw [chkE, if_pos (chk_sub hc (fun x hx => List.mem_of_mem_take hx) (by rw [List.length_take]; omega))]
    have hck0 : chkE (wF ⟨3, a1_1, a1_2, a1_3, a1_4, a1_5, a1_6, a1_7, a1_8, a1_9⟩ l1_10) = 0 := by rw [chkE, if_pos hc]
    have S3 := Lib.hid (fun w' (a' : Option Addr) (c' : Nat) (n : Nb w w') (h : Bs w' a' c' (wF ⟨3, a1_1, a1_2, a1_3, a1_4, a1_5, a1_6, a1_7, a1_8, a1_9⟩ l1_10)) => by
      have := scan9_any false a' c' _ w' h (HK.out.below n)
      rw [r1, hck0] at this
      exact this)
    have S4 := Lib.hid (fun w' (a' : Option Addr) (c' : Nat) (n : Nb w w') (h : Bs w' a' c' (wF ⟨3, a1_1, a1_2, a1_3, a1_4, a1_5, a1_6, a1_7, a1_8, a1_9⟩ l1_10)) => by
      have := scan9_any false a' c' _ w' (h.head (arbF ⟨3, a1_1, a1_2, a1_3, a1_4, a1_5, a1_6, a1_7, a1_8, a1_9⟩ l1_10 - 2)) (HK.out.below n)
      rw [r3, hck, List.length_take, Nat.min_eq_left (by omega)] at this
      exact this)
    have S5 := Lib.hid (fun w' (a' : Option Addr) (c' : Nat) (n : Nb w w') (h : Bs w' a' c' (wF ⟨3, a1_1, a1_2, a1_3, a1_4, a1_5, a1_6, a1_7, a1_8, a1_9⟩ l1_10)) => by
      have := scan9_any false a' c' _ w' (h.head (arbF ⟨3, a1_1, a1_2, a1_3, a1_4, a1_5, a1_6, a1_7, a1_8, a1_9⟩ l1_10)) (HK.out.below n)
      rw [r2, hck, List.length_take, Nat.min_eq_left r6] at this
      exact this)
    clear r1 r2 r3 hck hck0 hok her hfr e7 hc hbB hW
    generalize wF _ l1_10 = W at *
    generalize arbF _ l1_10 = N at *
    generalize ackF _ l1_10 = C at *
    obtain ⟨N2, hN2⟩ : ∃ N2, N - 2 = N2 := ⟨_, rfl⟩
    rw [hN2] at S4
    have eN : (N : Int) - 2 = (N2 : Int) := by omega
    simp only [Hd.cs] at F1
    rcases hr with hs | hs
    · have hs := hs.symm
      subst hs
      go_enter Tryz.func7, Tryz.ntmps7
      go_wp2_with fail
      refine (alive9_any _ (HK.out.below M0.out)).mono ?_
      rintro e w1 ⟨rfl, n1⟩
      have Q1 := Lib.hid (QF.out.nb n1)
      have M1 := Lib.hid (M0.out.tr n1)
      clear n1
      obtain ⟨c0, c1, c2, c3, c4, c5, c6, c7, c8, c9, c10⟩ := Q1.out.c11
      go_wp2_with fail
      refine (S1.out _ M1.out).mono ?_
      rintro e w2 ⟨⟨a2, k2, rfl, b2⟩, n2⟩
      have M2 := Lib.hid (M1.out.tr n2)
      have Q2 := Lib.hid (Q1.out.nb n2)
      have lt2 : w.heap.size < w2.heap.size := Q2.out.lt
      clear n2 c0 c1 c2 c3 c4 c5 c6 c7 c8 c9 c10
      simp only [staV]
      obtain ⟨w3, hw3⟩ : ∃ w3, w3 = w2.alloc (.cells #[.int .i64 sa.k, .int .i64 sa.e, .int .i64 sa.f.K, .int .u32 sa.f.I, .bool sa.f.X, .bool sa.f.R, .bool sa.f.B, .bool sa.f.E, .bool sa.f.S, .int .u8 sa.f.D, .int .u8 sa.f.V, .int .u32 sa.f.A, .slice a2 sa.l.length k2] 31) := ⟨_, rfl⟩
      have n23 : Nb w2 w3 := by rw [hw3]; exact Nb.rfl.al _
      have A3 := Lib.hid (show Blk w3 w2.heap.size #[.int .i64 sa.k, .int .i64 sa.e, .int .i64 sa.f.K, .int .u32 sa.f.I, .bool sa.f.X, .bool sa.f.R, .bool sa.f.B, .bool sa.f.E, .bool sa.f.S, .int .u8 sa.f.D, .int .u8 sa.f.V, .int .u32 sa.f.A, .slice a2 sa.l.length k2] 31 by rw [hw3]; exact Blk.new _ _ _)
      have M3 := Lib.hid (M2.out.tr n23)
      have Q3 := Lib.hid (Q2.out.nb n23)
      have D3 := Lib.hid (b2.below n23)
      have E3 := Lib.hid hw3
      clear hw3 n23 b2
      go_wp2_with fail
      rw [← E3.out]
      refine (S2.out _ M3.out).mono ?_
      rintro e w4 ⟨⟨a4, k4, rfl, b4⟩, n4⟩
      have M4 := Lib.hid (M3.out.tr n4)
      have Q4 := Lib.hid (Q3.out.nb n4)
      have A4 := Lib.hid (A3.out.nb n4)
      have D4 := Lib.hid (D3.out.below n4)
      have lt4 : w.heap.size < w4.heap.size := Q4.out.lt
      have lt4' : w2.heap.size < w4.heap.size := A4.out.lt
      clear n4 E3
      simp only [staV]
      obtain ⟨w5, hw5⟩ : ∃ w5, w5 = w4.alloc (.cells #[.int .i64 sa.k, .int .i64 sa.e, .int .i64 sa.f.K, .int .u32 sa.f.I, .bool sa.f.X, .bool sa.f.R, .bool sa.f.B, .bool sa.f.E, .bool sa.f.S, .int .u8 sa.f.D, .int .u8 sa.f.V, .int .u32 sa.f.A, .slice a4 sa.l.length k4] 31) := ⟨_, rfl⟩
      have n45 : Nb w4 w5 := by rw [hw5]; exact Nb.rfl.al _
      have B5 := Lib.hid (show Blk w5 w4.heap.size #[.int .i64 sa.k, .int .i64 sa.e, .int .i64 sa.f.K, .int .u32 sa.f.I, .bool sa.f.X, .bool sa.f.R, .bool sa.f.B, .bool sa.f.E, .bool sa.f.S, .int .u8 sa.f.D, .int .u8 sa.f.V, .int .u32 sa.f.A, .slice a4 sa.l.length k4] 31 by rw [hw5]; exact Blk.new _ _ _)
      have A5 := Lib.hid (A4.out.nb n45)
      have M5 := Lib.hid (M4.out.tr n45)
      have Q5 := Lib.hid (Q4.out.nb n45)
      have D5 := Lib.hid (D4.out.below n45)
      have G5 := Lib.hid (b4.below n45)
      have E5 := Lib.hid hw5
      clear hw5 n45 b4
      obtain ⟨x0, x1, x2, x3, x4, x5, x6, x7, x8, x9, x10, x11, x12⟩ := A5.out.c13
      obtain ⟨y0, y1, y2, y3, y4, y5, y6, y7, y8, y9, y10, y11, y12⟩ := B5.out.c13
      rw [E5.out] at x0 x1 x2 x3 x4 x5 x6 x7 x8 x9 x10 x11 x12 y0 y1 y2 y3 y4 y5 y6 y7 y8 y9 y10 y11 y12
      obtain ⟨c0, c1, c2, c3, c4, c5, c6, c7, c8, c9, c10⟩ := Q5.out.c11
      rw [E5.out] at c0 c1 c2 c3 c4 c5 c6 c7 c8 c9 c10
      have dB : ((sa.k : Int) != 4) = true := by rw [bne_iff_ne]; omega
      go_wp2_with fail
      rw [← E5.out]
      refine (same9_any sa sa a2 a4 k2 k4 _ D5.out G5.out).mono ?_
      rintro e w6 ⟨rfl, n6⟩
      rw [sameT_rfl]
      have M6 := Lib.hid (M5.out.tr n6)
      have Q6 := Lib.hid (Q5.out.nb n6)
      have A6 := Lib.hid (A5.out.nb n6)
      clear n6 E5 x0 x1 x2 x3 x4 x5 x6 x7 x8 x9 x10 x11 x12 y0 y1 y2 y3 y4 y5 y6 y7 y8 y9 y10 y11 y12 c0 c1 c2 c3 c4 c5 c6 c7 c8 c9 c10
      obtain ⟨x0, x1, x2, x3, x4, x5, x6, x7, x8, x9, x10, x11, x12⟩ := A6.out.c13
      obtain ⟨c0, c1, c2, c3, c4, c5, c6, c7, c8, c9, c10⟩ := Q6.out.c11
      go_wp2_with fail
      refine (F1.out _ M6.out).mono ?_
      rintro e w7 ⟨⟨a7, k7, rfl, f7⟩, n7⟩
      have M7 := Lib.hid (M6.out.tr n7)
      have Q7 := Lib.hid (Q6.out.nb n7)
      have lt7 : w.heap.size < w7.heap.size := Q7.out.lt
      have G7 := Lib.hid f7.1.asBs.1
      clear f7 n7
      obtain ⟨w8, hw8⟩ : ∃ w8, w8 = w7.alloc (.cells #[.slice a7 W.length k7, .int .i64 N, .int .i64 C] 43) := ⟨_, rfl⟩
      have n78 : Nb w7 w8 := by rw [hw8]; exact Nb.rfl.al _
      have Y8 := Lib.hid (show Blk w8 w7.heap.size #[.slice a7 W.length k7, .int .i64 N, .int .i64 C] 43 by rw [hw8]; exact Blk.new _ _ _)
      have M8 := Lib.hid (M7.out.tr n78)
      have Q8 := Lib.hid (Q7.out.nb n78)
      have G8 := Lib.hid (G7.out.below n78)
      have E8 := Lib.hid hw8
      clear hw8 n78
      go_wp2_with fail
      rw [← E8.out]
      refine (S3.out _ a7 k7 M8.out G8.out).mono ?_
      rintro e w9 ⟨⟨a9, k9, rfl, b9⟩, n9⟩
      have M9 := Lib.hid (M8.out.tr n9)
      have Q9 := Lib.hid (Q8.out.nb n9)
      have Y9 := Lib.hid (Y8.out.nb n9)
      have G9 := Lib.hid (G8.out.below n9)
      have lt9 : w.heap.size < w9.heap.size := Q9.out.lt
      have lt9' : w7.heap.size < w9.heap.size := Y9.out.lt
      clear n9 E8
      simp only [staV, alienS, noF, List.length_nil]
      obtain ⟨wa, hwa⟩ : ∃ wa, wa = w9.alloc (.cells #[.int .i64 4, .int .i64 0, .int .i64 0, .int .u32 0, .bool false, .bool false, .bool false, .bool false, .bool false, .int .u8 0, .int .u8 0, .int .u32 0, .slice a9 0 k9] 31) := ⟨_, rfl⟩
      have n9a : Nb w9 wa := by rw [hwa]; exact Nb.rfl.al _
      have Ca := Lib.hid (show Blk wa w9.heap.size #[.int .i64 4, .int .i64 0, .int .i64 0, .int .u32 0, .bool false, .bool false, .bool false, .bool false, .bool false, .int .u8 0, .int .u8 0, .int .u32 0, .slice a9 0 k9] 31 by rw [hwa]; exact Blk.new _ _ _)
      have Ma := Lib.hid (M9.out.tr n9a)
      have Ga := Lib.hid (G9.out.below n9a)
      have Ya := Lib.hid (Y9.out.nb n9a)
      have Ea := Lib.hid hwa
      obtain ⟨c0, _⟩ := Q9.out.c11
      obtain ⟨z0, z1, z2⟩ := Y9.out.c3
      have hcut := run_cutH a7 W.length k7 N2 (by have := G9.out.hcap; omega)
      have hcut2 := run_cutH a7 W.length k7 N (by have := G9.out.hcap; omega)
      have hq1 : N ≤ k7 := by have := G9.out.hcap; omega
      have hq2 : N2 ≤ k7 := by omega
      have hq3 : k7 ≤ 9223372036854775807 := by have := G9.out.hmax; unfold maxLen at this; omega
      clear hwa n9a b9
      go_wp2_with fail
      rw [← Ea.out]
      refine (S4.out _ a7 k7 Ma.out Ga.out).mono ?_
      rintro e wb ⟨⟨ab, kb, rfl, bb⟩, nb⟩
      have Mb := Lib.hid (Ma.out.tr nb)
      have Gb := Lib.hid (Ga.out.below nb)
      have Yb := Lib.hid (Ya.out.nb nb)
      have Cb := Lib.hid (Ca.out.nb nb)
      have ltb : w7.heap.size < wb.heap.size := Yb.out.lt
      have ltb' : w9.heap.size < wb.heap.size := Cb.out.lt
      clear nb bb Ea c0 z0 z1 z2
      simp only [staV, moreS, noF, List.length_nil]
      obtain ⟨wc, hwc⟩ : ∃ wc, wc = wb.alloc (.cells #[.int .i64 0, .int .i64 0, .int .i64 0, .int .u32 0, .bool false, .bool false, .bool false, .bool false, .bool false, .int .u8 0, .int .u8 0, .int .u32 0, .slice ab 0 kb] 31) := ⟨_, rfl⟩
      have nbc : Nb wb wc := by rw [hwc]; exact Nb.rfl.al _
      have Dc := Lib.hid (show Blk wc wb.heap.size #[.int .i64 0, .int .i64 0, .int .i64 0, .int .u32 0, .bool false, .bool false, .bool false, .bool false, .bool false, .int .u8 0, .int .u8 0, .int .u32 0, .slice ab 0 kb] 31 by rw [hwc]; exact Blk.new _ _ _)
      have Mc := Lib.hid (Mb.out.tr nbc)
      have Gc := Lib.hid (Gb.out.below nbc)
      have Cc := Lib.hid (Cb.out.nb nbc)
      have Ec := Lib.hid hwc
      obtain ⟨z0, z1, z2⟩ := Yb.out.c3
      clear hwc nbc
      go_wp2_with fail
      rw [← Ec.out]
      refine (S5.out _ a7 k7 Mc.out Gc.out).mono ?_
      rintro e wd ⟨⟨ad, kd, rfl, bd⟩, nd⟩
      have Md := Lib.hid (Mc.out.tr nd)
      have ltd : w9.heap.size < wd.heap.size := (Cc.out.nb nd).lt
      have ltd' : wb.heap.size < wd.heap.size := (Dc.out.nb nd).lt
      obtain ⟨u0, _⟩ := (Cc.out.nb nd).c13
      obtain ⟨v0, _⟩ := (Dc.out.nb nd).c13
      clear nd bd Ec z0 z1 z2
      simp only [staV]
      go_wp2
      go_ret
      exact ⟨rfl, Md.out.al _⟩
    · subst hs
      go_enter Tryz.func7, Tryz.ntmps7
      go_wp2_with fail
      refine (alive9_any _ (HK.out.below M0.out)).mono ?_
      rintro e w1 ⟨rfl, n1⟩
      have Q1 := Lib.hid (QF.out.nb n1)
      have M1 := Lib.hid (M0.out.tr n1)
      clear n1
      obtain ⟨c0, c1, c2, c3, c4, c5, c6, c7, c8, c9, c10⟩ := Q1.out.c11
      go_wp2_with fail
      refine (S1.out _ M1.out).mono ?_
      rintro e w2 ⟨⟨a2, k2, rfl, b2⟩, n2⟩
      have M2 := Lib.hid (M1.out.tr n2)
      have Q2 := Lib.hid (Q1.out.nb n2)
      have lt2 : w.heap.size < w2.heap.size := Q2.out.lt
      clear n2 c0 c1 c2 c3 c4 c5 c6 c7 c8 c9 c10
      simp only [staV]
      obtain ⟨w3, hw3⟩ : ∃ w3, w3 = w2.alloc (.cells #[.int .i64 sa.k, .int .i64 sa.e, .int .i64 sa.f.K, .int .u32 sa.f.I, .bool sa.f.X, .bool sa.f.R, .bool sa.f.B, .bool sa.f.E, .bool sa.f.S, .int .u8 sa.f.D, .int .u8 sa.f.V, .int .u32 sa.f.A, .slice a2 sa.l.length k2] 31) := ⟨_, rfl⟩
      have n23 : Nb w2 w3 := by rw [hw3]; exact Nb.rfl.al _
      have A3 := Lib.hid (show Blk w3 w2.heap.size #[.int .i64 sa.k, .int .i64 sa.e, .int .i64 sa.f.K, .int .u32 sa.f.I, .bool sa.f.X, .bool sa.f.R, .bool sa.f.B, .bool sa.f.E, .bool sa.f.S, .int .u8 sa.f.D, .int .u8 sa.f.V, .int .u32 sa.f.A, .slice a2 sa.l.length k2] 31 by rw [hw3]; exact Blk.new _ _ _)
      have M3 := Lib.hid (M2.out.tr n23)
      have Q3 := Lib.hid (Q2.out.nb n23)
      have D3 := Lib.hid (b2.below n23)
      have E3 := Lib.hid hw3
      clear hw3 n23 b2
      go_wp2_with fail
      rw [← E3.out]
      refine (S2.out _ M3.out).mono ?_
      rintro e w4 ⟨⟨a4, k4, rfl, b4⟩, n4⟩
      have M4 := Lib.hid (M3.out.tr n4)
      have Q4 := Lib.hid (Q3.out.nb n4)
      have A4 := Lib.hid (A3.out.nb n4)
      have D4 := Lib.hid (D3.out.below n4)
      have lt4 : w.heap.size < w4.heap.size := Q4.out.lt
      have lt4' : w2.heap.size < w4.heap.size := A4.out.lt
      clear n4 E3
      simp only [staV]
      simp only [alienS, noF, List.length_nil]
      obtain ⟨w5, hw5⟩ : ∃ w5, w5 = w4.alloc (.cells #[.int .i64 4, .int .i64 0, .int .i64 0, .int .u32 0, .bool false, .bool false, .bool false, .bool false, .bool false, .int .u8 0, .int .u8 0, .int .u32 0, .slice a4 0 k4] 31) := ⟨_, rfl⟩
      have n45 : Nb w4 w5 := by rw [hw5]; exact Nb.rfl.al _
      have B5 := Lib.hid (show Blk w5 w4.heap.size #[.int .i64 4, .int .i64 0, .int .i64 0, .int .u32 0, .bool false, .bool false, .bool false, .bool false, .bool false, .int .u8 0, .int .u8 0, .int .u32 0, .slice a4 0 k4] 31 by rw [hw5]; exact Blk.new _ _ _)
      have A5 := Lib.hid (A4.out.nb n45)
      have M5 := Lib.hid (M4.out.tr n45)
      have Q5 := Lib.hid (Q4.out.nb n45)
      have D5 := Lib.hid (D4.out.below n45)
      have G5 := Lib.hid (b4.below n45)
      have E5 := Lib.hid hw5
      clear hw5 n45 b4
      obtain ⟨x0, x1, x2, x3, x4, x5, x6, x7, x8, x9, x10, x11, x12⟩ := A5.out.c13
      obtain ⟨y0, y1, y2, y3, y4, y5, y6, y7, y8, y9, y10, y11, y12⟩ := B5.out.c13
      rw [E5.out] at x0 x1 x2 x3 x4 x5 x6 x7 x8 x9 x10 x11 x12 y0 y1 y2 y3 y4 y5 y6 y7 y8 y9 y10 y11 y12
      obtain ⟨c0, c1, c2, c3, c4, c5, c6, c7, c8, c9, c10⟩ := Q5.out.c11
      rw [E5.out] at c0 c1 c2 c3 c4 c5 c6 c7 c8 c9 c10
      go_wp2_with fail
      rw [← E5.out]
      have M6 := Lib.hid M5.out
      have Q6 := Lib.hid Q5.out
      obtain ⟨w6, hw6⟩ : ∃ w6, w6 = w5 := ⟨_, rfl⟩
      rw [← hw6] at M6 Q6
      rw [← hw6]
      clear hw6 E5 x0 x1 x2 x3 x4 x5 x6 x7 x8 x9 x10 x11 x12 y0 y1 y2 y3 y4 y5 y6 y7 y8 y9 y10 y11 y12 c0 c1 c2 c3 c4 c5 c6 c7 c8 c9 c10
      refine (F1.out _ M6.out).mono ?_
      rintro e w7 ⟨⟨a7, k7, rfl, f7⟩, n7⟩
      have M7 := Lib.hid (M6.out.tr n7)
      have Q7 := Lib.hid (Q6.out.nb n7)
      have lt7 : w.heap.size < w7.heap.size := Q7.out.lt
      have G7 := Lib.hid f7.1.asBs.1
      clear f7 n7
      obtain ⟨w8, hw8⟩ : ∃ w8, w8 = w7.alloc (.cells #[.slice a7 W.length k7, .int .i64 N, .int .i64 C] 43) := ⟨_, rfl⟩
      have n78 : Nb w7 w8 := by rw [hw8]; exact Nb.rfl.al _
      have Y8 := Lib.hid (show Blk w8 w7.heap.size #[.slice a7 W.length k7, .int .i64 N, .int .i64 C] 43 by rw [hw8]; exact Blk.new _ _ _)
      have M8 := Lib.hid (M7.out.tr n78)
      have Q8 := Lib.hid (Q7.out.nb n78)
      have G8 := Lib.hid (G7.out.below n78)
      have E8 := Lib.hid hw8
      clear hw8 n78
      go_wp2_with fail
      rw [← E8.out]
      refine (S3.out _ a7 k7 M8.out G8.out).mono ?_
      rintro e w9 ⟨⟨a9, k9, rfl, b9⟩, n9⟩
      have M9 := Lib.hid (M8.out.tr n9)
      have Q9 := Lib.hid (Q8.out.nb n9)
      have Y9 := Lib.hid (Y8.out.nb n9)
      have G9 := Lib.hid (G8.out.below n9)
      have lt9 : w.heap.size < w9.heap.size := Q9.out.lt
      have lt9' : w7.heap.size < w9.heap.size := Y9.out.lt
      clear n9 E8
      simp only [staV, alienS, noF, List.length_nil]
      obtain ⟨wa, hwa⟩ : ∃ wa, wa = w9.alloc (.cells #[.int .i64 4, .int .i64 0, .int .i64 0, .int .u32 0, .bool false, .bool false, .bool false, .bool false, .bool false, .int .u8 0, .int .u8 0, .int .u32 0, .slice a9 0 k9] 31) := ⟨_, rfl⟩
      have n9a : Nb w9 wa := by rw [hwa]; exact Nb.rfl.al _
      have Ca := Lib.hid (show Blk wa w9.heap.size #[.int .i64 4, .int .i64 0, .int .i64 0, .int .u32 0, .bool false, .bool false, .bool false, .bool false, .bool false, .int .u8 0, .int .u8 0, .int .u32 0, .slice a9 0 k9] 31 by rw [hwa]; exact Blk.new _ _ _)
      have Ma := Lib.hid (M9.out.tr n9a)
      have Ga := Lib.hid (G9.out.below n9a)
      have Ya := Lib.hid (Y9.out.nb n9a)
      have Ea := Lib.hid hwa
      obtain ⟨c0, _⟩ := Q9.out.c11
      obtain ⟨z0, z1, z2⟩ := Y9.out.c3
      have hcut := run_cutH a7 W.length k7 N2 (by have := G9.out.hcap; omega)
      have hcut2 := run_cutH a7 W.length k7 N (by have := G9.out.hcap; omega)
      have hq1 : N ≤ k7 := by have := G9.out.hcap; omega
      have hq2 : N2 ≤ k7 := by omega
      have hq3 : k7 ≤ 9223372036854775807 := by have := G9.out.hmax; unfold maxLen at this; omega
      clear hwa n9a b9
      go_wp2_with fail
      rw [← Ea.out]
      refine (S4.out _ a7 k7 Ma.out Ga.out).mono ?_
      rintro e wb ⟨⟨ab, kb, rfl, bb⟩, nb⟩
      have Mb := Lib.hid (Ma.out.tr nb)
      have Gb := Lib.hid (Ga.out.below nb)
      have Yb := Lib.hid (Ya.out.nb nb)
      have Cb := Lib.hid (Ca.out.nb nb)
      have ltb : w7.heap.size < wb.heap.size := Yb.out.lt
      have ltb' : w9.heap.size < wb.heap.size := Cb.out.lt
      clear nb bb Ea c0 z0 z1 z2
      simp only [staV, moreS, noF, List.length_nil]
      obtain ⟨wc, hwc⟩ : ∃ wc, wc = wb.alloc (.cells #[.int .i64 0, .int .i64 0, .int .i64 0, .int .u32 0, .bool false, .bool false, .bool false, .bool false, .bool false, .int .u8 0, .int .u8 0, .int .u32 0, .slice ab 0 kb] 31) := ⟨_, rfl⟩
      have nbc : Nb wb wc := by rw [hwc]; exact Nb.rfl.al _
      have Dc := Lib.hid (show Blk wc wb.heap.size #[.int .i64 0, .int .i64 0, .int .i64 0, .int .u32 0, .bool false, .bool false, .bool false, .bool false, .bool false, .int .u8 0, .int .u8 0, .int .u32 0, .slice ab 0 kb] 31 by rw [hwc]; exact Blk.new _ _ _)
      have Mc := Lib.hid (Mb.out.tr nbc)
      have Gc := Lib.hid (Gb.out.below nbc)
      have Cc := Lib.hid (Cb.out.nb nbc)
      have Ec := Lib.hid hwc
      obtain ⟨z0, z1, z2⟩ := Yb.out.c3
      clear hwc nbc
      go_wp2_with fail
      rw [← Ec.out]
      refine (S5.out _ a7 k7 Mc.out Gc.out).mono ?_
      rintro e wd ⟨⟨ad, kd, rfl, bd⟩, nd⟩
      have Md := Lib.hid (Mc.out.tr nd)
      have ltd : w9.heap.size < wd.heap.size := (Cc.out.nb nd).lt
      have ltd' : wb.heap.size < wd.heap.size := (Dc.out.nb nd).lt
      obtain ⟨u0, _⟩ := (Cc.out.nb nd).c13
      obtain ⟨v0, _⟩ := (Dc.out.nb nd).c13
      clear nd bd Ec z0 z1 z2
      simp only [staV]
      go_wp2
      go_ret
      exact ⟨rfl, Md.out.al _⟩
  · have hn3 : a1_0 ≠ 3 := hK3
    obtain ⟨_, r2⟩ := hfr false (e7 hn3)
    have hck0 : chkE (wF ⟨a1_0, a1_1, a1_2, a1_3, a1_4, a1_5, a1_6, a1_7, a1_8, a1_9⟩ l1_10) = 0 := by rw [chkE, if_pos hc]
    have S3 := Lib.hid (fun w' (a' : Option Addr) (c' : Nat) (n : Nb w w') (h : Bs w' a' c' (wF ⟨a1_0, a1_1, a1_2, a1_3, a1_4, a1_5, a1_6, a1_7, a1_8, a1_9⟩ l1_10)) => by
      have := scan9_any false a' c' _ w' h (HK.out.below n)
      rw [r2, hck0] at this
      exact this)
    have SM := Lib.hid (fun w' (a' : Option Addr) (c' : Nat) (n : Nb w w') (h : Bs w' a' c' l1_10) => by
      have := same5_any ⟨a1_0, a1_1, a1_2, a1_3, a1_4, a1_5, a1_6, a1_7, a1_8, a1_9⟩ ⟨a1_0, a1_1, a1_2, a1_3, a1_4, a1_5, a1_6, a1_7, a1_8, a1_9⟩ a' a1_10 c' cap1_10 l1_10 l1_10 w' h (HB.out.below n)
      rw [sameF_rfl] at this
      exact this)
    have d3 : (a1_0 != 3) = true := by simpa [bne_iff_ne] using hn3
    clear r2 hck0 hok her hfr e7 hc hbB hW hn3 hK3
    generalize wF _ l1_10 = W at *
    generalize arbF _ l1_10 = N at *
    generalize ackF _ l1_10 = C at *
    simp only [Hd.cs] at F1 SM
    rcases hr with hs | hs
    · have hs := hs.symm
      subst hs
      go_enter Tryz.func7, Tryz.ntmps7
      go_wp2_with fail
      refine (alive9_any _ (HK.out.below M0.out)).mono ?_
      rintro e w1 ⟨rfl, n1⟩
      have Q1 := Lib.hid (QF.out.nb n1)
      have M1 := Lib.hid (M0.out.tr n1)
      clear n1
      obtain ⟨c0, c1, c2, c3, c4, c5, c6, c7, c8, c9, c10⟩ := Q1.out.c11
      go_wp2_with fail
      refine (S1.out _ M1.out).mono ?_
      rintro e w2 ⟨⟨a2, k2, rfl, b2⟩, n2⟩
      have M2 := Lib.hid (M1.out.tr n2)
      have Q2 := Lib.hid (Q1.out.nb n2)
      have lt2 : w.heap.size < w2.heap.size := Q2.out.lt
      clear n2 c0 c1 c2 c3 c4 c5 c6 c7 c8 c9 c10
      simp only [staV]
      obtain ⟨w3, hw3⟩ : ∃ w3, w3 = w2.alloc (.cells #[.int .i64 sa.k, .int .i64 sa.e, .int .i64 sa.f.K, .int .u32 sa.f.I, .bool sa.f.X, .bool sa.f.R, .bool sa.f.B, .bool sa.f.E, .bool sa.f.S, .int .u8 sa.f.D, .int .u8 sa.f.V, .int .u32 sa.f.A, .slice a2 sa.l.length k2] 31) := ⟨_, rfl⟩
      have n23 : Nb w2 w3 := by rw [hw3]; exact Nb.rfl.al _
      have A3 := Lib.hid (show Blk w3 w2.heap.size #[.int .i64 sa.k, .int .i64 sa.e, .int .i64 sa.f.K, .int .u32 sa.f.I, .bool sa.f.X, .bool sa.f.R, .bool sa.f.B, .bool sa.f.E, .bool sa.f.S, .int .u8 sa.f.D, .int .u8 sa.f.V, .int .u32 sa.f.A, .slice a2 sa.l.length k2] 31 by rw [hw3]; exact Blk.new _ _ _)
      have M3 := Lib.hid (M2.out.tr n23)
      have Q3 := Lib.hid (Q2.out.nb n23)
      have D3 := Lib.hid (b2.below n23)
      have E3 := Lib.hid hw3
      clear hw3 n23 b2
      go_wp2_with fail
      rw [← E3.out]
      refine (S2.out _ M3.out).mono ?_
      rintro e w4 ⟨⟨a4, k4, rfl, b4⟩, n4⟩
      have M4 := Lib.hid (M3.out.tr n4)
      have Q4 := Lib.hid (Q3.out.nb n4)
      have A4 := Lib.hid (A3.out.nb n4)
      have D4 := Lib.hid (D3.out.below n4)
      have lt4 : w.heap.size < w4.heap.size := Q4.out.lt
      have lt4' : w2.heap.size < w4.heap.size := A4.out.lt
      clear n4 E3
      simp only [staV]
      obtain ⟨w5, hw5⟩ : ∃ w5, w5 = w4.alloc (.cells #[.int .i64 sa.k, .int .i64 sa.e, .int .i64 sa.f.K, .int .u32 sa.f.I, .bool sa.f.X, .bool sa.f.R, .bool sa.f.B, .bool sa.f.E, .bool sa.f.S, .int .u8 sa.f.D, .int .u8 sa.f.V, .int .u32 sa.f.A, .slice a4 sa.l.length k4] 31) := ⟨_, rfl⟩
      have n45 : Nb w4 w5 := by rw [hw5]; exact Nb.rfl.al _
      have B5 := Lib.hid (show Blk w5 w4.heap.size #[.int .i64 sa.k, .int .i64 sa.e, .int .i64 sa.f.K, .int .u32 sa.f.I, .bool sa.f.X, .bool sa.f.R, .bool sa.f.B, .bool sa.f.E, .bool sa.f.S, .int .u8 sa.f.D, .int .u8 sa.f.V, .int .u32 sa.f.A, .slice a4 sa.l.length k4] 31 by rw [hw5]; exact Blk.new _ _ _)
      have A5 := Lib.hid (A4.out.nb n45)
      have M5 := Lib.hid (M4.out.tr n45)
      have Q5 := Lib.hid (Q4.out.nb n45)
      have D5 := Lib.hid (D4.out.below n45)
      have G5 := Lib.hid (b4.below n45)
      have E5 := Lib.hid hw5
      clear hw5 n45 b4
      obtain ⟨x0, x1, x2, x3, x4, x5, x6, x7, x8, x9, x10, x11, x12⟩ := A5.out.c13
      obtain ⟨y0, y1, y2, y3, y4, y5, y6, y7, y8, y9, y10, y11, y12⟩ := B5.out.c13
      rw [E5.out] at x0 x1 x2 x3 x4 x5 x6 x7 x8 x9 x10 x11 x12 y0 y1 y2 y3 y4 y5 y6 y7 y8 y9 y10 y11 y12
      obtain ⟨c0, c1, c2, c3, c4, c5, c6, c7, c8, c9, c10⟩ := Q5.out.c11
      rw [E5.out] at c0 c1 c2 c3 c4 c5 c6 c7 c8 c9 c10
      have dB : ((sa.k : Int) != 4) = true := by rw [bne_iff_ne]; omega
      go_wp2_with fail
      rw [← E5.out]
      refine (same9_any sa sa a2 a4 k2 k4 _ D5.out G5.out).mono ?_
      rintro e w6 ⟨rfl, n6⟩
      rw [sameT_rfl]
      have M6 := Lib.hid (M5.out.tr n6)
      have Q6 := Lib.hid (Q5.out.nb n6)
      have A6 := Lib.hid (A5.out.nb n6)
      clear n6 E5 x0 x1 x2 x3 x4 x5 x6 x7 x8 x9 x10 x11 x12 y0 y1 y2 y3 y4 y5 y6 y7 y8 y9 y10 y11 y12 c0 c1 c2 c3 c4 c5 c6 c7 c8 c9 c10
      obtain ⟨x0, x1, x2, x3, x4, x5, x6, x7, x8, x9, x10, x11, x12⟩ := A6.out.c13
      obtain ⟨c0, c1, c2, c3, c4, c5, c6, c7, c8, c9, c10⟩ := Q6.out.c11
      go_wp2_with fail
      refine (F1.out _ M6.out).mono ?_
      rintro e w7 ⟨⟨a7, k7, rfl, f7⟩, n7⟩
      have M7 := Lib.hid (M6.out.tr n7)
      have Q7 := Lib.hid (Q6.out.nb n7)
      have lt7 : w.heap.size < w7.heap.size := Q7.out.lt
      have G7 := Lib.hid f7.1.asBs.1
      clear f7 n7
      obtain ⟨w8, hw8⟩ : ∃ w8, w8 = w7.alloc (.cells #[.slice a7 W.length k7, .int .i64 N, .int .i64 C] 43) := ⟨_, rfl⟩
      have n78 : Nb w7 w8 := by rw [hw8]; exact Nb.rfl.al _
      have Y8 := Lib.hid (show Blk w8 w7.heap.size #[.slice a7 W.length k7, .int .i64 N, .int .i64 C] 43 by rw [hw8]; exact Blk.new _ _ _)
      have M8 := Lib.hid (M7.out.tr n78)
      have Q8 := Lib.hid (Q7.out.nb n78)
      have G8 := Lib.hid (G7.out.below n78)
      have E8 := Lib.hid hw8
      clear hw8 n78
      go_wp2_with fail
      rw [← E8.out]
      refine (S3.out _ a7 k7 M8.out G8.out).mono ?_
      rintro e w9 ⟨⟨a9, k9, rfl, b9⟩, n9⟩
      have M9 := Lib.hid (M8.out.tr n9)
      have Q9 := Lib.hid (Q8.out.nb n9)
      have Y9 := Lib.hid (Y8.out.nb n9)
      have G9 := Lib.hid (G8.out.below n9)
      have lt9 : w.heap.size < w9.heap.size := Q9.out.lt
      have lt9' : w7.heap.size < w9.heap.size := Y9.out.lt
      clear n9 E8
      simp only [staV, doneS]
      obtain ⟨c0, c1, c2, c3, c4, c5, c6, c7, c8, c9, c10⟩ := Q9.out.c11
      have Mb := Lib.hid (M9.out.al (.cells #[.int .i64 2, .int .i64 0, .int .i64 a1_0, .int .u32 a1_1, .bool a1_2, .bool a1_3, .bool a1_4, .bool a1_5, .bool a1_6, .int .u8 a1_7, .int .u8 a1_8, .int .u32 a1_9, .slice a9 l1_10.length k9] 31))
      have Gb := Lib.hid (show Bs (w9.alloc _) a9 k9 l1_10 from b9.below (Nb.rfl.al (.cells #[.int .i64 2, .int .i64 0, .int .i64 a1_0, .int .u32 a1_1, .bool a1_2, .bool a1_3, .bool a1_4, .bool a1_5, .bool a1_6, .int .u8 a1_7, .int .u8 a1_8, .int .u32 a1_9, .slice a9 l1_10.length k9] 31)))
      clear b9
      go_wp2_with fail
      refine (SM.out _ a9 k9 Mb.out Gb.out).mono ?_
      rintro e wb ⟨rfl, nb⟩
      have Mc := Lib.hid (Mb.out.tr nb)
      clear nb
      go_wp2
      go_ret
      exact ⟨rfl, Mc.out⟩
    · subst hs
      go_enter Tryz.func7, Tryz.ntmps7
      go_wp2_with fail
      refine (alive9_any _ (HK.out.below M0.out)).mono ?_
      rintro e w1 ⟨rfl, n1⟩
      have Q1 := Lib.hid (QF.out.nb n1)
      have M1 := Lib.hid (M0.out.tr n1)
      clear n1
      obtain ⟨c0, c1, c2, c3, c4, c5, c6, c7, c8, c9, c10⟩ := Q1.out.c11
      go_wp2_with fail
      refine (S1.out _ M1.out).mono ?_
      rintro e w2 ⟨⟨a2, k2, rfl, b2⟩, n2⟩
      have M2 := Lib.hid (M1.out.tr n2)
      have Q2 := Lib.hid (Q1.out.nb n2)
      have lt2 : w.heap.size < w2.heap.size := Q2.out.lt
      clear n2 c0 c1 c2 c3 c4 c5 c6 c7 c8 c9 c10
      simp only [staV]
      obtain ⟨w3, hw3⟩ : ∃ w3, w3 = w2.alloc (.cells #[.int .i64 sa.k, .int .i64 sa.e, .int .i64 sa.f.K, .int .u32 sa.f.I, .bool sa.f.X, .bool sa.f.R, .bool sa.f.B, .bool sa.f.E, .bool sa.f.S, .int .u8 sa.f.D, .int .u8 sa.f.V, .int .u32 sa.f.A, .slice a2 sa.l.length k2] 31) := ⟨_, rfl⟩
      have n23 : Nb w2 w3 := by rw [hw3]; exact Nb.rfl.al _
      have A3 := Lib.hid (show Blk w3 w2.heap.size #[.int .i64 sa.k, .int .i64 sa.e, .int .i64 sa.f.K, .int .u32 sa.f.I, .bool sa.f.X, .bool sa.f.R, .bool sa.f.B, .bool sa.f.E, .bool sa.f.S, .int .u8 sa.f.D, .int .u8 sa.f.V, .int .u32 sa.f.A, .slice a2 sa.l.length k2] 31 by rw [hw3]; exact Blk.new _ _ _)
      have M3 := Lib.hid (M2.out.tr n23)
      have Q3 := Lib.hid (Q2.out.nb n23)
      have D3 := Lib.hid (b2.below n23)
      have E3 := Lib.hid hw3
      clear hw3 n23 b2
      go_wp2_with fail
      rw [← E3.out]
      refine (S2.out _ M3.out).mono ?_
      rintro e w4 ⟨⟨a4, k4, rfl, b4⟩, n4⟩
      have M4 := Lib.hid (M3.out.tr n4)
      have Q4 := Lib.hid (Q3.out.nb n4)
      have A4 := Lib.hid (A3.out.nb n4)
      have D4 := Lib.hid (D3.out.below n4)
      have lt4 : w.heap.size < w4.heap.size := Q4.out.lt
      have lt4' : w2.heap.size < w4.heap.size := A4.out.lt
      clear n4 E3
      simp only [staV]
      simp only [alienS, noF, List.length_nil]
      obtain ⟨w5, hw5⟩ : ∃ w5, w5 = w4.alloc (.cells #[.int .i64 4, .int .i64 0, .int .i64 0, .int .u32 0, .bool false, .bool false, .bool false, .bool false, .bool false, .int .u8 0, .int .u8 0, .int .u32 0, .slice a4 0 k4] 31) := ⟨_, rfl⟩
      have n45 : Nb w4 w5 := by rw [hw5]; exact Nb.rfl.al _
      have B5 := Lib.hid (show Blk w5 w4.heap.size #[.int .i64 4, .int .i64 0, .int .i64 0, .int .u32 0, .bool false, .bool false, .bool false, .bool false, .bool false, .int .u8 0, .int .u8 0, .int .u32 0, .slice a4 0 k4] 31 by rw [hw5]; exact Blk.new _ _ _)
      have A5 := Lib.hid (A4.out.nb n45)
      have M5 := Lib.hid (M4.out.tr n45)
      have Q5 := Lib.hid (Q4.out.nb n45)
      have D5 := Lib.hid (D4.out.below n45)
      have G5 := Lib.hid (b4.below n45)
      have E5 := Lib.hid hw5
      clear hw5 n45 b4
      obtain ⟨x0, x1, x2, x3, x4, x5, x6, x7, x8, x9, x10, x11, x12⟩ := A5.out.c13
      obtain ⟨y0, y1, y2, y3, y4, y5, y6, y7, y8, y9, y10, y11, y12⟩ := B5.out.c13
      rw [E5.out] at x0 x1 x2 x3 x4 x5 x6 x7 x8 x9 x10 x11 x12 y0 y1 y2 y3 y4 y5 y6 y7 y8 y9 y10 y11 y12
      obtain ⟨c0, c1, c2, c3, c4, c5, c6, c7, c8, c9, c10⟩ := Q5.out.c11
      rw [E5.out] at c0 c1 c2 c3 c4 c5 c6 c7 c8 c9 c10
      go_wp2_with fail
      rw [← E5.out]
      have M6 := Lib.hid M5.out
      have Q6 := Lib.hid Q5.out
      obtain ⟨w6, hw6⟩ : ∃ w6, w6 = w5 := ⟨_, rfl⟩
      rw [← hw6] at M6 Q6
      rw [← hw6]
      clear hw6 E5 x0 x1 x2 x3 x4 x5 x6 x7 x8 x9 x10 x11 x12 y0 y1 y2 y3 y4 y5 y6 y7 y8 y9 y10 y11 y12 c0 c1 c2 c3 c4 c5 c6 c7 c8 c9 c10
      refine (F1.out _ M6.out).mono ?_
      rintro e w7 ⟨⟨a7, k7, rfl, f7⟩, n7⟩
      have M7 := Lib.hid (M6.out.tr n7)
      have Q7 := Lib.hid (Q6.out.nb n7)
      have lt7 : w.heap.size < w7.heap.size := Q7.out.lt
      have G7 := Lib.hid f7.1.asBs.1
      clear f7 n7
      obtain ⟨w8, hw8⟩ : ∃ w8, w8 = w7.alloc (.cells #[.slice a7 W.length k7, .int .i64 N, .int .i64 C] 43) := ⟨_, rfl⟩
      have n78 : Nb w7 w8 := by rw [hw8]; exact Nb.rfl.al _
      have Y8 := Lib.hid (show Blk w8 w7.heap.size #[.slice a7 W.length k7, .int .i64 N, .int .i64 C] 43 by rw [hw8]; exact Blk.new _ _ _)
      have M8 := Lib.hid (M7.out.tr n78)
      have Q8 := Lib.hid (Q7.out.nb n78)
      have G8 := Lib.hid (G7.out.below n78)
      have E8 := Lib.hid hw8
      clear hw8 n78
      go_wp2_with fail
      rw [← E8.out]
      refine (S3.out _ a7 k7 M8.out G8.out).mono ?_
      rintro e w9 ⟨⟨a9, k9, rfl, b9⟩, n9⟩
      have M9 := Lib.hid (M8.out.tr n9)
      have Q9 := Lib.hid (Q8.out.nb n9)
      have Y9 := Lib.hid (Y8.out.nb n9)
      have G9 := Lib.hid (G8.out.below n9)
      have lt9 : w.heap.size < w9.heap.size := Q9.out.lt
      have lt9' : w7.heap.size < w9.heap.size := Y9.out.lt
      clear n9 E8
      simp only [staV, doneS]
      obtain ⟨c0, c1, c2, c3, c4, c5, c6, c7, c8, c9, c10⟩ := Q9.out.c11
      have Mb := Lib.hid (M9.out.al (.cells #[.int .i64 2, .int .i64 0, .int .i64 a1_0, .int .u32 a1_1, .bool a1_2, .bool a1_3, .bool a1_4, .bool a1_5, .bool a1_6, .int .u8 a1_7, .int .u8 a1_8, .int .u32 a1_9, .slice a9 l1_10.length k9] 31))
      have Gb := Lib.hid (show Bs (w9.alloc _) a9 k9 l1_10 from b9.below (Nb.rfl.al (.cells #[.int .i64 2, .int .i64 0, .int .i64 a1_0, .int .u32 a1_1, .bool a1_2, .bool a1_3, .bool a1_4, .bool a1_5, .bool a1_6, .int .u8 a1_7, .int .u8 a1_8, .int .u32 a1_9, .slice a9 l1_10.length k9] 31)))
      clear b9
      go_wp2_with fail
      refine (SM.out _ a9 k9 Mb.out Gb.out).mono ?_
      rintro e wb ⟨rfl, nb⟩
      have Mc := Lib.hid (Mb.out.tr nb)
      clear nb
      go_wp2
      go_ret
      exact ⟨rfl, Mc.out⟩

theorem door_met (os : Os) (args : Array Value) : laidMetH Tryz.prog Rows.scanAliensRow.laid ((World.doorLaid Tryz.prog 24 os).forCall (fun _ _ => 0) ⟨#[], args, []⟩).memory :=
  laidMetH_of_parts3 (fuel := 8) (laidMet_of_run' 8 (by kernel_rfl) (by kernel_rfl)) (by kernel_rfl) (by kernel_rfl)
set_option maxHeartbeats 2000000 in
set_option maxRecDepth 100000 in
theorem lifted (os : Os) (started : os.Started) (H : Type) (enc : TypeId × Value → H) :
    ReturnsInHanded {} Tryz.checked os 7 .any (fun w args => (Rows.scanAliensSpec.pre enc Tryz.prog Tryz.f7 [] false w args ∧ laidMetH Tryz.prog Rows.scanAliensRow.laid w) ∧ sizedMet enc Tryz.prog Tryz.f7 (OpenSpec.ofChange Rows.scanAliensSpec) false w args)
      (Rows.scanAliensSpec.post enc Tryz.prog Tryz.f7 false true false false) := by
  refine returnsInHanded_of_change_and (C := Tryz.checked) (X := fun w _ => laidMetH Tryz.prog Rows.scanAliensRow.laid w) (fun _ _ _ hh h => h.of_heap hh) own started (by kernel_rfl) Tryz.func7
    (ChangeSpec.witness_shaped (enc := enc) (C := Tryz.checked) (os := os) (X := fun w _ => laidMetH Tryz.prog Rows.scanAliensRow.laid w) false (World.doorLaid Tryz.prog 24 os) #[.slice none 0 0, .agg #[.int .i64 0, .int .u32 0, .bool false, .bool false, .bool false, .bool false, .bool false, .int .u8 0, .int .u8 0, .int .u32 0, .slice none 0 0]] 8 rfl (World.shaped_of_RefB (by kernel_rfl) (by kernel_rfl)) (by kernel_rfl) (by kernel_rfl) (by kernel_rfl) (door_met os _)) ?_
  intro W base args ds gs before hval0 hW _ hR hL _
  have hval : ∀ (j : Nat) t v, Tryz.f7.params[j]? = some t → args[j]? = some v → Value.okWide Tryz.prog W .any base t v := hval0
  have hW' := hW
  obtain ⟨p, q, hA0, hV, rfl, hfz, hnd⟩ := hW
  have hA : DataW.TrodAll enc Tryz.prog W 0 (fun _ => true) true Tryz.f7.params.toList args.toList ds p := hA0
  rw [Tryz.params7] at hA hval
  obtain ⟨v0, vs0, d0, ds0, p0, q0, hargs, rfl, rfl, h0, r0⟩ := trodAll_cons hA
  obtain ⟨v1, vs1, d1, ds1, p1, q1, rfl, rfl, rfl, h1, r1⟩ := trodAll_cons r0
  obtain ⟨rfl, rfl, rfl⟩ := trodAll_nil r1
  obtain rfl : args = #[v0, v1] := by cases args; simp_all
  obtain ⟨rfl, rfl⟩ := trodVars_none hV
  have k0 := h0
  have lt0 : ∀ x ∈ p0, x.block < W.heap.size := by obtain ⟨m, hm⟩ := k0; exact DataW.trod_lt m _ _ _ hm
  have k1 := h1
  have lt1 : ∀ x ∈ p1, x.block < W.heap.size := by obtain ⟨m, hm⟩ := k1; exact DataW.trod_lt m _ _ _ hm
  clear hA0
  obtain ⟨a0, lc0, cap0, rfl⟩ := okWide_slice Tryz.underlying22 (hval 0 22 v0 rfl rfl)
  obtain ⟨fu0, hf0⟩ := h0
  have hc0 : DataW.trod enc Tryz.prog W 0 (fun _ => true) true fu0 22 [.slice a0 lc0 cap0] = some (d0, p0) := hf0
  obtain ⟨b0, cb0, l0, e0, hb0, n0⟩ := bytes_open hc0
  simp only [Value.slice.injEq] at e0
  obtain ⟨rfl, rfl, rfl⟩ := e0
  obtain ⟨cs1, rfl, hz1⟩ := okWide_struct Tryz.underlying29 (hval 1 29 v1 rfl rfl)
  obtain ⟨c1_0, c1_1, c1_2, c1_3, c1_4, c1_5, c1_6, c1_7, c1_8, c1_9, c1_10, rfl⟩ := arr11 (hz1.trans (by kernel_rfl))
  obtain ⟨fu1, hf1⟩ := h1
  have hc1 : DataW.trod enc Tryz.prog W 0 (fun _ => true) true fu1 29 [c1_0, c1_1, c1_2, c1_3, c1_4, c1_5, c1_6, c1_7, c1_8, c1_9, c1_10] = some (d1, p1) := hf1
  obtain ⟨m1_0, y1_0, g1_0⟩ := open_fld Tryz.underlying29 hc1 0 _ rfl
  have t1_0 : DataW.trod enc Tryz.prog W 0 (fun _ => true) true m1_0 3 (([c1_0, c1_1, c1_2, c1_3, c1_4, c1_5, c1_6, c1_7, c1_8, c1_9, c1_10].drop 0).take (Tryz.prog.cellsOf 3)) = some y1_0 := g1_0
  rw [show Tryz.prog.cellsOf 3 = 1 from by kernel_rfl] at t1_0
  have u1_0 : DataW.trod enc Tryz.prog W 0 (fun _ => true) true m1_0 3 [c1_0] = some y1_0 := t1_0
  obtain ⟨m1_1, y1_1, g1_1⟩ := open_fld Tryz.underlying29 hc1 1 _ rfl
  have t1_1 : DataW.trod enc Tryz.prog W 0 (fun _ => true) true m1_1 27 (([c1_0, c1_1, c1_2, c1_3, c1_4, c1_5, c1_6, c1_7, c1_8, c1_9, c1_10].drop 1).take (Tryz.prog.cellsOf 27)) = some y1_1 := g1_1
  rw [show Tryz.prog.cellsOf 27 = 1 from by kernel_rfl] at t1_1
  have u1_1 : DataW.trod enc Tryz.prog W 0 (fun _ => true) true m1_1 27 [c1_1] = some y1_1 := t1_1
  obtain ⟨m1_2, y1_2, g1_2⟩ := open_fld Tryz.underlying29 hc1 2 _ rfl
  have t1_2 : DataW.trod enc Tryz.prog W 0 (fun _ => true) true m1_2 4 (([c1_0, c1_1, c1_2, c1_3, c1_4, c1_5, c1_6, c1_7, c1_8, c1_9, c1_10].drop 2).take (Tryz.prog.cellsOf 4)) = some y1_2 := g1_2
  rw [show Tryz.prog.cellsOf 4 = 1 from by kernel_rfl] at t1_2
  have u1_2 : DataW.trod enc Tryz.prog W 0 (fun _ => true) true m1_2 4 [c1_2] = some y1_2 := t1_2
  obtain ⟨m1_3, y1_3, g1_3⟩ := open_fld Tryz.underlying29 hc1 3 _ rfl
  have t1_3 : DataW.trod enc Tryz.prog W 0 (fun _ => true) true m1_3 4 (([c1_0, c1_1, c1_2, c1_3, c1_4, c1_5, c1_6, c1_7, c1_8, c1_9, c1_10].drop 3).take (Tryz.prog.cellsOf 4)) = some y1_3 := g1_3
  rw [show Tryz.prog.cellsOf 4 = 1 from by kernel_rfl] at t1_3
  have u1_3 : DataW.trod enc Tryz.prog W 0 (fun _ => true) true m1_3 4 [c1_3] = some y1_3 := t1_3
  obtain ⟨m1_4, y1_4, g1_4⟩ := open_fld Tryz.underlying29 hc1 4 _ rfl
  have t1_4 : DataW.trod enc Tryz.prog W 0 (fun _ => true) true m1_4 4 (([c1_0, c1_1, c1_2, c1_3, c1_4, c1_5, c1_6, c1_7, c1_8, c1_9, c1_10].drop 4).take (Tryz.prog.cellsOf 4)) = some y1_4 := g1_4
  rw [show Tryz.prog.cellsOf 4 = 1 from by kernel_rfl] at t1_4
  have u1_4 : DataW.trod enc Tryz.prog W 0 (fun _ => true) true m1_4 4 [c1_4] = some y1_4 := t1_4
  obtain ⟨m1_5, y1_5, g1_5⟩ := open_fld Tryz.underlying29 hc1 5 _ rfl
  have t1_5 : DataW.trod enc Tryz.prog W 0 (fun _ => true) true m1_5 4 (([c1_0, c1_1, c1_2, c1_3, c1_4, c1_5, c1_6, c1_7, c1_8, c1_9, c1_10].drop 5).take (Tryz.prog.cellsOf 4)) = some y1_5 := g1_5
  rw [show Tryz.prog.cellsOf 4 = 1 from by kernel_rfl] at t1_5
  have u1_5 : DataW.trod enc Tryz.prog W 0 (fun _ => true) true m1_5 4 [c1_5] = some y1_5 := t1_5
  obtain ⟨m1_6, y1_6, g1_6⟩ := open_fld Tryz.underlying29 hc1 6 _ rfl
  have t1_6 : DataW.trod enc Tryz.prog W 0 (fun _ => true) true m1_6 4 (([c1_0, c1_1, c1_2, c1_3, c1_4, c1_5, c1_6, c1_7, c1_8, c1_9, c1_10].drop 6).take (Tryz.prog.cellsOf 4)) = some y1_6 := g1_6
  rw [show Tryz.prog.cellsOf 4 = 1 from by kernel_rfl] at t1_6
  have u1_6 : DataW.trod enc Tryz.prog W 0 (fun _ => true) true m1_6 4 [c1_6] = some y1_6 := t1_6
  obtain ⟨m1_7, y1_7, g1_7⟩ := open_fld Tryz.underlying29 hc1 7 _ rfl
  have t1_7 : DataW.trod enc Tryz.prog W 0 (fun _ => true) true m1_7 5 (([c1_0, c1_1, c1_2, c1_3, c1_4, c1_5, c1_6, c1_7, c1_8, c1_9, c1_10].drop 7).take (Tryz.prog.cellsOf 5)) = some y1_7 := g1_7
  rw [show Tryz.prog.cellsOf 5 = 1 from by kernel_rfl] at t1_7
  have u1_7 : DataW.trod enc Tryz.prog W 0 (fun _ => true) true m1_7 5 [c1_7] = some y1_7 := t1_7
  obtain ⟨m1_8, y1_8, g1_8⟩ := open_fld Tryz.underlying29 hc1 8 _ rfl
  have t1_8 : DataW.trod enc Tryz.prog W 0 (fun _ => true) true m1_8 5 (([c1_0, c1_1, c1_2, c1_3, c1_4, c1_5, c1_6, c1_7, c1_8, c1_9, c1_10].drop 8).take (Tryz.prog.cellsOf 5)) = some y1_8 := g1_8
  rw [show Tryz.prog.cellsOf 5 = 1 from by kernel_rfl] at t1_8
  have u1_8 : DataW.trod enc Tryz.prog W 0 (fun _ => true) true m1_8 5 [c1_8] = some y1_8 := t1_8
  obtain ⟨m1_9, y1_9, g1_9⟩ := open_fld Tryz.underlying29 hc1 9 _ rfl
  have t1_9 : DataW.trod enc Tryz.prog W 0 (fun _ => true) true m1_9 27 (([c1_0, c1_1, c1_2, c1_3, c1_4, c1_5, c1_6, c1_7, c1_8, c1_9, c1_10].drop 9).take (Tryz.prog.cellsOf 27)) = some y1_9 := g1_9
  rw [show Tryz.prog.cellsOf 27 = 1 from by kernel_rfl] at t1_9
  have u1_9 : DataW.trod enc Tryz.prog W 0 (fun _ => true) true m1_9 27 [c1_9] = some y1_9 := t1_9
  obtain ⟨m1_10, y1_10, g1_10⟩ := open_fld Tryz.underlying29 hc1 10 _ rfl
  have t1_10 : DataW.trod enc Tryz.prog W 0 (fun _ => true) true m1_10 22 (([c1_0, c1_1, c1_2, c1_3, c1_4, c1_5, c1_6, c1_7, c1_8, c1_9, c1_10].drop 10).take (Tryz.prog.cellsOf 22)) = some y1_10 := g1_10
  rw [show Tryz.prog.cellsOf 22 = 1 from by kernel_rfl] at t1_10
  have u1_10 : DataW.trod enc Tryz.prog W 0 (fun _ => true) true m1_10 22 [c1_10] = some y1_10 := t1_10
  obtain ⟨a1_0, e1_0, x1_0, w1_0⟩ := DataW.trod_int Tryz.underlying3 u1_0
  obtain rfl : c1_0 = .int .i64 a1_0 := by simpa using e1_0
  obtain ⟨a1_1, e1_1, x1_1, w1_1⟩ := DataW.trod_int Tryz.underlying27 u1_1
  obtain rfl : c1_1 = .int .u32 a1_1 := by simpa using e1_1
  obtain ⟨a1_2, e1_2, x1_2⟩ := DataW.trod_bool Tryz.underlying4 u1_2
  obtain rfl : c1_2 = .bool a1_2 := by simpa using e1_2
  obtain ⟨a1_3, e1_3, x1_3⟩ := DataW.trod_bool Tryz.underlying4 u1_3
  obtain rfl : c1_3 = .bool a1_3 := by simpa using e1_3
  obtain ⟨a1_4, e1_4, x1_4⟩ := DataW.trod_bool Tryz.underlying4 u1_4
  obtain rfl : c1_4 = .bool a1_4 := by simpa using e1_4
  obtain ⟨a1_5, e1_5, x1_5⟩ := DataW.trod_bool Tryz.underlying4 u1_5
  obtain rfl : c1_5 = .bool a1_5 := by simpa using e1_5
  obtain ⟨a1_6, e1_6, x1_6⟩ := DataW.trod_bool Tryz.underlying4 u1_6
  obtain rfl : c1_6 = .bool a1_6 := by simpa using e1_6
  obtain ⟨a1_7, e1_7, x1_7, w1_7⟩ := DataW.trod_int Tryz.underlying5 u1_7
  obtain rfl : c1_7 = .int .u8 a1_7 := by simpa using e1_7
  obtain ⟨a1_8, e1_8, x1_8, w1_8⟩ := DataW.trod_int Tryz.underlying5 u1_8
  obtain rfl : c1_8 = .int .u8 a1_8 := by simpa using e1_8
  obtain ⟨a1_9, e1_9, x1_9, w1_9⟩ := DataW.trod_int Tryz.underlying27 u1_9
  obtain rfl : c1_9 = .int .u32 a1_9 := by simpa using e1_9
  obtain ⟨a1_10, cap1_10, l1_10, e1_10, hb1_10, n1_10⟩ := bytes_open u1_10
  subst e1_10
  refine (walk W (both_of hL) a0 cap0 l0 hb0 n0 a1_0 w1_0 a1_1 w1_1 a1_2 a1_3 a1_4 a1_5 a1_6 a1_7 w1_7 a1_8 w1_8 a1_9 w1_9 a1_10 cap1_10 l1_10 hb1_10 n1_10).mono fun e W' ⟨he, bel⟩ => ?_
  subst he
  exact ⟨_, rfl, _, _, _, [], _, [], hW', trodAll_mk1 (shut_bool Tryz.underlying4 _), (trodAll_cons_mk (Below.trod laidOut (by kernel_rfl) (of_decide_eq_true (by kernel_rfl)) k0 bel lt0) (trodAll_cons_mk (Below.trod laidOut (by kernel_rfl) (of_decide_eq_true (by kernel_rfl)) k1 bel lt1) trodAll_mk0)), rfl, bel.frame _, fun h => by cases h⟩

theorem over : Rows.scanAliensRow.holds Tryz.pinned (OpenSpec.ofChange Rows.scanAliensSpec) :=
  OpenClaim.holds_of_wide 7 Tryz.f7 rfl rfl rfl rfl rfl rfl rfl ⟨rfl, rfl, rfl, rfl, rfl⟩ rfl rfl rfl rfl rfl (by kernel_rfl) Tryz.func7 (by kernel_rfl)
    (of_decide_eq_true (by kernel_rfl)) (by unfold Func.isWrapper; first | (rw [if_pos (by decide +kernel)]; kernel_rfl) | (rw [if_neg (by decide +kernel)]; exact ⟨rfl, rfl⟩))
    (fun os started H enc _ => lifted os started H enc)

theorem plain (f : FuncId) (fn : Func) (hf : Tryz.pinned.checked.prog.funcNamed "omnibus/omnibuslaw09.ScanAliens" = some f) (hfn : Tryz.pinned.checked.prog.funcs[f]? = some fn) :
    false = Tryz.pinned.checked.prog.looks [] ∧ ∀ (j : Nat) t, fn.params[j]? = some t → Tryz.pinned.checked.prog.wantsStandIn t = false := by
  obtain rfl : f = 7 := Option.some.inj ((show Tryz.prog.funcNamed "omnibus/omnibuslaw09.ScanAliens" = some 7 by kernel_rfl).symm.trans hf) |>.symm
  obtain rfl : fn = Tryz.f7 := (Option.some.inj (Tryz.func7.symm.trans hfn)).symm
  refine ⟨by kernel_rfl, fun j t ht => ?_⟩
  rw [Tryz.params7] at ht
  have hm : t ∈ [22, 29] := by have := Array.mem_of_getElem? ht; simp at this ⊢; omega
  have hall : ([22, 29].all fun u => !Tryz.prog.wantsStandIn u) = true := by kernel_rfl
  exact (show Tryz.prog.wantsStandIn t = false by simpa using List.all_eq_true.1 hall t hm)
theorem proved : Rows.ScanAliensCardSaid :=
  Claim7.holds_tied_plain_at .later [] _ _ _ _ over (fun _ h => by cases h) (by kernel_rfl) (fun _ h => by cases h) scanAliens_row_tie rfl ⟨rfl, rfl⟩ (by kernel_rfl) rfl plain (by kernel_rfl)
#print axioms proved
end Go.Proofs.YtkboncpfddnoaaaGreatDoor.scanAliens
