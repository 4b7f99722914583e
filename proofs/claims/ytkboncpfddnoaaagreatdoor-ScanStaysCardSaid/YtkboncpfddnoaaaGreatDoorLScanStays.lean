/- For every two rows and either knowledge the law ScanStays answers true and leaves its arguments as they were; the package's tables of kinds of sums and of longer sizes are tied to the program's text. No conditions. -/
import Derived.Test.YtkboncpfddnoaaaGreatDoorRows
import Derived.Test.YtkboncpfddnoaaaGreatDoorCards
import Derived.Test.YtkboncpfddnoaaaGreatDoorTie
import Derived.Test.YtkboncpfddnoaaaGreatDoorScA
import Derived.Test.YtkboncpfddnoaaaGreatDoorGa
import Derived.WalkKit
import Derived.ProofKit
import Derived.OpenShut
import Derived.ShutString
import Derived.ChangeOld
import Derived.Below
import Derived.Carry
import Derived.Lib.SmallJoins
import Derived.Deep.RegionWith
import Derived.Deep.RegionHeld3
import Derived.LaidMore
import Derived.LaidLaws
import Derived.Stop.Joined
import Derived.SevenTiedAt
namespace Go.Proofs.YtkboncpfddnoaaaGreatDoor.scanStays
open Go.ChangeShapes Go.WideShapes Go.ChangeAt Go.RowKit Go.Joins
set_option linter.unusedVariables false
set_option linter.unusedSimpArgs false
theorem own : ownKnob Tryz.prog.godebug = none := by kernel_rfl
theorem laidOut : laidOutB Tryz.prog = true := by kernel_rfl
set_option maxHeartbeats 8000000 in
set_option maxRecDepth 100000 in
theorem walk (w : World) (hK : Both w) (a0 : Option Addr) (cap0 : Nat) (l0 : List Nat) (h0 : Bs w a0 cap0 l0) (n0 : a0 = none → cap0 = 0) (a1 : Option Addr) (cap1 : Nat) (l1 : List Nat) (h1 : Bs w a1 cap1 l1) (n1 : a1 = none → cap1 = 0) (a2 : Bool) :
    Calls Tryz.prog 6 #[.slice a0 l0.length cap0, .slice a1 l1.length cap1, .bool a2] w fun e w' => e = .returned (.bool true) ∧ Nb w w' := by
  have hL0 := h0.len
  have hL1 := h1.len
  have HK := Lib.hid hK
  have HA := Lib.hid h0
  have HB := Lib.hid h1
  have HN0 := Lib.hid n0
  have HN1 := Lib.hid n1
  have F2 := Lib.hid (fun w' (n : Nb w w') => check_u a1 cap1 l1 w' (HB.out.below n))
  have S1 := Lib.hid (fun w' (n : Nb w w') => scan9_any a2 a0 cap0 l0 w' (HA.out.below n) (HK.out.below n))
  clear hK h0 h1 n0 n1
  by_cases h400 : 400 < l0.length
  · have d0 : decide (400 < (l0.length : Int)) = true := decide_eq_true (by omega)
    clear S1 F2 h400
    go_enter Tryz.func6, Tryz.ntmps6
    go_wp2_with fail
    refine (alive9_any _ HK.out).mono ?_
    rintro e w1 ⟨rfl, n1⟩
    have M1 := Lib.hid n1
    clear n1
    go_wp2
    go_ret
    exact ⟨rfl, M1.out⟩
  have d0 : decide (400 < (l0.length : Int)) = false := decide_eq_false (by omega)
  have hl0 : l0.length ≤ 400 := by omega
  clear h400
  by_cases h100 : 100 < l1.length
  · have d1 : decide (100 < (l1.length : Int)) = true := decide_eq_true (by omega)
    clear S1 F2 h100
    go_enter Tryz.func6, Tryz.ntmps6
    go_wp2_with fail
    refine (alive9_any _ HK.out).mono ?_
    rintro e w1 ⟨rfl, n1⟩
    have M1 := Lib.hid n1
    clear n1
    go_wp2
    go_ret
    exact ⟨rfl, M1.out⟩
  have d1 : decide (100 < (l1.length : Int)) = false := decide_eq_false (by omega)
  have hl1 : l1.length ≤ 100 := by omega
  clear h100
  cases hc1 : chk l1 with
  | false =>
    rw [show chkE l1 = 2 by simp [chkE, hc1]] at F2
    clear S1 hc1
    go_enter Tryz.func6, Tryz.ntmps6
    go_wp2_with fail
    refine (alive9_any _ HK.out).mono ?_
    rintro e w1 ⟨rfl, n1⟩
    have M1 := Lib.hid n1
    clear n1
    go_wp2_with fail
    refine (F2.out _ M1.out).mono ?_
    rintro e w2 ⟨rfl, rfl⟩
    go_wp2
    go_ret
    exact ⟨rfl, M1.out⟩
  | true =>
    rw [show chkE l1 = 0 by simp [chkE, hc1]] at F2
    cases hc0 : chk l0 with
    | false =>
      rw [show chkE l0 = 2 by simp [chkE, hc0], show rowS a2 l0 = moreS by simp [rowS, hc0]] at S1
      clear hc0 hc1
      go_enter Tryz.func6, Tryz.ntmps6
      go_wp2_with fail
      refine (alive9_any _ HK.out).mono ?_
      rintro e w1 ⟨rfl, n1⟩
      have M1 := Lib.hid n1
      clear n1
      go_wp2_with fail
      refine (F2.out _ M1.out).mono ?_
      rintro e w2 ⟨rfl, rfl⟩
      go_wp2_with fail
      refine (S1.out _ M1.out).mono ?_
      rintro e w3 ⟨⟨a3, k3, rfl, b3⟩, n3⟩
      have M3 := Lib.hid (M1.out.tr n3)
      clear n3
      simp only [staV]
      go_wp2
      go_ret
      exact ⟨rfl, M3.out.al _⟩
    | true =>
      rw [show chkE l0 = 0 by simp [chkE, hc0]] at S1
      have hch : chk (l0 ++ l1) = true := chk_of (fun x hx => by
        rcases List.mem_append.1 hx with hx | hx
        · exact chk_bit hc0 x hx
        · exact chk_bit hc1 x hx) (by rw [List.length_append]; omega)
      have S2 := Lib.hid (fun w' (a' : Option Addr) (c' : Nat) (n : Nb w w') (h : Bs w' a' c' (l0 ++ l1)) => by
        have := scan9_any a2 a' c' _ w' h (HK.out.below n)
        rw [chkE, if_pos hch] at this
        exact this)
      have S3 := Lib.hid (fun w' (j : Nat) (hj : j ≤ l0.length) (n : Nb w w') => by
        have := scan9_any a2 a0 cap0 _ w' ((HA.out.below n).head j) (HK.out.below n)
        rw [chkE, if_pos (chk_sub hc0 (fun x hx => List.mem_of_mem_take hx) (by rw [List.length_take]; omega)), List.length_take, Nat.min_eq_left hj] at this
        exact this)
      have hs := rowS_of (kn := a2) hc0
      have ht := rowS_of (kn := a2) hch
      have hlow := fun (h : (staOf (scS a2 l0)).k < 2) j => (show (rowS a2 (l0.take j)).k < 2 by rw [rowS_of (chk_sub hc0 (fun x hx => List.mem_of_mem_take hx) (by rw [List.length_take]; omega))]; exact sc_low h j)
      have hdone := fun (h : 2 ≤ (staOf (scS a2 l0)).k) => sc_done h l1
      have hfin := sc_fin a2 l0
      rw [← hs] at hlow hdone hfin
      rw [← ht] at hdone
      have hlow2 : (rowS a2 l0).k < 2 → (rowS a2 l0).e = 0 ∧ (rowS a2 l0).f.K = 0 := fun h => by
        rcases hfin with ⟨s, _, h2, h3⟩ | h1 | h1
        · rw [h3] at h; omega
        · rw [h1]; exact ⟨rfl, rfl⟩
        · rw [h1]; exact ⟨rfl, rfl⟩
      have HLOW := Lib.hid hlow
      clear hc0 hc1 hch hs ht hlow hfin
      generalize rowS a2 l0 = sa at *
      generalize rowS a2 (l0 ++ l1) = sb at *
      obtain ⟨L, hL⟩ : ∃ L, l0 ++ l1 = L := ⟨_, rfl⟩
      rw [hL] at S2
      have EL := Lib.hid hL
      have HLL := Lib.hid (show L.length ≤ 600 by rw [← hL, List.length_append]; omega)
      clear hL
      by_cases h2 : 2 ≤ sa.k
      · have hsb : sb = sa := hdone h2
        subst hsb
        have dk : decide ((2 : Int) ≤ (sb.k : Int)) = true := decide_eq_true (by omega)
        clear hdone hlow2 HLOW
        go_enter Tryz.func6, Tryz.ntmps6
        go_wp2_with fail
        refine (alive9_any _ HK.out).mono ?_
        rintro e w1 ⟨rfl, n1⟩
        have M1 := Lib.hid n1
        clear n1
        go_wp2_with fail
        refine (F2.out _ M1.out).mono ?_
        rintro e w2 ⟨rfl, rfl⟩
        go_wp2_with fail
        refine (S1.out _ M1.out).mono ?_
        rintro e w3 ⟨⟨a3, k3, rfl, b3⟩, n3⟩
        have M3 := Lib.hid (M1.out.tr n3)
        clear n3
        simp only [staV]
        obtain ⟨w4, hw4⟩ : ∃ w4, w4 = w3.alloc (.cells #[.int .i64 sb.k, .int .i64 sb.e, .int .i64 sb.f.K, .int .u32 sb.f.I, .bool sb.f.X, .bool sb.f.R, .bool sb.f.B, .bool sb.f.E, .bool sb.f.S, .int .u8 sb.f.D, .int .u8 sb.f.V, .int .u32 sb.f.A, .slice a3 sb.l.length k3] 31) := ⟨_, rfl⟩
        have n34 : Nb w3 w4 := by rw [hw4]; exact Nb.rfl.al _
        have A4 := Lib.hid (show Blk w4 w3.heap.size #[.int .i64 sb.k, .int .i64 sb.e, .int .i64 sb.f.K, .int .u32 sb.f.I, .bool sb.f.X, .bool sb.f.R, .bool sb.f.B, .bool sb.f.E, .bool sb.f.S, .int .u8 sb.f.D, .int .u8 sb.f.V, .int .u32 sb.f.A, .slice a3 sb.l.length k3] 31 by rw [hw4]; exact Blk.new _ _ _)
        have M4 := Lib.hid (M3.out.tr n34)
        have D4 := Lib.hid (b3.below n34)
        have E4 := Lib.hid hw4
        have hs4 : w4.heap.size = w3.heap.size + 1 := by rw [hw4, World.size_alloc]
        have HS4 := Lib.hid hs4
        have fl := Fresh.lit w4 [] #[] (by simp) 0 rfl (by simp) (by simp)
        have hA4 := (HA.out.below M4.out).below (Nb.rfl.al (.cells #[] 5))
        have fl2 := fl
        have hA5 := hA4
        rw [hw4] at fl hA4
        rw [World.size_alloc] at fl
        clear n34 b3 hs4
        go_wp2_with (at_builtin; refine wpList_appB _ rfl (.tmp 40) (.tmp 41) rfl (.slice (some ⟨w3.heap.size + 1, 0, none⟩) 0 0) [] rfl fl.1 a0 cap0 l0 l0.length rfl rfl hA4 (fun h0 => ⟨by have := hA4; subst h0; rw [this.none_len]; rfl, HN0.out h0⟩) (by rw [List.length_nil]; omega) ?_)
        intro v5 w5 ho hk hg
        rw [← hw4] at fl hk
        have f5 := Fresh.app0 (w0 := w4) (show Fresh w4 (w4.alloc (.cells #[] 5)) (.slice (some ⟨w3.heap.size + 1, 0, none⟩) 0 0) [] by rw [← HS4.out]; exact fl2) (Nb.rfl.al _) ho hk (fun g h => by have := hg g h; rw [World.size_alloc, HS4.out]; exact this)
        have F5 := Lib.hid (show Fresh w4 w5 v5 l0 by simpa using f5.1)
        have N5 := Lib.hid f5.2
        have B5 := Lib.hid (HB.out.below (M4.out.tr f5.2))
        clear ho hk hg f5 fl fl2 hA4 hA5 hw4
        go_wp2_with (at_builtin; refine wpList_appB _ rfl (.tmp 42) (.tmp 43) rfl v5 l0 rfl F5.out.1 a1 cap1 l1 l1.length rfl rfl B5.out (fun h0 => ⟨by have := B5.out; subst h0; rw [this.none_len]; rfl, HN1.out h0⟩) (by omega) ?_)
        intro v6 w6 ho hk hg
        have f6 := F5.out.app0 N5.out ho hk hg
        rw [EL.out] at f6
        obtain ⟨a6, k6, rfl, b6, _⟩ := f6.1.1.bs
        have M6 := Lib.hid (M4.out.tr f6.2)
        have A6 := Lib.hid (A4.out.nb f6.2)
        have D6 := Lib.hid (D4.out.below f6.2)
        have B6 := Lib.hid b6
        clear ho hk hg f6 b6
        go_wp2_with fail
        refine (S2.out _ a6 k6 M6.out B6.out).mono ?_
        rintro e w7 ⟨⟨a7, k7, rfl, b7⟩, n7⟩
        have M7 := Lib.hid (M6.out.tr n7)
        have A7 := Lib.hid (A6.out.nb n7)
        have D7 := Lib.hid (D6.out.below n7)
        have lt7 : w3.heap.size < w7.heap.size := A7.out.lt
        clear n7
        simp only [staV]
        obtain ⟨w8, hw8⟩ : ∃ w8, w8 = w7.alloc (.cells #[.int .i64 sb.k, .int .i64 sb.e, .int .i64 sb.f.K, .int .u32 sb.f.I, .bool sb.f.X, .bool sb.f.R, .bool sb.f.B, .bool sb.f.E, .bool sb.f.S, .int .u8 sb.f.D, .int .u8 sb.f.V, .int .u32 sb.f.A, .slice a7 sb.l.length k7] 31) := ⟨_, rfl⟩
        have n78 : Nb w7 w8 := by rw [hw8]; exact Nb.rfl.al _
        have B8 := Lib.hid (show Blk w8 w7.heap.size #[.int .i64 sb.k, .int .i64 sb.e, .int .i64 sb.f.K, .int .u32 sb.f.I, .bool sb.f.X, .bool sb.f.R, .bool sb.f.B, .bool sb.f.E, .bool sb.f.S, .int .u8 sb.f.D, .int .u8 sb.f.V, .int .u32 sb.f.A, .slice a7 sb.l.length k7] 31 by rw [hw8]; exact Blk.new _ _ _)
        have A8 := Lib.hid (A7.out.nb n78)
        have M8 := Lib.hid (M7.out.tr n78)
        have D8 := Lib.hid (D7.out.below n78)
        have G8 := Lib.hid (b7.below n78)
        have E8 := Lib.hid hw8
        obtain ⟨x0, x1, x2, x3, x4, x5, x6, x7, x8, x9, x10, x11, x12⟩ := A8.out.c13
        obtain ⟨y0, y1, y2, y3, y4, y5, y6, y7, y8, y9, y10, y11, y12⟩ := B8.out.c13
        rw [hw8] at x0 x1 x2 x3 x4 x5 x6 x7 x8 x9 x10 x11 x12 y0 y1 y2 y3 y4 y5 y6 y7 y8 y9 y10 y11 y12
        clear n78 hw8 b7
        go_wp2_with fail
        rw [← E8.out]
        refine (same9_any sb sb a3 a7 k3 k7 _ D8.out G8.out).mono ?_
        rintro e w9 ⟨rfl, n9⟩
        rw [sameT_rfl]
        have M9 := Lib.hid (M8.out.tr n9)
        clear n9
        go_wp2
        go_ret
        exact ⟨rfl, M9.out⟩
      · have dk : decide ((2 : Int) ≤ (sa.k : Int)) = false := decide_eq_false (by omega)
        obtain ⟨he0, hK00⟩ := hlow2 (by omega)
        have he := Lib.hid he0
        have hK0 := Lib.hid hK00
        have HL2 := Lib.hid (HLOW.out (by omega))
        clear hdone hlow2 HLOW he0 hK00
        go_enter Tryz.func6, Tryz.ntmps6
        go_wp2_with fail
        refine (alive9_any _ HK.out).mono ?_
        rintro e w1 ⟨rfl, n1⟩
        have M1 := Lib.hid n1
        clear n1
        go_wp2_with fail
        refine (F2.out _ M1.out).mono ?_
        rintro e w2 ⟨rfl, rfl⟩
        go_wp2_with fail
        refine (S1.out _ M1.out).mono ?_
        rintro e w3 ⟨⟨a3, k3, rfl, b3⟩, n3⟩
        have M3 := Lib.hid (M1.out.tr n3)
        clear n3
        simp only [staV]
        obtain ⟨w4, hw4⟩ : ∃ w4, w4 = w3.alloc (.cells #[.int .i64 sa.k, .int .i64 sa.e, .int .i64 sa.f.K, .int .u32 sa.f.I, .bool sa.f.X, .bool sa.f.R, .bool sa.f.B, .bool sa.f.E, .bool sa.f.S, .int .u8 sa.f.D, .int .u8 sa.f.V, .int .u32 sa.f.A, .slice a3 sa.l.length k3] 31) := ⟨_, rfl⟩
        have n34 : Nb w3 w4 := by rw [hw4]; exact Nb.rfl.al _
        have A4 := Lib.hid (show Blk w4 w3.heap.size #[.int .i64 sa.k, .int .i64 sa.e, .int .i64 sa.f.K, .int .u32 sa.f.I, .bool sa.f.X, .bool sa.f.R, .bool sa.f.B, .bool sa.f.E, .bool sa.f.S, .int .u8 sa.f.D, .int .u8 sa.f.V, .int .u32 sa.f.A, .slice a3 sa.l.length k3] 31 by rw [hw4]; exact Blk.new _ _ _)
        have M4 := Lib.hid (M3.out.tr n34)
        have D4 := Lib.hid (b3.below n34)
        have E4 := Lib.hid hw4
        have hs4 : w4.heap.size = w3.heap.size + 1 := by rw [hw4, World.size_alloc]
        have HS4 := Lib.hid hs4
        have fl := Fresh.lit w4 [] #[] (by simp) 0 rfl (by simp) (by simp)
        have hA4 := (HA.out.below M4.out).below (Nb.rfl.al (.cells #[] 5))
        have fl2 := fl
        have hA5 := hA4
        rw [hw4] at fl hA4
        rw [World.size_alloc] at fl
        clear n34 b3 hs4
        go_wp2_with (at_builtin; refine wpList_appB _ rfl (.tmp 40) (.tmp 41) rfl (.slice (some ⟨w3.heap.size + 1, 0, none⟩) 0 0) [] rfl fl.1 a0 cap0 l0 l0.length rfl rfl hA4 (fun h0 => ⟨by have := hA4; subst h0; rw [this.none_len]; rfl, HN0.out h0⟩) (by rw [List.length_nil]; omega) ?_)
        intro v5 w5 ho hk hg
        rw [← hw4] at fl hk
        have f5 := Fresh.app0 (w0 := w4) (show Fresh w4 (w4.alloc (.cells #[] 5)) (.slice (some ⟨w3.heap.size + 1, 0, none⟩) 0 0) [] by rw [← HS4.out]; exact fl2) (Nb.rfl.al _) ho hk (fun g h => by have := hg g h; rw [World.size_alloc, HS4.out]; exact this)
        have F5 := Lib.hid (show Fresh w4 w5 v5 l0 by simpa using f5.1)
        have N5 := Lib.hid f5.2
        have B5 := Lib.hid (HB.out.below (M4.out.tr f5.2))
        clear ho hk hg f5 fl fl2 hA4 hA5 hw4
        go_wp2_with (at_builtin; refine wpList_appB _ rfl (.tmp 42) (.tmp 43) rfl v5 l0 rfl F5.out.1 a1 cap1 l1 l1.length rfl rfl B5.out (fun h0 => ⟨by have := B5.out; subst h0; rw [this.none_len]; rfl, HN1.out h0⟩) (by omega) ?_)
        intro v6 w6 ho hk hg
        have f6 := F5.out.app0 N5.out ho hk hg
        rw [EL.out] at f6
        obtain ⟨a6, k6, rfl, b6, _⟩ := f6.1.1.bs
        have M6 := Lib.hid (M4.out.tr f6.2)
        have A6 := Lib.hid (A4.out.nb f6.2)
        have D6 := Lib.hid (D4.out.below f6.2)
        have B6 := Lib.hid b6
        clear ho hk hg f6 b6
        go_wp2_with fail
        refine (S2.out _ a6 k6 M6.out B6.out).mono ?_
        rintro e w7 ⟨⟨a7, k7, rfl, b7⟩, n7⟩
        have M7 := Lib.hid (M6.out.tr n7)
        have A7 := Lib.hid (A6.out.nb n7)
        have D7 := Lib.hid (D6.out.below n7)
        have lt7 : w3.heap.size < w7.heap.size := A7.out.lt
        clear n7
        simp only [staV]
        obtain ⟨w8, hw8⟩ : ∃ w8, w8 = w7.alloc (.cells #[.int .i64 sb.k, .int .i64 sb.e, .int .i64 sb.f.K, .int .u32 sb.f.I, .bool sb.f.X, .bool sb.f.R, .bool sb.f.B, .bool sb.f.E, .bool sb.f.S, .int .u8 sb.f.D, .int .u8 sb.f.V, .int .u32 sb.f.A, .slice a7 sb.l.length k7] 31) := ⟨_, rfl⟩
        have n78 : Nb w7 w8 := by rw [hw8]; exact Nb.rfl.al _
        have B8 := Lib.hid (show Blk w8 w7.heap.size #[.int .i64 sb.k, .int .i64 sb.e, .int .i64 sb.f.K, .int .u32 sb.f.I, .bool sb.f.X, .bool sb.f.R, .bool sb.f.B, .bool sb.f.E, .bool sb.f.S, .int .u8 sb.f.D, .int .u8 sb.f.V, .int .u32 sb.f.A, .slice a7 sb.l.length k7] 31 by rw [hw8]; exact Blk.new _ _ _)
        have A8 := Lib.hid (A7.out.nb n78)
        have M8 := Lib.hid (M7.out.tr n78)
        have D8 := Lib.hid (D7.out.below n78)
        have G8 := Lib.hid (b7.below n78)
        have E8 := Lib.hid hw8
        obtain ⟨x0, x1, x2, x3, x4, x5, x6, x7, x8, x9, x10, x11, x12⟩ := A8.out.c13
        obtain ⟨y0, y1, y2, y3, y4, y5, y6, y7, y8, y9, y10, y11, y12⟩ := B8.out.c13
        rw [hw8] at x0 x1 x2 x3 x4 x5 x6 x7 x8 x9 x10 x11 x12 y0 y1 y2 y3 y4 y5 y6 y7 y8 y9 y10 y11 y12
        clear n78 hw8 b7
        go_wp2
        rw [← E8.out]
        clear x0 x1 x2 x3 x4 x5 x6 x7 x8 x9 x10 x11 x12 y0 y1 y2 y3 y4 y5 y6 y7 y8 y9 y10 y11 y12
        go_loopw [61] (fun ix wr => ∃ j : Nat, j ≤ l0.length ∧ ix = .int .i64 j ∧ Nb w8 wr) (fun ix _ => l0.length - (intOf ix).toNat)
        case atStart => exact ⟨0, Nat.zero_le _, rfl, Nb.rfl⟩
        case round =>
          obtain ⟨j, hj, rfl, hnb⟩ := hrel
          have NJ := Lib.hid hnb
          clear hnb
          by_cases hlt : j < l0.length
          · have hcut := run_cutH a0 l0.length cap0 j (by have := HA.out.hcap; omega)
            have hq1 : j ≤ cap0 := by have := HA.out.hcap; omega
            have hq2 : cap0 ≤ 9223372036854775807 := by have := HA.out.hmax; unfold maxLen at this; omega
            have hk2 := HL2.out j
            have S4 := Lib.hid (S3.out wr j (by omega) (M8.out.tr NJ.out))
            generalize rowS a2 (l0.take j) = su at *
            have dku : decide ((2 : Int) ≤ (su.k : Int)) = false := decide_eq_false (by omega)
            clear hk2
            go_wp2_with fail
            refine S4.out.mono ?_
            rintro e wx ⟨⟨ax, kx, rfl, bx⟩, nx⟩
            have NX := Lib.hid (NJ.out.tr nx)
            clear nx bx
            simp only [staV]
            go_wp2
            go_roundw
            case rel => exact ⟨j + 1, by omega, by go_num, NX.out.al _⟩
            case measure => simp [intOf]; try omega
          · obtain rfl : j = l0.length := by omega
            obtain ⟨x0, x1, x2, _⟩ := (A8.out.nb NJ.out).c13
            rw [he.out] at x1
            rw [hK0.out] at x2
            have MJ := Lib.hid (M8.out.tr NJ.out)
            clear NJ he hK0
            go_wp2
            go_ret
            exact ⟨rfl, MJ.out⟩

theorem door_met (os : Os) (args : Array Value) : laidMetH Tryz.prog Rows.scanStaysRow.laid ((World.doorLaid Tryz.prog 24 os).forCall (fun _ _ => 0) ⟨#[], args, []⟩).memory :=
  laidMetH_of_parts3 (fuel := 8) (laidMet_of_run' 8 (by kernel_rfl) (by kernel_rfl)) (by kernel_rfl) (by kernel_rfl)
set_option maxHeartbeats 2000000 in
set_option maxRecDepth 100000 in
theorem lifted (os : Os) (started : os.Started) (H : Type) (enc : TypeId × Value → H) :
    ReturnsInHanded {} Tryz.checked os 6 .any (fun w args => (Rows.scanStaysSpec.pre enc Tryz.prog Tryz.f6 [] false w args ∧ laidMetH Tryz.prog Rows.scanStaysRow.laid w) ∧ sizedMet enc Tryz.prog Tryz.f6 (OpenSpec.ofChange Rows.scanStaysSpec) false w args)
      (Rows.scanStaysSpec.post enc Tryz.prog Tryz.f6 false true false false) := by
  refine returnsInHanded_of_change_and (C := Tryz.checked) (X := fun w _ => laidMetH Tryz.prog Rows.scanStaysRow.laid w) (fun _ _ _ hh h => h.of_heap hh) own started (by kernel_rfl) Tryz.func6
    (ChangeSpec.witness_shaped (enc := enc) (C := Tryz.checked) (os := os) (X := fun w _ => laidMetH Tryz.prog Rows.scanStaysRow.laid w) false (World.doorLaid Tryz.prog 24 os) #[.slice none 0 0, .slice none 0 0, .bool false] 8 rfl (World.shaped_of_RefB (by kernel_rfl) (by kernel_rfl)) (by kernel_rfl) (by kernel_rfl) (by kernel_rfl) (door_met os _)) ?_
  intro W base args ds gs before hval0 hW _ hR hL _
  have hval : ∀ (j : Nat) t v, Tryz.f6.params[j]? = some t → args[j]? = some v → Value.okWide Tryz.prog W .any base t v := hval0
  have hW' := hW
  obtain ⟨p, q, hA0, hV, rfl, hfz, hnd⟩ := hW
  have hA : DataW.TrodAll enc Tryz.prog W 0 (fun _ => true) true Tryz.f6.params.toList args.toList ds p := hA0
  rw [Tryz.params6] at hA hval
  obtain ⟨v0, vs0, d0, ds0, p0, q0, hargs, rfl, rfl, h0, r0⟩ := trodAll_cons hA
  obtain ⟨v1, vs1, d1, ds1, p1, q1, rfl, rfl, rfl, h1, r1⟩ := trodAll_cons r0
  obtain ⟨v2, vs2, d2, ds2, p2, q2, rfl, rfl, rfl, h2, r2⟩ := trodAll_cons r1
  obtain ⟨rfl, rfl, rfl⟩ := trodAll_nil r2
  obtain rfl : args = #[v0, v1, v2] := by cases args; simp_all
  obtain ⟨rfl, rfl⟩ := trodVars_none hV
  have k0 := h0
  have lt0 : ∀ x ∈ p0, x.block < W.heap.size := by obtain ⟨m, hm⟩ := k0; exact DataW.trod_lt m _ _ _ hm
  have k1 := h1
  have lt1 : ∀ x ∈ p1, x.block < W.heap.size := by obtain ⟨m, hm⟩ := k1; exact DataW.trod_lt m _ _ _ hm
  have k2 := h2
  have lt2 : ∀ x ∈ p2, x.block < W.heap.size := by obtain ⟨m, hm⟩ := k2; exact DataW.trod_lt m _ _ _ hm
  clear hA0
  obtain ⟨a0, lc0, cap0, rfl⟩ := okWide_slice Tryz.underlying22 (hval 0 22 v0 rfl rfl)
  obtain ⟨fu0, hf0⟩ := h0
  have hc0 : DataW.trod enc Tryz.prog W 0 (fun _ => true) true fu0 22 [.slice a0 lc0 cap0] = some (d0, p0) := hf0
  obtain ⟨b0, cb0, l0, e0, hb0, n0⟩ := bytes_open hc0
  simp only [Value.slice.injEq] at e0
  obtain ⟨rfl, rfl, rfl⟩ := e0
  obtain ⟨a1, lc1, cap1, rfl⟩ := okWide_slice Tryz.underlying22 (hval 1 22 v1 rfl rfl)
  obtain ⟨fu1, hf1⟩ := h1
  have hc1 : DataW.trod enc Tryz.prog W 0 (fun _ => true) true fu1 22 [.slice a1 lc1 cap1] = some (d1, p1) := hf1
  obtain ⟨b1, cb1, l1, e1, hb1, n1⟩ := bytes_open hc1
  simp only [Value.slice.injEq] at e1
  obtain ⟨rfl, rfl, rfl⟩ := e1
  obtain ⟨a2, rfl, rfl, rfl⟩ := open_bool Tryz.underlying4 (hval 2 4 v2 rfl rfl) h2
  refine (walk W (both_of hL) a0 cap0 l0 hb0 n0 a1 cap1 l1 hb1 n1 a2).mono fun e W' ⟨he, bel⟩ => ?_
  subst he
  exact ⟨_, rfl, _, _, _, [], _, [], hW', trodAll_mk1 (shut_bool Tryz.underlying4 _), (trodAll_cons_mk (Below.trod laidOut (by kernel_rfl) (of_decide_eq_true (by kernel_rfl)) k0 bel lt0) (trodAll_cons_mk (Below.trod laidOut (by kernel_rfl) (of_decide_eq_true (by kernel_rfl)) k1 bel lt1) (trodAll_cons_mk (Below.trod laidOut (by kernel_rfl) (of_decide_eq_true (by kernel_rfl)) k2 bel lt2) trodAll_mk0))), rfl, bel.frame _, fun h => by cases h⟩

theorem over : Rows.scanStaysRow.holds Tryz.pinned (OpenSpec.ofChange Rows.scanStaysSpec) :=
  OpenClaim.holds_of_wide 6 Tryz.f6 rfl rfl rfl rfl rfl rfl rfl ⟨rfl, rfl, rfl, rfl, rfl⟩ rfl rfl rfl rfl rfl (by kernel_rfl) Tryz.func6 (by kernel_rfl)
    (of_decide_eq_true (by kernel_rfl)) (by unfold Func.isWrapper; first | (rw [if_pos (by decide +kernel)]; kernel_rfl) | (rw [if_neg (by decide +kernel)]; exact ⟨rfl, rfl⟩))
    (fun os started H enc _ => lifted os started H enc)

theorem plain (f : FuncId) (fn : Func) (hf : Tryz.pinned.checked.prog.funcNamed "omnibus/omnibuslaw09.ScanStays" = some f) (hfn : Tryz.pinned.checked.prog.funcs[f]? = some fn) :
    false = Tryz.pinned.checked.prog.looks [] ∧ ∀ (j : Nat) t, fn.params[j]? = some t → Tryz.pinned.checked.prog.wantsStandIn t = false := by
  obtain rfl : f = 6 := Option.some.inj ((show Tryz.prog.funcNamed "omnibus/omnibuslaw09.ScanStays" = some 6 by kernel_rfl).symm.trans hf) |>.symm
  obtain rfl : fn = Tryz.f6 := (Option.some.inj (Tryz.func6.symm.trans hfn)).symm
  refine ⟨by kernel_rfl, fun j t ht => ?_⟩
  rw [Tryz.params6] at ht
  have hm : t ∈ [22, 4] := by have := Array.mem_of_getElem? ht; simp at this ⊢; omega
  have hall : ([22, 4].all fun u => !Tryz.prog.wantsStandIn u) = true := by kernel_rfl
  exact (show Tryz.prog.wantsStandIn t = false by simpa using List.all_eq_true.1 hall t hm)
theorem proved : Rows.ScanStaysCardSaid :=
  Claim7.holds_tied_plain_at .later [] _ _ _ _ over (fun _ h => by cases h) (by kernel_rfl) (fun _ h => by cases h) scanStays_row_tie rfl ⟨rfl, rfl⟩ (by kernel_rfl) rfl plain (by kernel_rfl)
#print axioms proved
end Go.Proofs.YtkboncpfddnoaaaGreatDoor.scanStays
