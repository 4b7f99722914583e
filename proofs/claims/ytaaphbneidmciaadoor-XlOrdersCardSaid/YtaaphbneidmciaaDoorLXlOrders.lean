/- For every frame and identifier the law XlOrders answers true and leaves its arguments as they were; the package's tables of kinds of sums and of longer sizes are tied to the program's text. No conditions. -/
import Derived.Test.YtaaphbneidmciaaDoorRows
import Derived.Test.YtaaphbneidmciaaDoorCards
import Derived.Test.YtaaphbneidmciaaDoorTie
import Derived.Test.YtaaphbneidmciaaDoorXlA
import Derived.Test.YtaaphbneidmciaaDoorClaQ
import Derived.Test.YtaaphbneidmciaaDoorGa
import Derived.WalkKit
import Derived.ProofKit
import Derived.OpenShut
import Derived.ShutString
import Derived.ChangeOld
import Derived.Below
import Derived.Carry
import Derived.Lib.SmallJoins
import Derived.Deep.RegionWith
import Derived.Deep.RegionHeld3
import Derived.LaidMore
import Derived.LaidLaws
import Derived.Stop.Joined
import Derived.SevenTiedAt
namespace Go.Proofs.YtaaphbneidmciaaDoor.xlOrders
open Go.ChangeShapes Go.WideShapes Go.ChangeAt Go.RowKit Go.Joins
set_option linter.unusedVariables false
set_option linter.unusedSimpArgs false
theorem own : ownKnob Tryd.prog.godebug = none := by kernel_rfl
theorem laidOut : laidOutB Tryd.prog = true := by kernel_rfl
theorem arr11 {α : Type} {cs : Array α} (h : cs.size = 11) : ∃ c0 c1 c2 c3 c4 c5 c6 c7 c8 c9 c10, cs = #[c0, c1, c2, c3, c4, c5, c6, c7, c8, c9, c10] := by
  obtain ⟨l⟩ := cs
  match l, h with
  | [c0, c1, c2, c3, c4, c5, c6, c7, c8, c9, c10], _ => exact ⟨c0, c1, c2, c3, c4, c5, c6, c7, c8, c9, c10, rfl⟩
set_option maxHeartbeats 8000000 in
set_option maxRecDepth 100000 in
theorem walk (w : World) (hK : Both w) (a0_0 : Int) (w0_0 : (Lit.int .i64 a0_0).wf = true) (a0_1 : Int) (w0_1 : (Lit.int .u32 a0_1).wf = true) (a0_2 : Bool) (a0_3 : Bool) (a0_4 : Bool) (a0_5 : Bool) (a0_6 : Bool) (a0_7 : Int) (w0_7 : (Lit.int .u8 a0_7).wf = true) (a0_8 : Int) (w0_8 : (Lit.int .u8 a0_8).wf = true) (a0_9 : Int) (w0_9 : (Lit.int .u32 a0_9).wf = true) (a0_10 : Option Addr) (cap0_10 : Nat) (l0_10 : List Nat) (h0_10 : Bs w a0_10 cap0_10 l0_10) (n0_10 : a0_10 = none → cap0_10 = 0) (a1 : Int) (w1 : (Lit.int .u32 a1).wf = true) :
    Calls Tryd.prog 6 #[.agg #[.int .i64 a0_0, .int .u32 a0_1, .bool a0_2, .bool a0_3, .bool a0_4, .bool a0_5, .bool a0_6, .int .u8 a0_7, .int .u8 a0_8, .int .u32 a0_9, .slice a0_10 l0_10.length cap0_10], .int .u32 a1] w fun e w' => e = .returned (.bool true) ∧ Nb w w' := by
  have hL0 := h0_10.len
  have hI : 0 ≤ a0_1 := by
    simp [Lit.wf, IntKind.min, IntKind.max, IntKind.signed, IntKind.bits] at w0_1
    omega
  have hJ : 0 ≤ a1 := by
    simp [Lit.wf, IntKind.min, IntKind.max, IntKind.signed, IntKind.bits] at w1
    omega
  have hW : ∀ k : Nat, WdX ⟨a0_0, (k : Int), a0_2, a0_3, a0_4, a0_5, a0_6, a0_7, a0_8, a0_9⟩ := by
    simp [Lit.wf, IntKind.min, IntKind.max, IntKind.signed, IntKind.bits] at w0_7 w0_8 w0_9
    intro k
    simp only [WdX]
    omega
  clear w0_1 w1
  obtain ⟨i, rfl⟩ := Int.eq_ofNat_of_zero_le hI
  obtain ⟨j, rfl⟩ := Int.eq_ofNat_of_zero_le hJ
  clear hI hJ
  have HK := Lib.hid hK
  have HA := Lib.hid h0_10
  have F1 := Lib.hid (fun w' (n : Nb w w') => mine8_any ⟨a0_0, (i : Nat), a0_2, a0_3, a0_4, a0_5, a0_6, a0_7, a0_8, a0_9⟩ a0_10 cap0_10 l0_10 w' (HA.out.below n) (HK.out.below n).2)
  have F2 := Lib.hid (fun w' (n : Nb w w') => wire8_any ⟨a0_0, (i : Nat), a0_2, a0_3, a0_4, a0_5, a0_6, a0_7, a0_8, a0_9⟩ a0_10 cap0_10 l0_10 w' (HA.out.below n) (hW i) (HK.out.below n).1 (HK.out.below n).2)
  have G1 := Lib.hid (fun w' (n : Nb w w') => mine8_any ⟨a0_0, (j : Nat), a0_2, a0_3, a0_4, a0_5, a0_6, a0_7, a0_8, a0_9⟩ a0_10 cap0_10 l0_10 w' (HA.out.below n) (HK.out.below n).2)
  have G2 := Lib.hid (fun w' (n : Nb w w') => wire8_any ⟨a0_0, (j : Nat), a0_2, a0_3, a0_4, a0_5, a0_6, a0_7, a0_8, a0_9⟩ a0_10 cap0_10 l0_10 w' (HA.out.below n) (hW j) (HK.out.below n).1 (HK.out.below n).2)
  have QA := Lib.hid (Blk.new w #[.int .i64 a0_0, .int .u32 (i : Nat), .bool a0_2, .bool a0_3, .bool a0_4, .bool a0_5, .bool a0_6, .int .u8 a0_7, .int .u8 a0_8, .int .u32 a0_9, .slice a0_10 l0_10.length cap0_10] 25)
  clear hK h0_10 w0_0 w0_7 w0_8 w0_9 n0_10 hW
  cases hok : okX ⟨a0_0, (i : Nat), a0_2, a0_3, a0_4, a0_5, a0_6, a0_7, a0_8, a0_9⟩ l0_10 with
  | false =>
    rw [hok] at F1
    clear hok F2 G1 G2
    simp only [Hd.cs] at F1
    go_enter Tryd.func6, Tryd.ntmps6
    go_wp2_with fail
    refine (alive8_any _ (HK.out.below (Nb.rfl.al _))).mono ?_
    rintro e w1 ⟨rfl, n1⟩
    have Q1 := Lib.hid (QA.out.nb n1)
    have M1 := Lib.hid ((Nb.rfl.al _).tr n1 : Nb w w1)
    have lt1 : w.heap.size < w1.heap.size := Q1.out.lt
    clear n1
    obtain ⟨c0, c1, c2, c3, c4, c5, c6, c7, c8, c9, c10⟩ := Q1.out.c11
    go_wp2_with fail
    refine (F1.out _ (M1.out.al _)).mono ?_
    rintro e w2 ⟨rfl, n2⟩
    have M2 := Lib.hid ((M1.out.al _).tr n2)
    clear n2
    go_wp2
    go_ret
    exact ⟨rfl, M2.out⟩
  | true =>
    rw [hok] at F1
    have hpre : ∀ (T : Prop), True := fun _ => trivial
    clear hpre
    go_enter Tryd.func6, Tryd.ntmps6
    go_wp2_with fail
    refine (alive8_any _ (HK.out.below (Nb.rfl.al _))).mono ?_
    rintro e w1 ⟨rfl, n1⟩
    have Q1 := Lib.hid (QA.out.nb n1)
    have M1 := Lib.hid ((Nb.rfl.al _).tr n1 : Nb w w1)
    have lt1 : w.heap.size < w1.heap.size := Q1.out.lt
    clear n1
    obtain ⟨c0, c1, c2, c3, c4, c5, c6, c7, c8, c9, c10⟩ := Q1.out.c11
    go_wp2_with fail
    obtain ⟨w2, hw2⟩ : ∃ w2, w2 = w1.alloc (.cells #[.int .i64 a0_0, .int .u32 (j : Nat), .bool a0_2, .bool a0_3, .bool a0_4, .bool a0_5, .bool a0_6, .int .u8 a0_7, .int .u8 a0_8, .int .u32 a0_9, .slice a0_10 l0_10.length cap0_10] 25) := ⟨_, rfl⟩
    have n12 : Nb w1 w2 := by rw [hw2]; exact Nb.rfl.al _
    have QB := Lib.hid (show Blk w2 w1.heap.size #[.int .i64 a0_0, .int .u32 (j : Nat), .bool a0_2, .bool a0_3, .bool a0_4, .bool a0_5, .bool a0_6, .int .u8 a0_7, .int .u8 a0_8, .int .u32 a0_9, .slice a0_10 l0_10.length cap0_10] 25 by rw [hw2]; exact Blk.new _ _ _)
    have Q2 := Lib.hid (Q1.out.nb n12)
    have M2 := Lib.hid (M1.out.tr n12)
    rw [← hw2]
    clear hw2 n12 c0 c1 c2 c3 c4 c5 c6 c7 c8 c9 c10
    refine (F1.out _ M2.out).mono ?_
    rintro e w3 ⟨rfl, n3⟩
    have Q3 := Lib.hid (Q2.out.nb n3)
    have B3 := Lib.hid (QB.out.nb n3)
    have M3 := Lib.hid (M2.out.tr n3)
    clear n3
    obtain ⟨c0, c1, c2, c3, c4, c5, c6, c7, c8, c9, c10⟩ := Q3.out.c11
    obtain ⟨e0, e1, e2, e3, e4, e5, e6, e7, e8, e9, e10⟩ := B3.out.c11
    go_wp2_with fail
    refine (G1.out _ M3.out).mono ?_
    rintro e w4 ⟨rfl, n4⟩
    have Q4 := Lib.hid (Q3.out.nb n4)
    have B4 := Lib.hid (B3.out.nb n4)
    have M4 := Lib.hid (M3.out.tr n4)
    clear n4 c0 c1 c2 c3 c4 c5 c6 c7 c8 c9 c10 e0 e1 e2 e3 e4 e5 e6 e7 e8 e9 e10
    obtain ⟨c0, c1, c2, c3, c4, c5, c6, c7, c8, c9, c10⟩ := Q4.out.c11
    obtain ⟨e0, e1, e2, e3, e4, e5, e6, e7, e8, e9, e10⟩ := B4.out.c11
    cases hok2 : okX ⟨a0_0, (j : Nat), a0_2, a0_3, a0_4, a0_5, a0_6, a0_7, a0_8, a0_9⟩ l0_10 with
    | false =>
      go_wp2
      go_ret
      exact ⟨rfl, M4.out⟩
    | true =>
      by_cases hij : i = j
      · subst hij
        clear hok hok2
        go_wp2
        go_ret
        exact ⟨rfl, M4.out⟩
      · have dij : ((i : Int) == (j : Int)) = false := by rw [beq_eq_false_iff_ne]; omega
        by_cases h300 : 300 < l0_10.length
        · have d0 : decide (300 < (l0_10.length : Int)) = true := decide_eq_true (by omega)
          clear hok hok2 F2 G2 h300
          go_wp2
          go_ret
          exact ⟨rfl, M4.out⟩
        have d0 : decide (300 < (l0_10.length : Int)) = false := decide_eq_false (by omega)
        clear h300
        have vA : okXE ⟨a0_0, (i : Nat), a0_2, a0_3, a0_4, a0_5, a0_6, a0_7, a0_8, a0_9⟩ l0_10 = 0 := by rw [okXE, if_pos hok]
        have vB : okXE ⟨a0_0, (j : Nat), a0_2, a0_3, a0_4, a0_5, a0_6, a0_7, a0_8, a0_9⟩ l0_10 = 0 := by rw [okXE, if_pos hok2]
        obtain ⟨d, o1, o2, o3, o4⟩ := wx_order (f := ⟨a0_0, (i : Nat), a0_2, a0_3, a0_4, a0_5, a0_6, a0_7, a0_8, a0_9⟩) hok hok2 hij
        obtain ⟨P, z1, z2, g2, z3, z4, z5, z6, z7, g8, z8, z9⟩ := wx_ends hok
        obtain ⟨P', z1', z2', g2', z3', z4', z5', z6', z7', g8', z8', z9'⟩ := wx_ends hok2
        have hPb : P ≤ 100000 := by omega
        clear z1 z2 z3 z4 z5 z6 z7 z8 z9 z1' z2' z3' z4' z5' z6' z7' z8' z9'
        simp only at o1 o2 o3 o4
        rw [vA] at F2
        rw [vB] at G2
        generalize wxC ⟨a0_0, (i : Nat), a0_2, a0_3, a0_4, a0_5, a0_6, a0_7, a0_8, a0_9⟩ l0_10 = WA at *
        generalize wxC ⟨a0_0, (j : Nat), a0_2, a0_3, a0_4, a0_5, a0_6, a0_7, a0_8, a0_9⟩ l0_10 = WB at *
        generalize wArbX ⟨a0_0, (i : Nat), a0_2, a0_3, a0_4, a0_5, a0_6, a0_7, a0_8, a0_9⟩ l0_10 = NA at *
        generalize wArbX ⟨a0_0, (j : Nat), a0_2, a0_3, a0_4, a0_5, a0_6, a0_7, a0_8, a0_9⟩ l0_10 = NB at *
        generalize wAckX ⟨a0_0, (i : Nat), a0_2, a0_3, a0_4, a0_5, a0_6, a0_7, a0_8, a0_9⟩ l0_10 = CA at *
        generalize wAckX ⟨a0_0, (j : Nat), a0_2, a0_3, a0_4, a0_5, a0_6, a0_7, a0_8, a0_9⟩ l0_10 = CB at *
        have lA : d < WA.length := by omega
        have lB : d < WB.length := by omega
        obtain ⟨M, hM⟩ : ∃ M, M = min NA NB := ⟨_, rfl⟩
        have dM : d < M := by omega
        have hMb : M ≤ 200000 := by omega
        clear hPb
        have hmin : ∀ (ts : Array TypeId) (ty : TypeId) (w : World), (Builtin.min_ ts ty #[.int .i64 (NA : Int), .int .i64 (NB : Int)]).run Tryd.prog w = .ok (.int .i64 (M : Int)) w := fun ts ty w => by
          rw [run_min2, show min (NA : Int) (NB : Int) = (M : Int) by omega]
        have O3 := Lib.hid o3
        have O4 := Lib.hid o4
        clear hok hok2 hij vA vB g2 g2' g8 g8' o1 o2 o3 o4 hM F1 G1
        simp only [Hd.cs] at F2 G2
        go_wp2_with fail
        refine (F2.out _ M4.out).mono ?_
        rintro e w5 ⟨⟨a5, d5, rfl, f5⟩, n5⟩
        have Q5 := Lib.hid (Q4.out.nb n5)
        have B5 := Lib.hid (B4.out.nb n5)
        have M5 := Lib.hid (M4.out.tr n5)
        have W5 := Lib.hid (fun w' (n : Nb w5 w') => f5.1.asBs.1.below n)
        have lt5 : w.heap.size < w5.heap.size := Q5.out.lt
        have lt5' : w1.heap.size < w5.heap.size := B5.out.lt
        clear f5 n5 c0 c1 c2 c3 c4 c5 c6 c7 c8 c9 c10 e0 e1 e2 e3 e4 e5 e6 e7 e8 e9 e10
        obtain ⟨bA, oA, rfl, _⟩ := (W5.out _ Nb.rfl).hcells (by omega)
        obtain ⟨e0, e1, e2, e3, e4, e5, e6, e7, e8, e9, e10⟩ := B5.out.c11
        go_wp2_with fail
        refine (G2.out _ (M5.out.al _)).mono ?_
        rintro e w6 ⟨⟨a6, d6, rfl, f6⟩, n6⟩
        have n56 : Nb w5 w6 := (Nb.rfl.al _).tr n6
        have Q6 := Lib.hid (Q5.out.nb n56)
        have B6 := Lib.hid (B5.out.nb n56)
        have M6 := Lib.hid (M5.out.tr n56)
        have XA6 := Lib.hid ((Blk.new w5 #[.slice (some ⟨bA, oA, none⟩) WA.length d5, .int .i64 NA, .int .i64 CA] 28).nb n6)
        have W6 := Lib.hid (fun w' (n : Nb w6 w') => W5.out w' (n56.tr n))
        have V6 := Lib.hid (fun w' (n : Nb w6 w') => f6.1.asBs.1.below n)
        have lt6 : w.heap.size < w6.heap.size := Q6.out.lt
        have lt6' : w1.heap.size < w6.heap.size := B6.out.lt
        have lt6'' : w5.heap.size < w6.heap.size := XA6.out.lt
        clear f6 n6 n56 e0 e1 e2 e3 e4 e5 e6 e7 e8 e9 e10
        obtain ⟨bB, oB, rfl, _⟩ := (V6.out _ Nb.rfl).hcells (by omega)
        obtain ⟨x0, x1, x2⟩ := XA6.out.c3
        go_wp2
        obtain ⟨w7, hw7⟩ : ∃ w7, w7 = w6.alloc (.cells #[.slice (some ⟨bB, oB, none⟩) WB.length d6, .int .i64 NB, .int .i64 CB] 28) := ⟨_, rfl⟩
        have n67 : Nb w6 w7 := by rw [hw7]; exact Nb.rfl.al _
        have XB7 := Lib.hid (show Blk w7 w6.heap.size #[.slice (some ⟨bB, oB, none⟩) WB.length d6, .int .i64 NB, .int .i64 CB] 28 by rw [hw7]; exact Blk.new _ _ _)
        have XA7 := Lib.hid (XA6.out.nb n67)
        have Q7 := Lib.hid (Q6.out.nb n67)
        have B7 := Lib.hid (B6.out.nb n67)
        have M7 := Lib.hid (M6.out.tr n67)
        have N67 := Lib.hid n67
        rw [← hw7]
        clear hw7 n67 x0 x1 x2
        go_loopw [58] (fun ix wr => ∃ k : Nat, k ≤ d ∧ ix = .int .i64 k ∧ Nb w7 wr) (fun ix _ => M - (intOf ix).toNat)
        case atStart => exact ⟨0, Nat.zero_le _, rfl, Nb.rfl⟩
        case round =>
          obtain ⟨k, hk, rfl, hnb⟩ := hrel
          have NW := Lib.hid hnb
          clear hnb
          obtain ⟨x0, x1, x2⟩ := (XA7.out.nb NW.out).c3
          obtain ⟨y0, y1, y2⟩ := (XB7.out.nb NW.out).c3
          obtain ⟨b', o', he, hcA⟩ := (W6.out _ (N67.out.tr NW.out)).hcells (by omega)
          simp only [Option.some.injEq, Addr.mk.injEq, and_true] at he
          obtain ⟨rfl, rfl⟩ := he
          obtain ⟨b', o', he, hcB⟩ := (V6.out _ (N67.out.tr NW.out)).hcells (by omega)
          simp only [Option.some.injEq, Addr.mk.injEq, and_true] at he
          obtain ⟨rfl, rfl⟩ := he
          have u1 := hcA k (by omega)
          have u2 := hcB k (by omega)
          have kM : (k : Int) < (M : Int) := by omega
          have kb : (k : Int) ≤ 200000 := by omega
          have kA : (k : Int) < (WA.length : Int) := by omega
          have kB : (k : Int) < (WB.length : Int) := by omega
          clear hcA hcB
          by_cases hkd : k = d
          · subst hkd
            have o4 := O4.out
            generalize WA.getD k 0 = u at *
            generalize WB.getD k 0 = v at *
            rcases o4 with ⟨hlt, rfl, rfl⟩ | ⟨hlt, rfl, rfl⟩
            · have dd : decide ((i : Int) < (j : Int)) = true := decide_eq_true (by omega)
              have dd' : decide (i < j) = true := decide_eq_true (by omega)
              go_wp2_with fail
              go_quiet (fail)
              rename_i nq
              have NW2 := Lib.hid (NW.out.tr (Nb.drewN wr nq))
              obtain ⟨x0, x1, x2⟩ := (XA7.out.nb NW2.out).c3
              obtain ⟨c0, c1, _⟩ := (Q7.out.nb NW2.out).c11
              obtain ⟨e0, e1, _⟩ := (B7.out.nb NW2.out).c11
              have u1 : (wr.drewN nq).cell? ⟨bA, oA + k, none⟩ = some (.int .u8 0) := u1
              generalize wr.drewN nq = wd at *
              have M9 := Lib.hid (fun n => (M7.out.tr NW2.out).tr (Nb.drewN wd n))
              go_wp2_with fail
              go_quiet (fail)
              go_wp2
              go_ret
              exact ⟨rfl, M9.out _⟩
            · have dd : decide ((i : Int) < (j : Int)) = false := decide_eq_false (by omega)
              have dd' : decide (i < j) = false := decide_eq_false (by omega)
              go_wp2_with fail
              go_quiet (fail)
              rename_i nq
              have NW2 := Lib.hid (NW.out.tr (Nb.drewN wr nq))
              obtain ⟨x0, x1, x2⟩ := (XA7.out.nb NW2.out).c3
              obtain ⟨c0, c1, _⟩ := (Q7.out.nb NW2.out).c11
              obtain ⟨e0, e1, _⟩ := (B7.out.nb NW2.out).c11
              have u1 : (wr.drewN nq).cell? ⟨bA, oA + k, none⟩ = some (.int .u8 1) := u1
              generalize wr.drewN nq = wd at *
              have M9 := Lib.hid (fun n => (M7.out.tr NW2.out).tr (Nb.drewN wd n))
              go_wp2_with fail
              go_quiet (fail)
              go_wp2
              go_ret
              exact ⟨rfl, M9.out _⟩
          · have o3 := O3.out k (by omega)
            rw [← o3] at u2
            generalize WA.getD k 0 = u at *
            clear o3
            go_wp2_with fail
            go_quiet (fail)
            rename_i nq
            have NW2 := Lib.hid (NW.out.tr (Nb.drewN wr nq))
            clear u1 u2 x0 x1 x2 y0 y1 y2
            generalize wr.drewN nq = wd at *
            go_wp2
            go_roundw
            case rel => exact ⟨k + 1, by omega, by go_num, NW2.out⟩
            case measure => simp [intOf]; omega

theorem door_met (os : Os) (args : Array Value) : laidMetH Tryd.prog Rows.xlOrdersRow.laid ((World.doorLaid Tryd.prog 24 os).forCall (fun _ _ => 0) ⟨#[], args, []⟩).memory :=
  laidMetH_of_parts3 (fuel := 8) (laidMet_of_run' 8 (by kernel_rfl) (by kernel_rfl)) (by kernel_rfl) (by kernel_rfl)
set_option maxHeartbeats 2000000 in
set_option maxRecDepth 100000 in
theorem lifted (os : Os) (started : os.Started) (H : Type) (enc : TypeId × Value → H) :
    ReturnsInHanded {} Tryd.checked os 6 .any (fun w args => (Rows.xlOrdersSpec.pre enc Tryd.prog Tryd.f6 [] false w args ∧ laidMetH Tryd.prog Rows.xlOrdersRow.laid w) ∧ sizedMet enc Tryd.prog Tryd.f6 (OpenSpec.ofChange Rows.xlOrdersSpec) false w args)
      (Rows.xlOrdersSpec.post enc Tryd.prog Tryd.f6 false true false false) := by
  refine returnsInHanded_of_change_and (C := Tryd.checked) (X := fun w _ => laidMetH Tryd.prog Rows.xlOrdersRow.laid w) (fun _ _ _ hh h => h.of_heap hh) own started (by kernel_rfl) Tryd.func6
    (ChangeSpec.witness_shaped (enc := enc) (C := Tryd.checked) (os := os) (X := fun w _ => laidMetH Tryd.prog Rows.xlOrdersRow.laid w) false (World.doorLaid Tryd.prog 24 os) #[.agg #[.int .i64 0, .int .u32 0, .bool false, .bool false, .bool false, .bool false, .bool false, .int .u8 0, .int .u8 0, .int .u32 0, .slice none 0 0], .int .u32 0] 8 rfl (World.shaped_of_RefB (by kernel_rfl) (by kernel_rfl)) (by kernel_rfl) (by kernel_rfl) (by kernel_rfl) (door_met os _)) ?_
  intro W base args ds gs before hval0 hW _ hR hL _
  have hval : ∀ (j : Nat) t v, Tryd.f6.params[j]? = some t → args[j]? = some v → Value.okWide Tryd.prog W .any base t v := hval0
  have hW' := hW
  obtain ⟨p, q, hA0, hV, rfl, hfz, hnd⟩ := hW
  have hA : DataW.TrodAll enc Tryd.prog W 0 (fun _ => true) true Tryd.f6.params.toList args.toList ds p := hA0
  rw [Tryd.params6] at hA hval
  obtain ⟨v0, vs0, d0, ds0, p0, q0, hargs, rfl, rfl, h0, r0⟩ := trodAll_cons hA
  obtain ⟨v1, vs1, d1, ds1, p1, q1, rfl, rfl, rfl, h1, r1⟩ := trodAll_cons r0
  obtain ⟨rfl, rfl, rfl⟩ := trodAll_nil r1
  obtain rfl : args = #[v0, v1] := by cases args; simp_all
  obtain ⟨rfl, rfl⟩ := trodVars_none hV
  have k0 := h0
  have lt0 : ∀ x ∈ p0, x.block < W.heap.size := by obtain ⟨m, hm⟩ := k0; exact DataW.trod_lt m _ _ _ hm
  have k1 := h1
  have lt1 : ∀ x ∈ p1, x.block < W.heap.size := by obtain ⟨m, hm⟩ := k1; exact DataW.trod_lt m _ _ _ hm
  clear hA0
  obtain ⟨cs0, rfl, hz0⟩ := okWide_struct Tryd.underlying25 (hval 0 25 v0 rfl rfl)
  obtain ⟨c0_0, c0_1, c0_2, c0_3, c0_4, c0_5, c0_6, c0_7, c0_8, c0_9, c0_10, rfl⟩ := arr11 (hz0.trans (by kernel_rfl))
  obtain ⟨fu0, hf0⟩ := h0
  have hc0 : DataW.trod enc Tryd.prog W 0 (fun _ => true) true fu0 25 [c0_0, c0_1, c0_2, c0_3, c0_4, c0_5, c0_6, c0_7, c0_8, c0_9, c0_10] = some (d0, p0) := hf0
  obtain ⟨m0_0, y0_0, g0_0⟩ := open_fld Tryd.underlying25 hc0 0 _ rfl
  have t0_0 : DataW.trod enc Tryd.prog W 0 (fun _ => true) true m0_0 3 (([c0_0, c0_1, c0_2, c0_3, c0_4, c0_5, c0_6, c0_7, c0_8, c0_9, c0_10].drop 0).take (Tryd.prog.cellsOf 3)) = some y0_0 := g0_0
  rw [show Tryd.prog.cellsOf 3 = 1 from by kernel_rfl] at t0_0
  have u0_0 : DataW.trod enc Tryd.prog W 0 (fun _ => true) true m0_0 3 [c0_0] = some y0_0 := t0_0
  obtain ⟨m0_1, y0_1, g0_1⟩ := open_fld Tryd.underlying25 hc0 1 _ rfl
  have t0_1 : DataW.trod enc Tryd.prog W 0 (fun _ => true) true m0_1 22 (([c0_0, c0_1, c0_2, c0_3, c0_4, c0_5, c0_6, c0_7, c0_8, c0_9, c0_10].drop 1).take (Tryd.prog.cellsOf 22)) = some y0_1 := g0_1
  rw [show Tryd.prog.cellsOf 22 = 1 from by kernel_rfl] at t0_1
  have u0_1 : DataW.trod enc Tryd.prog W 0 (fun _ => true) true m0_1 22 [c0_1] = some y0_1 := t0_1
  obtain ⟨m0_2, y0_2, g0_2⟩ := open_fld Tryd.underlying25 hc0 2 _ rfl
  have t0_2 : DataW.trod enc Tryd.prog W 0 (fun _ => true) true m0_2 4 (([c0_0, c0_1, c0_2, c0_3, c0_4, c0_5, c0_6, c0_7, c0_8, c0_9, c0_10].drop 2).take (Tryd.prog.cellsOf 4)) = some y0_2 := g0_2
  rw [show Tryd.prog.cellsOf 4 = 1 from by kernel_rfl] at t0_2
  have u0_2 : DataW.trod enc Tryd.prog W 0 (fun _ => true) true m0_2 4 [c0_2] = some y0_2 := t0_2
  obtain ⟨m0_3, y0_3, g0_3⟩ := open_fld Tryd.underlying25 hc0 3 _ rfl
  have t0_3 : DataW.trod enc Tryd.prog W 0 (fun _ => true) true m0_3 4 (([c0_0, c0_1, c0_2, c0_3, c0_4, c0_5, c0_6, c0_7, c0_8, c0_9, c0_10].drop 3).take (Tryd.prog.cellsOf 4)) = some y0_3 := g0_3
  rw [show Tryd.prog.cellsOf 4 = 1 from by kernel_rfl] at t0_3
  have u0_3 : DataW.trod enc Tryd.prog W 0 (fun _ => true) true m0_3 4 [c0_3] = some y0_3 := t0_3
  obtain ⟨m0_4, y0_4, g0_4⟩ := open_fld Tryd.underlying25 hc0 4 _ rfl
  have t0_4 : DataW.trod enc Tryd.prog W 0 (fun _ => true) true m0_4 4 (([c0_0, c0_1, c0_2, c0_3, c0_4, c0_5, c0_6, c0_7, c0_8, c0_9, c0_10].drop 4).take (Tryd.prog.cellsOf 4)) = some y0_4 := g0_4
  rw [show Tryd.prog.cellsOf 4 = 1 from by kernel_rfl] at t0_4
  have u0_4 : DataW.trod enc Tryd.prog W 0 (fun _ => true) true m0_4 4 [c0_4] = some y0_4 := t0_4
  obtain ⟨m0_5, y0_5, g0_5⟩ := open_fld Tryd.underlying25 hc0 5 _ rfl
  have t0_5 : DataW.trod enc Tryd.prog W 0 (fun _ => true) true m0_5 4 (([c0_0, c0_1, c0_2, c0_3, c0_4, c0_5, c0_6, c0_7, c0_8, c0_9, c0_10].drop 5).take (Tryd.prog.cellsOf 4)) = some y0_5 := g0_5
  rw [show Tryd.prog.cellsOf 4 = 1 from by kernel_rfl] at t0_5
  have u0_5 : DataW.trod enc Tryd.prog W 0 (fun _ => true) true m0_5 4 [c0_5] = some y0_5 := t0_5
  obtain ⟨m0_6, y0_6, g0_6⟩ := open_fld Tryd.underlying25 hc0 6 _ rfl
  have t0_6 : DataW.trod enc Tryd.prog W 0 (fun _ => true) true m0_6 4 (([c0_0, c0_1, c0_2, c0_3, c0_4, c0_5, c0_6, c0_7, c0_8, c0_9, c0_10].drop 6).take (Tryd.prog.cellsOf 4)) = some y0_6 := g0_6
  rw [show Tryd.prog.cellsOf 4 = 1 from by kernel_rfl] at t0_6
  have u0_6 : DataW.trod enc Tryd.prog W 0 (fun _ => true) true m0_6 4 [c0_6] = some y0_6 := t0_6
  obtain ⟨m0_7, y0_7, g0_7⟩ := open_fld Tryd.underlying25 hc0 7 _ rfl
  have t0_7 : DataW.trod enc Tryd.prog W 0 (fun _ => true) true m0_7 5 (([c0_0, c0_1, c0_2, c0_3, c0_4, c0_5, c0_6, c0_7, c0_8, c0_9, c0_10].drop 7).take (Tryd.prog.cellsOf 5)) = some y0_7 := g0_7
  rw [show Tryd.prog.cellsOf 5 = 1 from by kernel_rfl] at t0_7
  have u0_7 : DataW.trod enc Tryd.prog W 0 (fun _ => true) true m0_7 5 [c0_7] = some y0_7 := t0_7
  obtain ⟨m0_8, y0_8, g0_8⟩ := open_fld Tryd.underlying25 hc0 8 _ rfl
  have t0_8 : DataW.trod enc Tryd.prog W 0 (fun _ => true) true m0_8 5 (([c0_0, c0_1, c0_2, c0_3, c0_4, c0_5, c0_6, c0_7, c0_8, c0_9, c0_10].drop 8).take (Tryd.prog.cellsOf 5)) = some y0_8 := g0_8
  rw [show Tryd.prog.cellsOf 5 = 1 from by kernel_rfl] at t0_8
  have u0_8 : DataW.trod enc Tryd.prog W 0 (fun _ => true) true m0_8 5 [c0_8] = some y0_8 := t0_8
  obtain ⟨m0_9, y0_9, g0_9⟩ := open_fld Tryd.underlying25 hc0 9 _ rfl
  have t0_9 : DataW.trod enc Tryd.prog W 0 (fun _ => true) true m0_9 22 (([c0_0, c0_1, c0_2, c0_3, c0_4, c0_5, c0_6, c0_7, c0_8, c0_9, c0_10].drop 9).take (Tryd.prog.cellsOf 22)) = some y0_9 := g0_9
  rw [show Tryd.prog.cellsOf 22 = 1 from by kernel_rfl] at t0_9
  have u0_9 : DataW.trod enc Tryd.prog W 0 (fun _ => true) true m0_9 22 [c0_9] = some y0_9 := t0_9
  obtain ⟨m0_10, y0_10, g0_10⟩ := open_fld Tryd.underlying25 hc0 10 _ rfl
  have t0_10 : DataW.trod enc Tryd.prog W 0 (fun _ => true) true m0_10 23 (([c0_0, c0_1, c0_2, c0_3, c0_4, c0_5, c0_6, c0_7, c0_8, c0_9, c0_10].drop 10).take (Tryd.prog.cellsOf 23)) = some y0_10 := g0_10
  rw [show Tryd.prog.cellsOf 23 = 1 from by kernel_rfl] at t0_10
  have u0_10 : DataW.trod enc Tryd.prog W 0 (fun _ => true) true m0_10 23 [c0_10] = some y0_10 := t0_10
  obtain ⟨a0_0, e0_0, x0_0, w0_0⟩ := DataW.trod_int Tryd.underlying3 u0_0
  obtain rfl : c0_0 = .int .i64 a0_0 := by simpa using e0_0
  obtain ⟨a0_1, e0_1, x0_1, w0_1⟩ := DataW.trod_int Tryd.underlying22 u0_1
  obtain rfl : c0_1 = .int .u32 a0_1 := by simpa using e0_1
  obtain ⟨a0_2, e0_2, x0_2⟩ := DataW.trod_bool Tryd.underlying4 u0_2
  obtain rfl : c0_2 = .bool a0_2 := by simpa using e0_2
  obtain ⟨a0_3, e0_3, x0_3⟩ := DataW.trod_bool Tryd.underlying4 u0_3
  obtain rfl : c0_3 = .bool a0_3 := by simpa using e0_3
  obtain ⟨a0_4, e0_4, x0_4⟩ := DataW.trod_bool Tryd.underlying4 u0_4
  obtain rfl : c0_4 = .bool a0_4 := by simpa using e0_4
  obtain ⟨a0_5, e0_5, x0_5⟩ := DataW.trod_bool Tryd.underlying4 u0_5
  obtain rfl : c0_5 = .bool a0_5 := by simpa using e0_5
  obtain ⟨a0_6, e0_6, x0_6⟩ := DataW.trod_bool Tryd.underlying4 u0_6
  obtain rfl : c0_6 = .bool a0_6 := by simpa using e0_6
  obtain ⟨a0_7, e0_7, x0_7, w0_7⟩ := DataW.trod_int Tryd.underlying5 u0_7
  obtain rfl : c0_7 = .int .u8 a0_7 := by simpa using e0_7
  obtain ⟨a0_8, e0_8, x0_8, w0_8⟩ := DataW.trod_int Tryd.underlying5 u0_8
  obtain rfl : c0_8 = .int .u8 a0_8 := by simpa using e0_8
  obtain ⟨a0_9, e0_9, x0_9, w0_9⟩ := DataW.trod_int Tryd.underlying22 u0_9
  obtain rfl : c0_9 = .int .u32 a0_9 := by simpa using e0_9
  obtain ⟨a0_10, cap0_10, l0_10, e0_10, hb0_10, n0_10⟩ := bytes_open u0_10
  subst e0_10
  obtain ⟨a1, rfl, rfl, rfl, w1⟩ := open_int Tryd.underlying22 (hval 1 22 v1 rfl rfl) h1
  refine (walk W (both_of hL) a0_0 w0_0 a0_1 w0_1 a0_2 a0_3 a0_4 a0_5 a0_6 a0_7 w0_7 a0_8 w0_8 a0_9 w0_9 a0_10 cap0_10 l0_10 hb0_10 n0_10 a1 w1).mono fun e W' ⟨he, bel⟩ => ?_
  subst he
  exact ⟨_, rfl, _, _, _, [], _, [], hW', trodAll_mk1 (shut_bool Tryd.underlying4 _), (trodAll_cons_mk (Below.trod laidOut (by kernel_rfl) (of_decide_eq_true (by kernel_rfl)) k0 bel lt0) (trodAll_cons_mk (Below.trod laidOut (by kernel_rfl) (of_decide_eq_true (by kernel_rfl)) k1 bel lt1) trodAll_mk0)), rfl, bel.frame _, fun h => by cases h⟩

theorem over : Rows.xlOrdersRow.holds Tryd.pinned (OpenSpec.ofChange Rows.xlOrdersSpec) :=
  OpenClaim.holds_of_wide 6 Tryd.f6 rfl rfl rfl rfl rfl rfl rfl ⟨rfl, rfl, rfl, rfl, rfl⟩ rfl rfl rfl rfl rfl (by kernel_rfl) Tryd.func6 (by kernel_rfl)
    (of_decide_eq_true (by kernel_rfl)) (by unfold Func.isWrapper; first | (rw [if_pos (by decide +kernel)]; kernel_rfl) | (rw [if_neg (by decide +kernel)]; exact ⟨rfl, rfl⟩))
    (fun os started H enc _ => lifted os started H enc)

theorem plain (f : FuncId) (fn : Func) (hf : Tryd.pinned.checked.prog.funcNamed "omnibus/omnibuslaw08.XlOrders" = some f) (hfn : Tryd.pinned.checked.prog.funcs[f]? = some fn) :
    false = Tryd.pinned.checked.prog.looks [] ∧ ∀ (j : Nat) t, fn.params[j]? = some t → Tryd.pinned.checked.prog.wantsStandIn t = false := by
  obtain rfl : f = 6 := Option.some.inj ((show Tryd.prog.funcNamed "omnibus/omnibuslaw08.XlOrders" = some 6 by kernel_rfl).symm.trans hf) |>.symm
  obtain rfl : fn = Tryd.f6 := (Option.some.inj (Tryd.func6.symm.trans hfn)).symm
  refine ⟨by kernel_rfl, fun j t ht => ?_⟩
  rw [Tryd.params6] at ht
  have hm : t ∈ [25, 22] := by have := Array.mem_of_getElem? ht; simp at this ⊢; omega
  have hall : ([25, 22].all fun u => !Tryd.prog.wantsStandIn u) = true := by kernel_rfl
  exact (show Tryd.prog.wantsStandIn t = false by simpa using List.all_eq_true.1 hall t hm)
theorem proved : Rows.XlOrdersCardSaid :=
  Claim7.holds_tied_plain_at .later [] _ _ _ _ over (fun _ h => by cases h) (by kernel_rfl) (fun _ h => by cases h) xlOrders_row_tie rfl ⟨rfl, rfl⟩ (by kernel_rfl) rfl plain (by kernel_rfl)
#print axioms proved
end Go.Proofs.YtaaphbneidmciaaDoor.xlOrders
