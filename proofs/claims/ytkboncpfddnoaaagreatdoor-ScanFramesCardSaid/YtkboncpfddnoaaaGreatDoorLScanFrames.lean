/- For every frame, slot and row behind the law ScanFrames answers true and leaves its arguments as they were; the package's tables of kinds of sums and of longer sizes are tied to the program's text. No conditions. -/
import Derived.Test.YtkboncpfddnoaaaGreatDoorRows
import Derived.Test.YtkboncpfddnoaaaGreatDoorCards
import Derived.Test.YtkboncpfddnoaaaGreatDoorTie
import Derived.Test.YtkboncpfddnoaaaGreatDoorScA
import Derived.Test.YtkboncpfddnoaaaGreatDoorScB
import Derived.Test.YtkboncpfddnoaaaGreatDoorScL
import Derived.Test.YtkboncpfddnoaaaGreatDoorGa
import Derived.Test.YtkboncpfddnoaaaGreatDoorFrmE
import Derived.WalkKit
import Derived.ProofKit
import Derived.OpenShut
import Derived.ShutString
import Derived.ChangeOld
import Derived.Below
import Derived.Carry
import Derived.Lib.SmallJoins
import Derived.Deep.RegionWith
import Derived.Deep.RegionHeld3
import Derived.LaidMore
import Derived.LaidLaws
import Derived.Stop.Joined
import Derived.SevenTiedAt
namespace Go.Proofs.YtkboncpfddnoaaaGreatDoor.scanFrames
open Go.ChangeShapes Go.WideShapes Go.ChangeAt Go.RowKit Go.Joins
set_option linter.unusedVariables false
set_option linter.unusedSimpArgs false
theorem own : ownKnob Tryz.prog.godebug = none := by kernel_rfl
theorem laidOut : laidOutB Tryz.prog = true := by kernel_rfl
theorem arr11 {α : Type} {cs : Array α} (h : cs.size = 11) : ∃ c0 c1 c2 c3 c4 c5 c6 c7 c8 c9 c10, cs = #[c0, c1, c2, c3, c4, c5, c6, c7, c8, c9, c10] := by
  obtain ⟨l⟩ := cs
  match l, h with
  | [c0, c1, c2, c3, c4, c5, c6, c7, c8, c9, c10], _ => exact ⟨c0, c1, c2, c3, c4, c5, c6, c7, c8, c9, c10, rfl⟩
set_option maxHeartbeats 8000000 in
set_option maxRecDepth 100000 in
theorem walk (w : World) (hK : Both w) (a0_0 : Int) (w0_0 : (Lit.int .i64 a0_0).wf = true) (a0_1 : Int) (w0_1 : (Lit.int .u32 a0_1).wf = true) (a0_2 : Bool) (a0_3 : Bool) (a0_4 : Bool) (a0_5 : Bool) (a0_6 : Bool) (a0_7 : Int) (w0_7 : (Lit.int .u8 a0_7).wf = true) (a0_8 : Int) (w0_8 : (Lit.int .u8 a0_8).wf = true) (a0_9 : Int) (w0_9 : (Lit.int .u32 a0_9).wf = true) (a0_10 : Option Addr) (cap0_10 : Nat) (l0_10 : List Nat) (h0_10 : Bs w a0_10 cap0_10 l0_10) (n0_10 : a0_10 = none → cap0_10 = 0) (a1 : Bool) (a2 : Option Addr) (cap2 : Nat) (l2 : List Nat) (h2 : Bs w a2 cap2 l2) (n2 : a2 = none → cap2 = 0) :
    Calls Tryz.prog 4 #[.agg #[.int .i64 a0_0, .int .u32 a0_1, .bool a0_2, .bool a0_3, .bool a0_4, .bool a0_5, .bool a0_6, .int .u8 a0_7, .int .u8 a0_8, .int .u32 a0_9, .slice a0_10 l0_10.length cap0_10], .bool a1, .slice a2 l2.length cap2] w fun e w' => e = .returned (.bool true) ∧ Nb w w' := by
  have hL0 := h0_10.len
  have hL2 := h2.len
  have hW : WdX ⟨a0_0, a0_1, a0_2, a0_3, a0_4, a0_5, a0_6, a0_7, a0_8, a0_9⟩ := by
    simp [Lit.wf, IntKind.min, IntKind.max, IntKind.signed, IntKind.bits] at w0_1 w0_7 w0_8 w0_9
    simp only [WdX]
    omega
  have HK := Lib.hid hK
  have HA := Lib.hid h0_10
  have HB2 := Lib.hid h2
  have hbB := h0_10.hbyte
  have hn2 := Lib.hid n2
  have QF := Lib.hid (Blk.new w #[.int .i64 a0_0, .int .u32 a0_1, .bool a0_2, .bool a0_3, .bool a0_4, .bool a0_5, .bool a0_6, .int .u8 a0_7, .int .u8 a0_8, .int .u32 a0_9, .slice a0_10 l0_10.length cap0_10] 29)
  have M0 := Lib.hid (Nb.rfl.al (.cells #[.int .i64 a0_0, .int .u32 a0_1, .bool a0_2, .bool a0_3, .bool a0_4, .bool a0_5, .bool a0_6, .int .u8 a0_7, .int .u8 a0_8, .int .u32 a0_9, .slice a0_10 l0_10.length cap0_10] 29) : Nb w _)
  have F0 := Lib.hid (fun w' (n : Nb w w') => check5_any ⟨a0_0, a0_1, a0_2, a0_3, a0_4, a0_5, a0_6, a0_7, a0_8, a0_9⟩ a0_10 cap0_10 l0_10 w' (HA.out.below n) (HK.out.below n).2)
  have F1 := Lib.hid (fun w' (n : Nb w w') => wire9_any ⟨a0_0, a0_1, a0_2, a0_3, a0_4, a0_5, a0_6, a0_7, a0_8, a0_9⟩ a0_10 cap0_10 l0_10 w' (HA.out.below n) hW (HK.out.below n).1 (HK.out.below n).2)
  have F2 := Lib.hid (fun w' (n : Nb w w') => check_u a2 cap2 l2 w' (HB2.out.below n))
  clear hK h0_10 w0_0 w0_1 w0_7 w0_8 w0_9 n0_10 h2 n2
  cases hok : okF ⟨a0_0, a0_1, a0_2, a0_3, a0_4, a0_5, a0_6, a0_7, a0_8, a0_9⟩ l0_10 with
  | false =>
    rw [show checkN ⟨a0_0, a0_1, a0_2, a0_3, a0_4, a0_5, a0_6, a0_7, a0_8, a0_9⟩ l0_10 = 2 by simp [checkN, hok]] at F0
    clear hok F1 F2 hW hbB
    simp only [Hd.cs] at F0
    go_enter Tryz.func4, Tryz.ntmps4
    go_wp2_with fail
    refine (alive9_any _ (HK.out.below M0.out)).mono ?_
    rintro e w1 ⟨rfl, n1⟩
    have Q1 := Lib.hid (QF.out.nb n1)
    have M1 := Lib.hid (M0.out.tr n1)
    clear n1
    obtain ⟨c0, c1, c2, c3, c4, c5, c6, c7, c8, c9, c10⟩ := Q1.out.c11
    go_wp2_with fail
    refine (F0.out _ M1.out).mono ?_
    rintro e w2 ⟨rfl, n2⟩
    have Q2 := Lib.hid (Q1.out.nb n2)
    have M2 := Lib.hid (M1.out.tr n2)
    clear n2 c0 c1 c2 c3 c4 c5 c6 c7 c8 c9 c10
    obtain ⟨c0, c1, c2, c3, c4, c5, c6, c7, c8, c9, c10⟩ := Q2.out.c11
    go_wp2
    go_ret
    exact ⟨rfl, M2.out⟩
  | true =>
    rw [show checkN ⟨a0_0, a0_1, a0_2, a0_3, a0_4, a0_5, a0_6, a0_7, a0_8, a0_9⟩ l0_10 = 0 by simp [checkN, hok]] at F0
    rw [erF_of, if_pos hok] at F1
    simp only [Hd.cs] at F0 F1
    by_cases h300 : 300 < l0_10.length
    · have d1 : decide (300 < (l0_10.length : Int)) = true := decide_eq_true (by omega)
      clear hok F1 F2 hW hbB h300
      go_enter Tryz.func4, Tryz.ntmps4
      go_wp2_with fail
      refine (alive9_any _ (HK.out.below M0.out)).mono ?_
      rintro e w1 ⟨rfl, n1⟩
      have Q1 := Lib.hid (QF.out.nb n1)
      have M1 := Lib.hid (M0.out.tr n1)
      clear n1
      obtain ⟨c0, c1, c2, c3, c4, c5, c6, c7, c8, c9, c10⟩ := Q1.out.c11
      go_wp2_with fail
      refine (F0.out _ M1.out).mono ?_
      rintro e w2 ⟨rfl, n2⟩
      have Q2 := Lib.hid (Q1.out.nb n2)
      have M2 := Lib.hid (M1.out.tr n2)
      clear n2 c0 c1 c2 c3 c4 c5 c6 c7 c8 c9 c10
      obtain ⟨c0, c1, c2, c3, c4, c5, c6, c7, c8, c9, c10⟩ := Q2.out.c11
      go_wp2
      go_ret
      exact ⟨rfl, M2.out⟩
    have d1 : decide (300 < (l0_10.length : Int)) = false := decide_eq_false (by omega)
    clear h300
    by_cases h100 : 100 < l2.length
    · have d2 : decide (100 < (l2.length : Int)) = true := decide_eq_true (by omega)
      clear hok F1 F2 hW hbB h100
      go_enter Tryz.func4, Tryz.ntmps4
      go_wp2_with fail
      refine (alive9_any _ (HK.out.below M0.out)).mono ?_
      rintro e w1 ⟨rfl, n1⟩
      have Q1 := Lib.hid (QF.out.nb n1)
      have M1 := Lib.hid (M0.out.tr n1)
      clear n1
      obtain ⟨c0, c1, c2, c3, c4, c5, c6, c7, c8, c9, c10⟩ := Q1.out.c11
      go_wp2_with fail
      refine (F0.out _ M1.out).mono ?_
      rintro e w2 ⟨rfl, n2⟩
      have Q2 := Lib.hid (Q1.out.nb n2)
      have M2 := Lib.hid (M1.out.tr n2)
      clear n2 c0 c1 c2 c3 c4 c5 c6 c7 c8 c9 c10
      obtain ⟨c0, c1, c2, c3, c4, c5, c6, c7, c8, c9, c10⟩ := Q2.out.c11
      go_wp2
      go_ret
      exact ⟨rfl, M2.out⟩
    have d2 : decide (100 < (l2.length : Int)) = false := decide_eq_false (by omega)
    have hl2 : l2.length ≤ 100 := by omega
    clear h100
    cases hc2 : chk l2 with
    | false =>
      rw [show chkE l2 = 2 by simp [chkE, hc2]] at F2
      clear hok F1 hW hbB hc2
      go_enter Tryz.func4, Tryz.ntmps4
      go_wp2_with fail
      refine (alive9_any _ (HK.out.below M0.out)).mono ?_
      rintro e w1 ⟨rfl, n1⟩
      have Q1 := Lib.hid (QF.out.nb n1)
      have M1 := Lib.hid (M0.out.tr n1)
      clear n1
      obtain ⟨c0, c1, c2, c3, c4, c5, c6, c7, c8, c9, c10⟩ := Q1.out.c11
      go_wp2_with fail
      refine (F0.out _ M1.out).mono ?_
      rintro e w2 ⟨rfl, n2⟩
      have Q2 := Lib.hid (Q1.out.nb n2)
      have M2 := Lib.hid (M1.out.tr n2)
      clear n2 c0 c1 c2 c3 c4 c5 c6 c7 c8 c9 c10
      obtain ⟨c0, c1, c2, c3, c4, c5, c6, c7, c8, c9, c10⟩ := Q2.out.c11
      go_wp2_with fail
      refine (F2.out _ M2.out).mono ?_
      rintro e w3 ⟨rfl, rfl⟩
      go_wp2
      go_ret
      exact ⟨rfl, M2.out⟩
    | true =>
      rw [show chkE l2 = 0 by simp [chkE, hc2]] at F2
      obtain ⟨e1, e2, e3, e4, e5, e6, e7, hc⟩ := wF_of hok hW hbB
      obtain ⟨R, hR⟩ : ∃ R, (rawF ⟨a0_0, a0_1, a0_2, a0_3, a0_4, a0_5, a0_6, a0_7, a0_8, a0_9⟩ l0_10).length = R := ⟨_, rfl⟩
      have hbits := chk_bit hc
      have hl6 := chk_len hc
      obtain ⟨av, hav, hav1⟩ : ∃ av : Nat, av = (if a1 = true then 0 else 1) ∧ av ≤ 1 := ⟨_, rfl, by split <;> omega⟩
      obtain ⟨V, hV⟩ : ∃ V, V = rawF ⟨a0_0, a0_1, a0_2, a0_3, a0_4, a0_5, a0_6, a0_7, a0_8, a0_9⟩ l0_10 ++ ([1, av] ++ ones 8) := ⟨_, rfl⟩
      have hWV : V = if a1 = true then (wF ⟨a0_0, a0_1, a0_2, a0_3, a0_4, a0_5, a0_6, a0_7, a0_8, a0_9⟩ l0_10).set (R + 1) 0 else wF ⟨a0_0, a0_1, a0_2, a0_3, a0_4, a0_5, a0_6, a0_7, a0_8, a0_9⟩ l0_10 := by
        rw [hV, hav, e1]
        cases a1
        · rfl
        · rw [if_pos rfl, if_pos rfl, List.set_append_right _ _ (by omega), hR, show R + 1 - R = 1 by omega]
          rfl
      have hVl : V.length = R + 10 := by rw [hV, List.length_append, hR]; rfl
      have hWl : (wF ⟨a0_0, a0_1, a0_2, a0_3, a0_4, a0_5, a0_6, a0_7, a0_8, a0_9⟩ l0_10).length = R + 10 := by rw [e1, List.length_append, ones_len, hR]
      have hVb : ∀ x ∈ V, x ≤ 1 := by
        intro x hx
        rw [hV] at hx
        rcases List.mem_append.1 hx with hx | hx
        · exact e5 x hx
        · rcases List.mem_append.1 hx with hx | hx
          · simp only [List.mem_cons, List.not_mem_nil, or_false] at hx
            omega
          · exact ones_bit _ x hx
      obtain ⟨s1, s2, s3, s4⟩ := sc_wire e6 hav1
      rw [← hV, hR] at s1 s2 s3 s4
      have SM := Lib.hid (fun w' (a' : Option Addr) (c' : Nat) (n : Nb w w') (h : Bs w' a' c' l0_10) => by
        have := same5_any ⟨a0_0, a0_1, a0_2, a0_3, a0_4, a0_5, a0_6, a0_7, a0_8, a0_9⟩ ⟨a0_0, a0_1, a0_2, a0_3, a0_4, a0_5, a0_6, a0_7, a0_8, a0_9⟩ a' a0_10 c' cap0_10 l0_10 l0_10 w' h (HA.out.below n)
        rw [sameF_rfl] at this
        exact this)
      have hchF : chk (V.take (R + 9) ++ l2) = true := chk_of (fun x hx => by
        rcases List.mem_append.1 hx with hx | hx
        · exact hVb x (List.mem_of_mem_take hx)
        · exact chk_bit hc2 x hx) (by rw [List.length_append, List.length_take]; omega)
      have hfin : rowS true (V.take (R + 9) ++ l2) = doneS ⟨a0_0, a0_1, a0_2, a0_3, a0_4, a0_5, a0_6, a0_7, a0_8, a0_9⟩ l0_10 := by rw [rowS_of hchF, sc_stay s4]; rfl
      have S9 := Lib.hid (fun w' (a' : Option Addr) (c' : Nat) (n : Nb w w') (h : Bs w' a' c' (V.take (R + 9) ++ l2)) => by
        have := scan9_any true a' c' _ w' h (HK.out.below n)
        rw [hfin, chkE, if_pos hchF] at this
        exact this)
      obtain ⟨L9, hL9⟩ : ∃ L9, V.take (R + 9) ++ l2 = L9 := ⟨_, rfl⟩
      rw [hL9] at S9
      have EL9 := Lib.hid hL9
      have HL9 := Lib.hid (show L9.length ≤ 70000 by rw [← hL9, List.length_append, List.length_take]; omega)
      clear hL9
      have T1 := Lib.hid s1
      have T2 := Lib.hid s2
      have T3 := Lib.hid s3
      have T4 := Lib.hid (show staOf (scS true (V.take (R + 9))) = doneS ⟨a0_0, a0_1, a0_2, a0_3, a0_4, a0_5, a0_6, a0_7, a0_8, a0_9⟩ l0_10 by rw [s4]; rfl)
      have HVL := Lib.hid hVl
      have HVB := Lib.hid hVb
      have HWL := Lib.hid hWl
      have HWV := Lib.hid hWV
      rw [e2, hR] at F1
      have hR3 : 34 ≤ R := by omega
      have hR4 : R ≤ 60000 := by omega
      have hwb1 : 44 ≤ (wF ⟨a0_0, a0_1, a0_2, a0_3, a0_4, a0_5, a0_6, a0_7, a0_8, a0_9⟩ l0_10).length := by omega
      have hwb2 : (wF ⟨a0_0, a0_1, a0_2, a0_3, a0_4, a0_5, a0_6, a0_7, a0_8, a0_9⟩ l0_10).length ≤ 70000 := by omega
      have hwi : ((R : Int) + 1) < ((wF ⟨a0_0, a0_1, a0_2, a0_3, a0_4, a0_5, a0_6, a0_7, a0_8, a0_9⟩ l0_10).length : Int) := by omega
      have eW1 : ((wF ⟨a0_0, a0_1, a0_2, a0_3, a0_4, a0_5, a0_6, a0_7, a0_8, a0_9⟩ l0_10).length : Int) - 1 = (R : Int) + 9 := by omega
      have eW2 : ((wF ⟨a0_0, a0_1, a0_2, a0_3, a0_4, a0_5, a0_6, a0_7, a0_8, a0_9⟩ l0_10).length : Int) - 2 = (R : Int) + 8 := by omega
      simp only [Hd.cs] at SM
      clear e1 e2 e3 e4 e5 e6 e7 hc hR hbits hl6 hav hav1 hV hWV hVl hVb hWl s1 s2 s3 s4 hchF hfin hok hW hbB hc2
      generalize wF ⟨a0_0, a0_1, a0_2, a0_3, a0_4, a0_5, a0_6, a0_7, a0_8, a0_9⟩ l0_10 = W at *
      generalize arbF ⟨a0_0, a0_1, a0_2, a0_3, a0_4, a0_5, a0_6, a0_7, a0_8, a0_9⟩ l0_10 = N at *
      go_enter Tryz.func4, Tryz.ntmps4
      go_wp2_with fail
      refine (alive9_any _ (HK.out.below M0.out)).mono ?_
      rintro e w1 ⟨rfl, n1⟩
      have Q1 := Lib.hid (QF.out.nb n1)
      have M1 := Lib.hid (M0.out.tr n1)
      clear n1
      obtain ⟨c0, c1, c2, c3, c4, c5, c6, c7, c8, c9, c10⟩ := Q1.out.c11
      go_wp2_with fail
      refine (F0.out _ M1.out).mono ?_
      rintro e w2 ⟨rfl, n2⟩
      have Q2 := Lib.hid (Q1.out.nb n2)
      have M2 := Lib.hid (M1.out.tr n2)
      clear n2 c0 c1 c2 c3 c4 c5 c6 c7 c8 c9 c10
      obtain ⟨c0, c1, c2, c3, c4, c5, c6, c7, c8, c9, c10⟩ := Q2.out.c11
      go_wp2_with fail
      refine (F2.out _ M2.out).mono ?_
      rintro e w2' ⟨rfl, rfl⟩
      go_wp2_with fail
      refine (F1.out _ M2.out).mono ?_
      rintro e w3 ⟨⟨a3, k3, rfl, f3⟩, n3⟩
      obtain ⟨g, k3', he3⟩ := f3.1.shape (by omega)
      simp only [Value.slice.injEq, true_and] at he3
      obtain ⟨rfl, rfl⟩ := he3
      have M3 := Lib.hid (M2.out.tr n3)
      have Q3 := Lib.hid (Q2.out.nb n3)
      have lt3 : w.heap.size < w3.heap.size := Q3.out.lt
      have O3 := Lib.hid f3
      have hg2 : w2.heap.size ≤ g := f3.2 g rfl
      have hs2 := M2.out.size
      have hw2 : w.heap.size < w2.heap.size := Q2.out.lt
      have lg : g < w3.heap.size := f3.1.lt (g := g) rfl
      have z0 := f3.1.cell (R + 1) (by have := HWL.out; omega)
      have z1 : w3.frozen? ⟨g, R + 1, none⟩ = false := f3.1.frozen (g := g) rfl _
      clear n3 f3 c0 c1 c2 c3 c4 c5 c6 c7 c8 c9 c10
      have fin : ∀ (w4 : World) (hn : Nb w w4) (hq : Blk w4 w.heap.size #[.int .i64 a0_0, .int .u32 a0_1, .bool a0_2, .bool a0_3, .bool a0_4, .bool a0_5, .bool a0_6, .int .u8 a0_7, .int .u8 a0_8, .int .u32 a0_9, .slice a0_10 l0_10.length cap0_10] 29) (hy : Blk w4 w3.heap.size #[.slice (some ⟨g, 0, none⟩) W.length k3, .int .i64 N, .int .i64 ((R : Int) + 1)] 43) (ho : OwnB w4 (.slice (some ⟨g, 0, none⟩) W.length k3) V), True := fun _ _ _ _ _ => trivial
      clear fin
      cases a1 with
      | false =>
        rw [if_neg (by simp)] at HWV
        go_wp2_with fail
        obtain ⟨w4, hw4⟩ : ∃ w4, w4 = w3.alloc (.cells #[.slice (some ⟨g, 0, none⟩) W.length k3, .int .i64 N, .int .i64 ((R : Int) + 1)] 43) := ⟨_, rfl⟩
        have n34 : Nb w3 w4 := by rw [hw4]; exact Nb.rfl.al _
        have Y4 := Lib.hid (show Blk w4 w3.heap.size #[.slice (some ⟨g, 0, none⟩) W.length k3, .int .i64 N, .int .i64 ((R : Int) + 1)] 43 by rw [hw4]; exact Blk.new _ _ _)
        have M4 := Lib.hid (M3.out.tr n34)
        have Q4 := Lib.hid (Q3.out.nb n34)
        have O4 := Lib.hid (show OwnB w4 (.slice (some ⟨g, 0, none⟩) W.length k3) V by rw [HWV.out]; exact (O3.out.keep n34).1)
        rw [← hw4]
        clear hw4 n34 z0 z1
        refine (new9_any true w4 (HK.out.below M4.out)).mono ?_
        rintro e w5 ⟨⟨v, F, rfl, hm, hF⟩, n5⟩
        have HM := Lib.hid hm
        have HF := Lib.hid hF
        have N5 := Lib.hid n5
        obtain ⟨y0, y1, y2⟩ := (Y4.out.nb n5).c3
        have hcut := run_cutH (some ⟨g, 0, none⟩) W.length k3 (R + 9) (by have := O4.out.asBs.1.hcap; have := HVL.out; omega)
        have hq1 : R + 9 ≤ k3 := by have := O4.out.asBs.1.hcap; have := HVL.out; omega
        have hq3 : k3 ≤ 9223372036854775807 := by have := O4.out.asBs.1.hmax; unfold maxLen at this; omega
        rw [show ((R + 9 : Nat) : Int) = (R : Int) + 9 by omega] at hcut
        clear n5 hm hF
        go_wp2
        go_loopw [60] (fun ix wr => ∃ j : Nat, j ≤ R + 9 ∧ ix = .int .i64 j ∧ ∃ Fj, MachAt wr v true (V.take j) Fj ∧ Kp F w5 wr ∧ ∀ k, Fj k → F k ∨ w5.heap.size ≤ k) (fun ix _ => R + 9 - (intOf ix).toNat)
        case atStart => exact ⟨0, Nat.zero_le _, rfl, F, HM.out, Kp.rfl, fun _ h => .inl h⟩
        case round =>
          obtain ⟨j, hj, rfl, Fj, hmj, hkj, hfj⟩ := hrel
          have NJ := Lib.hid (show Nb w4 wr from N5.out.trans (hkj.toBelow N5.out.size HF.out))
          have HMJ := Lib.hid hmj
          have HKJ := Lib.hid hkj
          have HFJ := Lib.hid hfj
          have MJ := Lib.hid (M4.out.tr NJ.out)
          have OJ := Lib.hid (O4.out.keep (F := fun _ => False) (Kp.ofNb NJ.out) (by simp))
          clear hmj hkj hfj y0 y1 y2
          obtain ⟨y0, y1, y2⟩ := (Y4.out.nb NJ.out).c3
          by_cases hlt : j < R + 9
          · have z0 := OJ.out.cell j (by have := HVL.out; omega)
            have hjW : (j : Int) < (R : Int) + 9 := by omega
            obtain ⟨b, hb⟩ : ∃ b, V.getD j 0 = b := ⟨_, rfl⟩
            have hb1 : b ≤ 1 := by
              rw [← hb]
              exact HVB.out _ (List.mem_of_getElem? (i := j) (by simp [List.getD, List.getElem?_eq_getElem (show j < V.length by have := HVL.out; omega)]))
            have etk : V.take j ++ [b] = V.take (j + 1) := (take_snoc' (by rw [← hb]; simp [List.getD, List.getElem?_eq_getElem (show j < V.length by have := HVL.out; omega)])).symm
            rw [hb] at z0
            have SEE := Lib.hid (see9_any v true (V.take j) Fj b wr HMJ.out hb1 (by rw [List.length_take]; omega) (HK.out.below MJ.out))
            have ETK := Lib.hid etk
            have lty : w3.heap.size < wr.heap.size := (Y4.out.nb NJ.out).lt
            have ltq : w.heap.size < wr.heap.size := (Q4.out.nb NJ.out).lt
            clear etk hb
            go_wp2_with fail
            refine SEE.out.mono ?_
            rintro e wx ⟨F', ⟨a', c', rfl, bs, _⟩, hm', hk', hf'⟩
            rw [ETK.out] at bs hm' ⊢
            have NX := Lib.hid (show Nb w4 wx from N5.out.trans ((HKJ.out.tr hk' HFJ.out).toBelow N5.out.size HF.out))
            have MX := Lib.hid (M4.out.tr NX.out)
            have KX := Lib.hid (HKJ.out.tr hk' HFJ.out)
            have FX := Lib.hid (show ∀ k, F' k → F k ∨ w5.heap.size ≤ k from fun k h => by
              rcases hf' k h with h | h
              · exact HFJ.out k h
              · exact .inr (Nat.le_trans HKJ.out.size h))
            have HX := Lib.hid hm'
            have hsx : wr.heap.size ≤ wx.heap.size := hk'.size
            have BX := Lib.hid bs
            obtain ⟨y0, y1, y2⟩ := (Y4.out.nb NX.out).c3
            obtain ⟨c0, c1, c2, c3, c4, c5, c6, c7, c8, c9, c10⟩ := (Q4.out.nb NX.out).c11
            clear hk' hf' hm' bs SEE ETK z0
            have lty' : w3.heap.size < wx.heap.size := (Y4.out.nb NX.out).lt
            have ltq' : w.heap.size < wx.heap.size := (Q4.out.nb NX.out).lt
            rcases (by omega : j + 1 ≤ R ∨ j = R ∨ (R + 2 ≤ j + 1 ∧ j + 1 ≤ R + 8) ∨ j = R + 8) with hc | hc | hc | hc
            · rw [T1.out (j + 1) hc]
              have dA : ((j : Int) == (R : Int)) = false := by first | (rw [beq_iff_eq]; omega) | (rw [beq_eq_false_iff_ne]; omega)
              have dB : ((j : Int) == (R : Int) + 8) = false := by first | (rw [beq_iff_eq]; omega) | (rw [beq_eq_false_iff_ne]; omega)
              simp only [staV, moreS, slotS, noF]
              clear hc
              go_wp2
              go_roundw
              case rel => exact ⟨j + 1, by omega, by go_num, F', mach_keep HX.out (Kp.alloc (F := fun _ => False)) (fun _ _ h => h), KX.out.tr (Kp.alloc (F := fun _ => False)) (fun _ h => h.elim), FX.out⟩
              case measure => simp [intOf]; try omega
            · subst hc
              rw [T2.out]
              have dB : ((j : Int) == (j : Int) + 8) = false := by rw [beq_eq_false_iff_ne]; omega
              simp only [staV, moreS, slotS, noF]
              go_wp2
              go_roundw
              case rel => exact ⟨j + 1, by omega, by go_num, F', mach_keep HX.out (Kp.alloc (F := fun _ => False)) (fun _ _ h => h), KX.out.tr (Kp.alloc (F := fun _ => False)) (fun _ h => h.elim), FX.out⟩
              case measure => simp [intOf]; try omega
            · rw [show j + 1 = R + (j + 1 - R) by omega, T3.out (j + 1 - R) (by omega) (by omega)]
              have dA : ((j : Int) == (R : Int)) = false := by first | (rw [beq_iff_eq]; omega) | (rw [beq_eq_false_iff_ne]; omega)
              have dB : ((j : Int) == (R : Int) + 8) = false := by first | (rw [beq_iff_eq]; omega) | (rw [beq_eq_false_iff_ne]; omega)
              simp only [staV, moreS, slotS, noF]
              clear hc
              go_wp2
              go_roundw
              case rel => exact ⟨j + 1, by omega, by go_num, F', mach_keep HX.out (Kp.alloc (F := fun _ => False)) (fun _ _ h => h), KX.out.tr (Kp.alloc (F := fun _ => False)) (fun _ h => h.elim), FX.out⟩
              case measure => simp [intOf]; try omega
            · subst hc
              rw [show R + 8 + 1 = R + 9 from rfl, T4.out] at BX ⊢
              simp only [staV, doneS]
              obtain ⟨wy, hwy⟩ : ∃ wy, wy = wx.alloc (.cells #[.int .i64 2, .int .i64 0, .int .i64 a0_0, .int .u32 a0_1, .bool a0_2, .bool a0_3, .bool a0_4, .bool a0_5, .bool a0_6, .int .u8 a0_7, .int .u8 a0_8, .int .u32 a0_9, .slice a' l0_10.length c'] 31) := ⟨_, rfl⟩
              have nxy : Nb wx wy := by rw [hwy]; exact Nb.rfl.al _
              have XY := Lib.hid (show Blk wy wx.heap.size #[.int .i64 2, .int .i64 0, .int .i64 a0_0, .int .u32 a0_1, .bool a0_2, .bool a0_3, .bool a0_4, .bool a0_5, .bool a0_6, .int .u8 a0_7, .int .u8 a0_8, .int .u32 a0_9, .slice a' l0_10.length c'] 31 by rw [hwy]; exact Blk.new _ _ _)
              have MY := Lib.hid (MX.out.tr nxy)
              have BY := Lib.hid (show Bs wy a' c' l0_10 from BX.out.below nxy)
              have NXY := Lib.hid nxy
              have EY := Lib.hid hwy
              clear y0 y1 y2 c0 c1 c2 c3 c4 c5 c6 c7 c8 c9 c10
              obtain ⟨c0, c1, c2, c3, c4, c5, c6, c7, c8, c9, c10⟩ := ((Q4.out.nb NX.out).nb nxy).c11
              obtain ⟨y0, y1, y2⟩ := ((Y4.out.nb NX.out).nb nxy).c3
              obtain ⟨x0, x1, x2, x3, x4, x5, x6, x7, x8, x9, x10, x11, x12⟩ := XY.out.c13
              rw [hwy] at c0 c1 c2 c3 c4 c5 c6 c7 c8 c9 c10 y0 y1 y2 x0 x1 x2 x3 x4 x5 x6 x7 x8 x9 x10 x11 x12
              clear hwy nxy
              have dA : ((R : Int) + 8 == (R : Int)) = false := by rw [beq_eq_false_iff_ne]; omega
              go_wp2_with fail
              rw [← EY.out]
              refine (SM.out _ a' c' MY.out BY.out).mono ?_
              rintro e wz ⟨rfl, nz⟩
              have NZ := Lib.hid (NXY.out.tr nz)
              clear nz x0 x1 x2 x3 x4 x5 x6 x7 x8 x9 x10 x11 x12
              go_wp2
              go_roundw
              case rel => exact ⟨R + 8 + 1, by omega, by go_num, F', mach_keep HX.out (Kp.ofNb (F := fun _ => False) NZ.out) (fun _ _ h => h), KX.out.tr (Kp.ofNb (F := fun _ => False) NZ.out) (fun _ h => h.elim), FX.out⟩
              case measure => simp [intOf]; try omega
          · obtain rfl : j = R + 9 := by omega
            have hown := OJ.out.shorter (k := R + 9) (by have := HVL.out; omega)
            have hb2 := HB2.out.below MJ.out
            have hnn : a2 = none → l2.length = 0 ∧ cap2 = 0 := fun h0 => ⟨by have := hb2; subst h0; rw [this.none_len]; rfl, hn2.out h0⟩
            have QJ := Lib.hid (Q4.out.nb NJ.out)
            clear HMJ HKJ HFJ
            go_wp2_with (at_builtin; refine wpList_appB _ rfl (.tmp 115) (.tmp 116) rfl (.slice (some ⟨g, 0, none⟩) (R + 9) k3) (V.take (R + 9)) rfl hown a2 cap2 l2 l2.length rfl rfl hb2 hnn (by rw [List.length_take]; omega) ?_)
            intro v2 wq ho hkq hgq
            rw [EL9.out] at ho
            have NQ := Lib.hid (show Nb w wq from MJ.out.trans (hkq.toBelow MJ.out.size (fun k hk => by simp [Value.ownBlock] at hk; omega)))
            have QQ := Lib.hid (QJ.out.keep hkq (by simp [Value.ownBlock]; omega))
            obtain ⟨aq, cq, rfl, bq, _⟩ := ho.bs
            have BQ := Lib.hid bq
            clear ho hkq hgq bq hown hb2 hnn y0 y1 y2
            go_wp2_with fail
            refine (S9.out _ aq cq NQ.out BQ.out).mono ?_
            rintro e wt ⟨⟨at2, ct, rfl, bt⟩, nt⟩
            have NT := Lib.hid (NQ.out.tr nt)
            have QT := Lib.hid (QQ.out.nb nt)
            have ltt : w.heap.size < wt.heap.size := QT.out.lt
            clear nt
            simp only [staV, doneS]
            obtain ⟨wy, hwy⟩ : ∃ wy, wy = wt.alloc (.cells #[.int .i64 2, .int .i64 0, .int .i64 a0_0, .int .u32 a0_1, .bool a0_2, .bool a0_3, .bool a0_4, .bool a0_5, .bool a0_6, .int .u8 a0_7, .int .u8 a0_8, .int .u32 a0_9, .slice at2 l0_10.length ct] 31) := ⟨_, rfl⟩
            have nty : Nb wt wy := by rw [hwy]; exact Nb.rfl.al _
            have XY := Lib.hid (show Blk wy wt.heap.size #[.int .i64 2, .int .i64 0, .int .i64 a0_0, .int .u32 a0_1, .bool a0_2, .bool a0_3, .bool a0_4, .bool a0_5, .bool a0_6, .int .u8 a0_7, .int .u8 a0_8, .int .u32 a0_9, .slice at2 l0_10.length ct] 31 by rw [hwy]; exact Blk.new _ _ _)
            have MY := Lib.hid (NT.out.tr nty)
            have BY := Lib.hid (show Bs wy at2 ct l0_10 from bt.below nty)
            have EY := Lib.hid hwy
            obtain ⟨c0, c1, c2, c3, c4, c5, c6, c7, c8, c9, c10⟩ := (QT.out.nb nty).c11
            obtain ⟨x0, x1, x2, x3, x4, x5, x6, x7, x8, x9, x10, x11, x12⟩ := XY.out.c13
            rw [hwy] at c0 c1 c2 c3 c4 c5 c6 c7 c8 c9 c10 x0 x1 x2 x3 x4 x5 x6 x7 x8 x9 x10 x11 x12
            clear hwy nty bt
            go_wp2_with fail
            rw [← EY.out]
            refine (SM.out _ at2 ct MY.out BY.out).mono ?_
            rintro e wz ⟨rfl, nz⟩
            have MZ := Lib.hid (MY.out.tr nz)
            clear nz
            go_wp2
            go_ret
            exact ⟨rfl, MZ.out⟩
      | true =>
        rw [if_pos rfl] at HWV
        go_wp2_with fail
        have hO := O3.out.1.setByte (g := g) rfl (R + 1) (by have := HWL.out; omega) 0 (by omega)
        obtain ⟨w4, hw4⟩ : ∃ w4, w4 = (w3.setCell ⟨g, R + 1, none⟩ (.int .u8 0)).alloc (.cells #[.slice (some ⟨g, 0, none⟩) W.length k3, .int .i64 N, .int .i64 ((R : Int) + 1)] 43) := ⟨_, rfl⟩
        have hsz : (w3.setCell ⟨g, R + 1, none⟩ (.int .u8 0)).heap.size = w3.heap.size := by simp [World.setCell]
        have yb := Blk.new (w3.setCell ⟨g, R + 1, none⟩ (.int .u8 0)) #[.slice (some ⟨g, 0, none⟩) W.length k3, .int .i64 N, .int .i64 ((R : Int) + 1)] 43
        rw [hsz, ← hw4] at yb
        have Y4 := Lib.hid yb
        have M4 := Lib.hid (show Nb w w4 by rw [hw4]; exact (M3.out.st (by show w.heap.size ≤ g; omega) _).al _)
        have Q4 := Lib.hid (show Blk w4 w.heap.size _ 29 by rw [hw4]; exact (Q3.out.other (p := ⟨g, R + 1, none⟩) (by show w.heap.size ≠ g; omega) _).nb (Nb.rfl.al _))
        have O4 := Lib.hid (show OwnB w4 (.slice (some ⟨g, 0, none⟩) W.length k3) V by rw [HWV.out, hw4]; exact hO.keep (F := fun _ => False) Kp.alloc (by simp))
        rw [← hw4]
        clear hw4 yb hsz hO z0 z1
        refine (new9_any true w4 (HK.out.below M4.out)).mono ?_
        rintro e w5 ⟨⟨v, F, rfl, hm, hF⟩, n5⟩
        have HM := Lib.hid hm
        have HF := Lib.hid hF
        have N5 := Lib.hid n5
        obtain ⟨y0, y1, y2⟩ := (Y4.out.nb n5).c3
        have hcut := run_cutH (some ⟨g, 0, none⟩) W.length k3 (R + 9) (by have := O4.out.asBs.1.hcap; have := HVL.out; omega)
        have hq1 : R + 9 ≤ k3 := by have := O4.out.asBs.1.hcap; have := HVL.out; omega
        have hq3 : k3 ≤ 9223372036854775807 := by have := O4.out.asBs.1.hmax; unfold maxLen at this; omega
        rw [show ((R + 9 : Nat) : Int) = (R : Int) + 9 by omega] at hcut
        clear n5 hm hF
        go_wp2
        go_loopw [60] (fun ix wr => ∃ j : Nat, j ≤ R + 9 ∧ ix = .int .i64 j ∧ ∃ Fj, MachAt wr v true (V.take j) Fj ∧ Kp F w5 wr ∧ ∀ k, Fj k → F k ∨ w5.heap.size ≤ k) (fun ix _ => R + 9 - (intOf ix).toNat)
        case atStart => exact ⟨0, Nat.zero_le _, rfl, F, HM.out, Kp.rfl, fun _ h => .inl h⟩
        case round =>
          obtain ⟨j, hj, rfl, Fj, hmj, hkj, hfj⟩ := hrel
          have NJ := Lib.hid (show Nb w4 wr from N5.out.trans (hkj.toBelow N5.out.size HF.out))
          have HMJ := Lib.hid hmj
          have HKJ := Lib.hid hkj
          have HFJ := Lib.hid hfj
          have MJ := Lib.hid (M4.out.tr NJ.out)
          have OJ := Lib.hid (O4.out.keep (F := fun _ => False) (Kp.ofNb NJ.out) (by simp))
          clear hmj hkj hfj y0 y1 y2
          obtain ⟨y0, y1, y2⟩ := (Y4.out.nb NJ.out).c3
          by_cases hlt : j < R + 9
          · have z0 := OJ.out.cell j (by have := HVL.out; omega)
            have hjW : (j : Int) < (R : Int) + 9 := by omega
            obtain ⟨b, hb⟩ : ∃ b, V.getD j 0 = b := ⟨_, rfl⟩
            have hb1 : b ≤ 1 := by
              rw [← hb]
              exact HVB.out _ (List.mem_of_getElem? (i := j) (by simp [List.getD, List.getElem?_eq_getElem (show j < V.length by have := HVL.out; omega)]))
            have etk : V.take j ++ [b] = V.take (j + 1) := (take_snoc' (by rw [← hb]; simp [List.getD, List.getElem?_eq_getElem (show j < V.length by have := HVL.out; omega)])).symm
            rw [hb] at z0
            have SEE := Lib.hid (see9_any v true (V.take j) Fj b wr HMJ.out hb1 (by rw [List.length_take]; omega) (HK.out.below MJ.out))
            have ETK := Lib.hid etk
            have lty : w3.heap.size < wr.heap.size := (Y4.out.nb NJ.out).lt
            have ltq : w.heap.size < wr.heap.size := (Q4.out.nb NJ.out).lt
            clear etk hb
            go_wp2_with fail
            refine SEE.out.mono ?_
            rintro e wx ⟨F', ⟨a', c', rfl, bs, _⟩, hm', hk', hf'⟩
            rw [ETK.out] at bs hm' ⊢
            have NX := Lib.hid (show Nb w4 wx from N5.out.trans ((HKJ.out.tr hk' HFJ.out).toBelow N5.out.size HF.out))
            have MX := Lib.hid (M4.out.tr NX.out)
            have KX := Lib.hid (HKJ.out.tr hk' HFJ.out)
            have FX := Lib.hid (show ∀ k, F' k → F k ∨ w5.heap.size ≤ k from fun k h => by
              rcases hf' k h with h | h
              · exact HFJ.out k h
              · exact .inr (Nat.le_trans HKJ.out.size h))
            have HX := Lib.hid hm'
            have hsx : wr.heap.size ≤ wx.heap.size := hk'.size
            have BX := Lib.hid bs
            obtain ⟨y0, y1, y2⟩ := (Y4.out.nb NX.out).c3
            obtain ⟨c0, c1, c2, c3, c4, c5, c6, c7, c8, c9, c10⟩ := (Q4.out.nb NX.out).c11
            clear hk' hf' hm' bs SEE ETK z0
            have lty' : w3.heap.size < wx.heap.size := (Y4.out.nb NX.out).lt
            have ltq' : w.heap.size < wx.heap.size := (Q4.out.nb NX.out).lt
            rcases (by omega : j + 1 ≤ R ∨ j = R ∨ (R + 2 ≤ j + 1 ∧ j + 1 ≤ R + 8) ∨ j = R + 8) with hc | hc | hc | hc
            · rw [T1.out (j + 1) hc]
              have dA : ((j : Int) == (R : Int)) = false := by first | (rw [beq_iff_eq]; omega) | (rw [beq_eq_false_iff_ne]; omega)
              have dB : ((j : Int) == (R : Int) + 8) = false := by first | (rw [beq_iff_eq]; omega) | (rw [beq_eq_false_iff_ne]; omega)
              simp only [staV, moreS, slotS, noF]
              clear hc
              go_wp2
              go_roundw
              case rel => exact ⟨j + 1, by omega, by go_num, F', mach_keep HX.out (Kp.alloc (F := fun _ => False)) (fun _ _ h => h), KX.out.tr (Kp.alloc (F := fun _ => False)) (fun _ h => h.elim), FX.out⟩
              case measure => simp [intOf]; try omega
            · subst hc
              rw [T2.out]
              have dB : ((j : Int) == (j : Int) + 8) = false := by rw [beq_eq_false_iff_ne]; omega
              simp only [staV, moreS, slotS, noF]
              go_wp2
              go_roundw
              case rel => exact ⟨j + 1, by omega, by go_num, F', mach_keep HX.out (Kp.alloc (F := fun _ => False)) (fun _ _ h => h), KX.out.tr (Kp.alloc (F := fun _ => False)) (fun _ h => h.elim), FX.out⟩
              case measure => simp [intOf]; try omega
            · rw [show j + 1 = R + (j + 1 - R) by omega, T3.out (j + 1 - R) (by omega) (by omega)]
              have dA : ((j : Int) == (R : Int)) = false := by first | (rw [beq_iff_eq]; omega) | (rw [beq_eq_false_iff_ne]; omega)
              have dB : ((j : Int) == (R : Int) + 8) = false := by first | (rw [beq_iff_eq]; omega) | (rw [beq_eq_false_iff_ne]; omega)
              simp only [staV, moreS, slotS, noF]
              clear hc
              go_wp2
              go_roundw
              case rel => exact ⟨j + 1, by omega, by go_num, F', mach_keep HX.out (Kp.alloc (F := fun _ => False)) (fun _ _ h => h), KX.out.tr (Kp.alloc (F := fun _ => False)) (fun _ h => h.elim), FX.out⟩
              case measure => simp [intOf]; try omega
            · subst hc
              rw [show R + 8 + 1 = R + 9 from rfl, T4.out] at BX ⊢
              simp only [staV, doneS]
              obtain ⟨wy, hwy⟩ : ∃ wy, wy = wx.alloc (.cells #[.int .i64 2, .int .i64 0, .int .i64 a0_0, .int .u32 a0_1, .bool a0_2, .bool a0_3, .bool a0_4, .bool a0_5, .bool a0_6, .int .u8 a0_7, .int .u8 a0_8, .int .u32 a0_9, .slice a' l0_10.length c'] 31) := ⟨_, rfl⟩
              have nxy : Nb wx wy := by rw [hwy]; exact Nb.rfl.al _
              have XY := Lib.hid (show Blk wy wx.heap.size #[.int .i64 2, .int .i64 0, .int .i64 a0_0, .int .u32 a0_1, .bool a0_2, .bool a0_3, .bool a0_4, .bool a0_5, .bool a0_6, .int .u8 a0_7, .int .u8 a0_8, .int .u32 a0_9, .slice a' l0_10.length c'] 31 by rw [hwy]; exact Blk.new _ _ _)
              have MY := Lib.hid (MX.out.tr nxy)
              have BY := Lib.hid (show Bs wy a' c' l0_10 from BX.out.below nxy)
              have NXY := Lib.hid nxy
              have EY := Lib.hid hwy
              clear y0 y1 y2 c0 c1 c2 c3 c4 c5 c6 c7 c8 c9 c10
              obtain ⟨c0, c1, c2, c3, c4, c5, c6, c7, c8, c9, c10⟩ := ((Q4.out.nb NX.out).nb nxy).c11
              obtain ⟨y0, y1, y2⟩ := ((Y4.out.nb NX.out).nb nxy).c3
              obtain ⟨x0, x1, x2, x3, x4, x5, x6, x7, x8, x9, x10, x11, x12⟩ := XY.out.c13
              rw [hwy] at c0 c1 c2 c3 c4 c5 c6 c7 c8 c9 c10 y0 y1 y2 x0 x1 x2 x3 x4 x5 x6 x7 x8 x9 x10 x11 x12
              clear hwy nxy
              have dA : ((R : Int) + 8 == (R : Int)) = false := by rw [beq_eq_false_iff_ne]; omega
              go_wp2_with fail
              rw [← EY.out]
              refine (SM.out _ a' c' MY.out BY.out).mono ?_
              rintro e wz ⟨rfl, nz⟩
              have NZ := Lib.hid (NXY.out.tr nz)
              clear nz x0 x1 x2 x3 x4 x5 x6 x7 x8 x9 x10 x11 x12
              go_wp2
              go_roundw
              case rel => exact ⟨R + 8 + 1, by omega, by go_num, F', mach_keep HX.out (Kp.ofNb (F := fun _ => False) NZ.out) (fun _ _ h => h), KX.out.tr (Kp.ofNb (F := fun _ => False) NZ.out) (fun _ h => h.elim), FX.out⟩
              case measure => simp [intOf]; try omega
          · obtain rfl : j = R + 9 := by omega
            have hown := OJ.out.shorter (k := R + 9) (by have := HVL.out; omega)
            have hb2 := HB2.out.below MJ.out
            have hnn : a2 = none → l2.length = 0 ∧ cap2 = 0 := fun h0 => ⟨by have := hb2; subst h0; rw [this.none_len]; rfl, hn2.out h0⟩
            have QJ := Lib.hid (Q4.out.nb NJ.out)
            clear HMJ HKJ HFJ
            go_wp2_with (at_builtin; refine wpList_appB _ rfl (.tmp 115) (.tmp 116) rfl (.slice (some ⟨g, 0, none⟩) (R + 9) k3) (V.take (R + 9)) rfl hown a2 cap2 l2 l2.length rfl rfl hb2 hnn (by rw [List.length_take]; omega) ?_)
            intro v2 wq ho hkq hgq
            rw [EL9.out] at ho
            have NQ := Lib.hid (show Nb w wq from MJ.out.trans (hkq.toBelow MJ.out.size (fun k hk => by simp [Value.ownBlock] at hk; omega)))
            have QQ := Lib.hid (QJ.out.keep hkq (by simp [Value.ownBlock]; omega))
            obtain ⟨aq, cq, rfl, bq, _⟩ := ho.bs
            have BQ := Lib.hid bq
            clear ho hkq hgq bq hown hb2 hnn y0 y1 y2
            go_wp2_with fail
            refine (S9.out _ aq cq NQ.out BQ.out).mono ?_
            rintro e wt ⟨⟨at2, ct, rfl, bt⟩, nt⟩
            have NT := Lib.hid (NQ.out.tr nt)
            have QT := Lib.hid (QQ.out.nb nt)
            have ltt : w.heap.size < wt.heap.size := QT.out.lt
            clear nt
            simp only [staV, doneS]
            obtain ⟨wy, hwy⟩ : ∃ wy, wy = wt.alloc (.cells #[.int .i64 2, .int .i64 0, .int .i64 a0_0, .int .u32 a0_1, .bool a0_2, .bool a0_3, .bool a0_4, .bool a0_5, .bool a0_6, .int .u8 a0_7, .int .u8 a0_8, .int .u32 a0_9, .slice at2 l0_10.length ct] 31) := ⟨_, rfl⟩
            have nty : Nb wt wy := by rw [hwy]; exact Nb.rfl.al _
            have XY := Lib.hid (show Blk wy wt.heap.size #[.int .i64 2, .int .i64 0, .int .i64 a0_0, .int .u32 a0_1, .bool a0_2, .bool a0_3, .bool a0_4, .bool a0_5, .bool a0_6, .int .u8 a0_7, .int .u8 a0_8, .int .u32 a0_9, .slice at2 l0_10.length ct] 31 by rw [hwy]; exact Blk.new _ _ _)
            have MY := Lib.hid (NT.out.tr nty)
            have BY := Lib.hid (show Bs wy at2 ct l0_10 from bt.below nty)
            have EY := Lib.hid hwy
            obtain ⟨c0, c1, c2, c3, c4, c5, c6, c7, c8, c9, c10⟩ := (QT.out.nb nty).c11
            obtain ⟨x0, x1, x2, x3, x4, x5, x6, x7, x8, x9, x10, x11, x12⟩ := XY.out.c13
            rw [hwy] at c0 c1 c2 c3 c4 c5 c6 c7 c8 c9 c10 x0 x1 x2 x3 x4 x5 x6 x7 x8 x9 x10 x11 x12
            clear hwy nty bt
            go_wp2_with fail
            rw [← EY.out]
            refine (SM.out _ at2 ct MY.out BY.out).mono ?_
            rintro e wz ⟨rfl, nz⟩
            have MZ := Lib.hid (MY.out.tr nz)
            clear nz
            go_wp2
            go_ret
            exact ⟨rfl, MZ.out⟩

theorem door_met (os : Os) (args : Array Value) : laidMetH Tryz.prog Rows.scanFramesRow.laid ((World.doorLaid Tryz.prog 24 os).forCall (fun _ _ => 0) ⟨#[], args, []⟩).memory :=
  laidMetH_of_parts3 (fuel := 8) (laidMet_of_run' 8 (by kernel_rfl) (by kernel_rfl)) (by kernel_rfl) (by kernel_rfl)
set_option maxHeartbeats 2000000 in
set_option maxRecDepth 100000 in
theorem lifted (os : Os) (started : os.Started) (H : Type) (enc : TypeId × Value → H) :
    ReturnsInHanded {} Tryz.checked os 4 .any (fun w args => (Rows.scanFramesSpec.pre enc Tryz.prog Tryz.f4 [] false w args ∧ laidMetH Tryz.prog Rows.scanFramesRow.laid w) ∧ sizedMet enc Tryz.prog Tryz.f4 (OpenSpec.ofChange Rows.scanFramesSpec) false w args)
      (Rows.scanFramesSpec.post enc Tryz.prog Tryz.f4 false true false false) := by
  refine returnsInHanded_of_change_and (C := Tryz.checked) (X := fun w _ => laidMetH Tryz.prog Rows.scanFramesRow.laid w) (fun _ _ _ hh h => h.of_heap hh) own started (by kernel_rfl) Tryz.func4
    (ChangeSpec.witness_shaped (enc := enc) (C := Tryz.checked) (os := os) (X := fun w _ => laidMetH Tryz.prog Rows.scanFramesRow.laid w) false (World.doorLaid Tryz.prog 24 os) #[.agg #[.int .i64 0, .int .u32 0, .bool false, .bool false, .bool false, .bool false, .bool false, .int .u8 0, .int .u8 0, .int .u32 0, .slice none 0 0], .bool false, .slice none 0 0] 8 rfl (World.shaped_of_RefB (by kernel_rfl) (by kernel_rfl)) (by kernel_rfl) (by kernel_rfl) (by kernel_rfl) (door_met os _)) ?_
  intro W base args ds gs before hval0 hW _ hR hL _
  have hval : ∀ (j : Nat) t v, Tryz.f4.params[j]? = some t → args[j]? = some v → Value.okWide Tryz.prog W .any base t v := hval0
  have hW' := hW
  obtain ⟨p, q, hA0, hV, rfl, hfz, hnd⟩ := hW
  have hA : DataW.TrodAll enc Tryz.prog W 0 (fun _ => true) true Tryz.f4.params.toList args.toList ds p := hA0
  rw [Tryz.params4] at hA hval
  obtain ⟨v0, vs0, d0, ds0, p0, q0, hargs, rfl, rfl, h0, r0⟩ := trodAll_cons hA
  obtain ⟨v1, vs1, d1, ds1, p1, q1, rfl, rfl, rfl, h1, r1⟩ := trodAll_cons r0
  obtain ⟨v2, vs2, d2, ds2, p2, q2, rfl, rfl, rfl, h2, r2⟩ := trodAll_cons r1
  obtain ⟨rfl, rfl, rfl⟩ := trodAll_nil r2
  obtain rfl : args = #[v0, v1, v2] := by cases args; simp_all
  obtain ⟨rfl, rfl⟩ := trodVars_none hV
  have k0 := h0
  have lt0 : ∀ x ∈ p0, x.block < W.heap.size := by obtain ⟨m, hm⟩ := k0; exact DataW.trod_lt m _ _ _ hm
  have k1 := h1
  have lt1 : ∀ x ∈ p1, x.block < W.heap.size := by obtain ⟨m, hm⟩ := k1; exact DataW.trod_lt m _ _ _ hm
  have k2 := h2
  have lt2 : ∀ x ∈ p2, x.block < W.heap.size := by obtain ⟨m, hm⟩ := k2; exact DataW.trod_lt m _ _ _ hm
  clear hA0
  obtain ⟨cs0, rfl, hz0⟩ := okWide_struct Tryz.underlying29 (hval 0 29 v0 rfl rfl)
  obtain ⟨c0_0, c0_1, c0_2, c0_3, c0_4, c0_5, c0_6, c0_7, c0_8, c0_9, c0_10, rfl⟩ := arr11 (hz0.trans (by kernel_rfl))
  obtain ⟨fu0, hf0⟩ := h0
  have hc0 : DataW.trod enc Tryz.prog W 0 (fun _ => true) true fu0 29 [c0_0, c0_1, c0_2, c0_3, c0_4, c0_5, c0_6, c0_7, c0_8, c0_9, c0_10] = some (d0, p0) := hf0
  obtain ⟨m0_0, y0_0, g0_0⟩ := open_fld Tryz.underlying29 hc0 0 _ rfl
  have t0_0 : DataW.trod enc Tryz.prog W 0 (fun _ => true) true m0_0 3 (([c0_0, c0_1, c0_2, c0_3, c0_4, c0_5, c0_6, c0_7, c0_8, c0_9, c0_10].drop 0).take (Tryz.prog.cellsOf 3)) = some y0_0 := g0_0
  rw [show Tryz.prog.cellsOf 3 = 1 from by kernel_rfl] at t0_0
  have u0_0 : DataW.trod enc Tryz.prog W 0 (fun _ => true) true m0_0 3 [c0_0] = some y0_0 := t0_0
  obtain ⟨m0_1, y0_1, g0_1⟩ := open_fld Tryz.underlying29 hc0 1 _ rfl
  have t0_1 : DataW.trod enc Tryz.prog W 0 (fun _ => true) true m0_1 27 (([c0_0, c0_1, c0_2, c0_3, c0_4, c0_5, c0_6, c0_7, c0_8, c0_9, c0_10].drop 1).take (Tryz.prog.cellsOf 27)) = some y0_1 := g0_1
  rw [show Tryz.prog.cellsOf 27 = 1 from by kernel_rfl] at t0_1
  have u0_1 : DataW.trod enc Tryz.prog W 0 (fun _ => true) true m0_1 27 [c0_1] = some y0_1 := t0_1
  obtain ⟨m0_2, y0_2, g0_2⟩ := open_fld Tryz.underlying29 hc0 2 _ rfl
  have t0_2 : DataW.trod enc Tryz.prog W 0 (fun _ => true) true m0_2 4 (([c0_0, c0_1, c0_2, c0_3, c0_4, c0_5, c0_6, c0_7, c0_8, c0_9, c0_10].drop 2).take (Tryz.prog.cellsOf 4)) = some y0_2 := g0_2
  rw [show Tryz.prog.cellsOf 4 = 1 from by kernel_rfl] at t0_2
  have u0_2 : DataW.trod enc Tryz.prog W 0 (fun _ => true) true m0_2 4 [c0_2] = some y0_2 := t0_2
  obtain ⟨m0_3, y0_3, g0_3⟩ := open_fld Tryz.underlying29 hc0 3 _ rfl
  have t0_3 : DataW.trod enc Tryz.prog W 0 (fun _ => true) true m0_3 4 (([c0_0, c0_1, c0_2, c0_3, c0_4, c0_5, c0_6, c0_7, c0_8, c0_9, c0_10].drop 3).take (Tryz.prog.cellsOf 4)) = some y0_3 := g0_3
  rw [show Tryz.prog.cellsOf 4 = 1 from by kernel_rfl] at t0_3
  have u0_3 : DataW.trod enc Tryz.prog W 0 (fun _ => true) true m0_3 4 [c0_3] = some y0_3 := t0_3
  obtain ⟨m0_4, y0_4, g0_4⟩ := open_fld Tryz.underlying29 hc0 4 _ rfl
  have t0_4 : DataW.trod enc Tryz.prog W 0 (fun _ => true) true m0_4 4 (([c0_0, c0_1, c0_2, c0_3, c0_4, c0_5, c0_6, c0_7, c0_8, c0_9, c0_10].drop 4).take (Tryz.prog.cellsOf 4)) = some y0_4 := g0_4
  rw [show Tryz.prog.cellsOf 4 = 1 from by kernel_rfl] at t0_4
  have u0_4 : DataW.trod enc Tryz.prog W 0 (fun _ => true) true m0_4 4 [c0_4] = some y0_4 := t0_4
  obtain ⟨m0_5, y0_5, g0_5⟩ := open_fld Tryz.underlying29 hc0 5 _ rfl
  have t0_5 : DataW.trod enc Tryz.prog W 0 (fun _ => true) true m0_5 4 (([c0_0, c0_1, c0_2, c0_3, c0_4, c0_5, c0_6, c0_7, c0_8, c0_9, c0_10].drop 5).take (Tryz.prog.cellsOf 4)) = some y0_5 := g0_5
  rw [show Tryz.prog.cellsOf 4 = 1 from by kernel_rfl] at t0_5
  have u0_5 : DataW.trod enc Tryz.prog W 0 (fun _ => true) true m0_5 4 [c0_5] = some y0_5 := t0_5
  obtain ⟨m0_6, y0_6, g0_6⟩ := open_fld Tryz.underlying29 hc0 6 _ rfl
  have t0_6 : DataW.trod enc Tryz.prog W 0 (fun _ => true) true m0_6 4 (([c0_0, c0_1, c0_2, c0_3, c0_4, c0_5, c0_6, c0_7, c0_8, c0_9, c0_10].drop 6).take (Tryz.prog.cellsOf 4)) = some y0_6 := g0_6
  rw [show Tryz.prog.cellsOf 4 = 1 from by kernel_rfl] at t0_6
  have u0_6 : DataW.trod enc Tryz.prog W 0 (fun _ => true) true m0_6 4 [c0_6] = some y0_6 := t0_6
  obtain ⟨m0_7, y0_7, g0_7⟩ := open_fld Tryz.underlying29 hc0 7 _ rfl
  have t0_7 : DataW.trod enc Tryz.prog W 0 (fun _ => true) true m0_7 5 (([c0_0, c0_1, c0_2, c0_3, c0_4, c0_5, c0_6, c0_7, c0_8, c0_9, c0_10].drop 7).take (Tryz.prog.cellsOf 5)) = some y0_7 := g0_7
  rw [show Tryz.prog.cellsOf 5 = 1 from by kernel_rfl] at t0_7
  have u0_7 : DataW.trod enc Tryz.prog W 0 (fun _ => true) true m0_7 5 [c0_7] = some y0_7 := t0_7
  obtain ⟨m0_8, y0_8, g0_8⟩ := open_fld Tryz.underlying29 hc0 8 _ rfl
  have t0_8 : DataW.trod enc Tryz.prog W 0 (fun _ => true) true m0_8 5 (([c0_0, c0_1, c0_2, c0_3, c0_4, c0_5, c0_6, c0_7, c0_8, c0_9, c0_10].drop 8).take (Tryz.prog.cellsOf 5)) = some y0_8 := g0_8
  rw [show Tryz.prog.cellsOf 5 = 1 from by kernel_rfl] at t0_8
  have u0_8 : DataW.trod enc Tryz.prog W 0 (fun _ => true) true m0_8 5 [c0_8] = some y0_8 := t0_8
  obtain ⟨m0_9, y0_9, g0_9⟩ := open_fld Tryz.underlying29 hc0 9 _ rfl
  have t0_9 : DataW.trod enc Tryz.prog W 0 (fun _ => true) true m0_9 27 (([c0_0, c0_1, c0_2, c0_3, c0_4, c0_5, c0_6, c0_7, c0_8, c0_9, c0_10].drop 9).take (Tryz.prog.cellsOf 27)) = some y0_9 := g0_9
  rw [show Tryz.prog.cellsOf 27 = 1 from by kernel_rfl] at t0_9
  have u0_9 : DataW.trod enc Tryz.prog W 0 (fun _ => true) true m0_9 27 [c0_9] = some y0_9 := t0_9
  obtain ⟨m0_10, y0_10, g0_10⟩ := open_fld Tryz.underlying29 hc0 10 _ rfl
  have t0_10 : DataW.trod enc Tryz.prog W 0 (fun _ => true) true m0_10 22 (([c0_0, c0_1, c0_2, c0_3, c0_4, c0_5, c0_6, c0_7, c0_8, c0_9, c0_10].drop 10).take (Tryz.prog.cellsOf 22)) = some y0_10 := g0_10
  rw [show Tryz.prog.cellsOf 22 = 1 from by kernel_rfl] at t0_10
  have u0_10 : DataW.trod enc Tryz.prog W 0 (fun _ => true) true m0_10 22 [c0_10] = some y0_10 := t0_10
  obtain ⟨a0_0, e0_0, x0_0, w0_0⟩ := DataW.trod_int Tryz.underlying3 u0_0
  obtain rfl : c0_0 = .int .i64 a0_0 := by simpa using e0_0
  obtain ⟨a0_1, e0_1, x0_1, w0_1⟩ := DataW.trod_int Tryz.underlying27 u0_1
  obtain rfl : c0_1 = .int .u32 a0_1 := by simpa using e0_1
  obtain ⟨a0_2, e0_2, x0_2⟩ := DataW.trod_bool Tryz.underlying4 u0_2
  obtain rfl : c0_2 = .bool a0_2 := by simpa using e0_2
  obtain ⟨a0_3, e0_3, x0_3⟩ := DataW.trod_bool Tryz.underlying4 u0_3
  obtain rfl : c0_3 = .bool a0_3 := by simpa using e0_3
  obtain ⟨a0_4, e0_4, x0_4⟩ := DataW.trod_bool Tryz.underlying4 u0_4
  obtain rfl : c0_4 = .bool a0_4 := by simpa using e0_4
  obtain ⟨a0_5, e0_5, x0_5⟩ := DataW.trod_bool Tryz.underlying4 u0_5
  obtain rfl : c0_5 = .bool a0_5 := by simpa using e0_5
  obtain ⟨a0_6, e0_6, x0_6⟩ := DataW.trod_bool Tryz.underlying4 u0_6
  obtain rfl : c0_6 = .bool a0_6 := by simpa using e0_6
  obtain ⟨a0_7, e0_7, x0_7, w0_7⟩ := DataW.trod_int Tryz.underlying5 u0_7
  obtain rfl : c0_7 = .int .u8 a0_7 := by simpa using e0_7
  obtain ⟨a0_8, e0_8, x0_8, w0_8⟩ := DataW.trod_int Tryz.underlying5 u0_8
  obtain rfl : c0_8 = .int .u8 a0_8 := by simpa using e0_8
  obtain ⟨a0_9, e0_9, x0_9, w0_9⟩ := DataW.trod_int Tryz.underlying27 u0_9
  obtain rfl : c0_9 = .int .u32 a0_9 := by simpa using e0_9
  obtain ⟨a0_10, cap0_10, l0_10, e0_10, hb0_10, n0_10⟩ := bytes_open u0_10
  subst e0_10
  obtain ⟨a1, rfl, rfl, rfl⟩ := open_bool Tryz.underlying4 (hval 1 4 v1 rfl rfl) h1
  obtain ⟨a2, lc2, cap2, rfl⟩ := okWide_slice Tryz.underlying22 (hval 2 22 v2 rfl rfl)
  obtain ⟨fu2, hf2⟩ := h2
  have hc2 : DataW.trod enc Tryz.prog W 0 (fun _ => true) true fu2 22 [.slice a2 lc2 cap2] = some (d2, p2) := hf2
  obtain ⟨b2, cb2, l2, e2, hb2, n2⟩ := bytes_open hc2
  simp only [Value.slice.injEq] at e2
  obtain ⟨rfl, rfl, rfl⟩ := e2
  refine (walk W (both_of hL) a0_0 w0_0 a0_1 w0_1 a0_2 a0_3 a0_4 a0_5 a0_6 a0_7 w0_7 a0_8 w0_8 a0_9 w0_9 a0_10 cap0_10 l0_10 hb0_10 n0_10 a1 a2 cap2 l2 hb2 n2).mono fun e W' ⟨he, bel⟩ => ?_
  subst he
  exact ⟨_, rfl, _, _, _, [], _, [], hW', trodAll_mk1 (shut_bool Tryz.underlying4 _), (trodAll_cons_mk (Below.trod laidOut (by kernel_rfl) (of_decide_eq_true (by kernel_rfl)) k0 bel lt0) (trodAll_cons_mk (Below.trod laidOut (by kernel_rfl) (of_decide_eq_true (by kernel_rfl)) k1 bel lt1) (trodAll_cons_mk (Below.trod laidOut (by kernel_rfl) (of_decide_eq_true (by kernel_rfl)) k2 bel lt2) trodAll_mk0))), rfl, bel.frame _, fun h => by cases h⟩

theorem over : Rows.scanFramesRow.holds Tryz.pinned (OpenSpec.ofChange Rows.scanFramesSpec) :=
  OpenClaim.holds_of_wide 4 Tryz.f4 rfl rfl rfl rfl rfl rfl rfl ⟨rfl, rfl, rfl, rfl, rfl⟩ rfl rfl rfl rfl rfl (by kernel_rfl) Tryz.func4 (by kernel_rfl)
    (of_decide_eq_true (by kernel_rfl)) (by unfold Func.isWrapper; first | (rw [if_pos (by decide +kernel)]; kernel_rfl) | (rw [if_neg (by decide +kernel)]; exact ⟨rfl, rfl⟩))
    (fun os started H enc _ => lifted os started H enc)

theorem plain (f : FuncId) (fn : Func) (hf : Tryz.pinned.checked.prog.funcNamed "omnibus/omnibuslaw09.ScanFrames" = some f) (hfn : Tryz.pinned.checked.prog.funcs[f]? = some fn) :
    false = Tryz.pinned.checked.prog.looks [] ∧ ∀ (j : Nat) t, fn.params[j]? = some t → Tryz.pinned.checked.prog.wantsStandIn t = false := by
  obtain rfl : f = 4 := Option.some.inj ((show Tryz.prog.funcNamed "omnibus/omnibuslaw09.ScanFrames" = some 4 by kernel_rfl).symm.trans hf) |>.symm
  obtain rfl : fn = Tryz.f4 := (Option.some.inj (Tryz.func4.symm.trans hfn)).symm
  refine ⟨by kernel_rfl, fun j t ht => ?_⟩
  rw [Tryz.params4] at ht
  have hm : t ∈ [29, 4, 22] := by have := Array.mem_of_getElem? ht; simp at this ⊢; omega
  have hall : ([29, 4, 22].all fun u => !Tryz.prog.wantsStandIn u) = true := by kernel_rfl
  exact (show Tryz.prog.wantsStandIn t = false by simpa using List.all_eq_true.1 hall t hm)
theorem proved : Rows.ScanFramesCardSaid :=
  Claim7.holds_tied_plain_at .later [] _ _ _ _ over (fun _ h => by cases h) (by kernel_rfl) (fun _ h => by cases h) scanFrames_row_tie rfl ⟨rfl, rfl⟩ (by kernel_rfl) rfl plain (by kernel_rfl)
#print axioms proved
end Go.Proofs.YtkboncpfddnoaaaGreatDoor.scanFrames
