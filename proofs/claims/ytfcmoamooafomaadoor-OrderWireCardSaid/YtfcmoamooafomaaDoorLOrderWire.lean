/- For every two frames the law OrderWire answers true and leaves its arguments as they were; the package's tables of kinds of sums and of longer sizes are tied to the program's text. No conditions. -/
import Derived.Test.YtfcmoamooafomaaDoorRows
import Derived.Test.YtfcmoamooafomaaDoorCards
import Derived.Test.YtfcmoamooafomaaDoorTie
import Derived.Test.YtfcmoamooafomaaDoorOrA
import Derived.Test.YtfcmoamooafomaaDoorOrF
import Derived.Test.YtfcmoamooafomaaDoorOrW
import Derived.Test.YtfcmoamooafomaaDoorScB
import Derived.Test.YtfcmoamooafomaaDoorClaA
import Derived.Test.YtfcmoamooafomaaDoorGs
import Derived.WalkKit
import Derived.ProofKit
import Derived.OpenShut
import Derived.ShutString
import Derived.ChangeOld
import Derived.Below
import Derived.Carry
import Derived.Lib.SmallJoins
import Derived.Deep.RegionWith
import Derived.Deep.RegionHeld3
import Derived.LaidMore
import Derived.LaidLaws
import Derived.Stop.Joined
import Derived.SevenTiedAt
namespace Go.Proofs.YtfcmoamooafomaaDoor.orderWire
open Go.ChangeShapes Go.WideShapes Go.ChangeAt Go.RowKit Go.Joins
set_option linter.unusedVariables false
set_option linter.unusedSimpArgs false
theorem own : ownKnob Tryd.prog.godebug = none := by kernel_rfl
theorem laidOut : laidOutB Tryd.prog = true := by kernel_rfl
theorem arr11 {α : Type} {cs : Array α} (h : cs.size = 11) : ∃ c0 c1 c2 c3 c4 c5 c6 c7 c8 c9 c10, cs = #[c0, c1, c2, c3, c4, c5, c6, c7, c8, c9, c10] := by
  obtain ⟨l⟩ := cs
  match l, h with
  | [c0, c1, c2, c3, c4, c5, c6, c7, c8, c9, c10], _ => exact ⟨c0, c1, c2, c3, c4, c5, c6, c7, c8, c9, c10, rfl⟩
theorem arb_le {f : Hd} {l : List Nat} (h : okF f l = true) (hI : 0 ≤ f.I) : arbF f l ≤ (wF f l).length ∧ arbF f l ≤ 100 := by
  obtain ⟨T, X, e1, e2⟩ := wF_head h hI
  obtain ⟨Y, hY⟩ := putL_append (hdF f) T
  rw [e1, e2, hY]
  have h1 := (putL_len2 (hdF f)).1
  have h2 : (hdF f).length ≤ 40 := by
    unfold hdF tlF
    split
    · simp [bitsN_length]
    · split
      · simp [bitsN_length]
      · split <;> simp [bitsN_length]
  refine ⟨by simp only [List.length_append]; omega, by omega⟩
theorem erF_ok {f : Hd} {l : List Nat} (h : okF f l = true) : erF f l = 0 := by
  unfold erF
  rcases okF_kind h with hk | hk | hk
  · rw [if_neg (by omega), if_neg (by omega), okE, if_pos (by simp [okC, hk, h])]
  · rw [if_pos hk, okDE, if_pos (by simp [okD, hk, h])]
  · rw [if_neg (by omega), if_pos hk, okXE, if_pos (by simp [okX, hk, h])]
/-- Two rows' beginnings: all alike, or where they differ first, as told. -/
def Dif (x : Int) (WA WB : List Nat) (NA NB : Nat) : Prop :=
  (x = 0 ∧ NA = NB ∧ ∀ k, k < NA → WA.getD k 0 = WB.getD k 0) ∨
  ∃ d, d < NA ∧ d < NB ∧ (∀ k, k < d → WA.getD k 0 = WB.getD k 0) ∧ ((x = -1 ∧ WA.getD d 0 = 0 ∧ WB.getD d 0 = 1) ∨ (x = 1 ∧ WA.getD d 0 = 1 ∧ WB.getD d 0 = 0))
theorem dif_of {f g : Hd} {l m : List Nat} (hf : okF f l = true) (hg : okF g m = true) (hI : 0 ≤ f.I) (hJ : 0 ≤ g.I) : Dif (cmpV f g l m) (wF f l) (wF g m) (arbF f l) (arbF g m) := by
  have e : cmpV f g l m = cmpN (keyF f) (keyF g) := by simp [cmpV, hf, hg]
  rw [e]
  rcases key_wire hf hg hI hJ with ⟨h1, h2, h3⟩ | ⟨d, h1, h2, h3, h4⟩
  · exact .inl ⟨by rw [h1, cmpN, if_neg (by omega), if_neg (by omega)], h2, h3⟩
  · refine .inr ⟨d, h1, h2, h3, ?_⟩
    rcases h4 with ⟨h4, h5⟩ | ⟨h4, h5⟩
    · exact .inl ⟨by rw [cmpN, if_pos h4], h5⟩
    · exact .inr ⟨by rw [cmpN, if_neg (by omega), if_pos h4], h5⟩
set_option maxHeartbeats 8000000 in
set_option maxRecDepth 100000 in
theorem walk (w : World) (hK : Both w) (a0_0 : Int) (w0_0 : (Lit.int .i64 a0_0).wf = true) (a0_1 : Int) (w0_1 : (Lit.int .u32 a0_1).wf = true) (a0_2 : Bool) (a0_3 : Bool) (a0_4 : Bool) (a0_5 : Bool) (a0_6 : Bool) (a0_7 : Int) (w0_7 : (Lit.int .u8 a0_7).wf = true) (a0_8 : Int) (w0_8 : (Lit.int .u8 a0_8).wf = true) (a0_9 : Int) (w0_9 : (Lit.int .u32 a0_9).wf = true) (a0_10 : Option Addr) (cap0_10 : Nat) (l0_10 : List Nat) (h0_10 : Bs w a0_10 cap0_10 l0_10) (n0_10 : a0_10 = none → cap0_10 = 0) (a1_0 : Int) (w1_0 : (Lit.int .i64 a1_0).wf = true) (a1_1 : Int) (w1_1 : (Lit.int .u32 a1_1).wf = true) (a1_2 : Bool) (a1_3 : Bool) (a1_4 : Bool) (a1_5 : Bool) (a1_6 : Bool) (a1_7 : Int) (w1_7 : (Lit.int .u8 a1_7).wf = true) (a1_8 : Int) (w1_8 : (Lit.int .u8 a1_8).wf = true) (a1_9 : Int) (w1_9 : (Lit.int .u32 a1_9).wf = true) (a1_10 : Option Addr) (cap1_10 : Nat) (l1_10 : List Nat) (h1_10 : Bs w a1_10 cap1_10 l1_10) (n1_10 : a1_10 = none → cap1_10 = 0) :
    Calls Tryd.prog 5 #[.agg #[.int .i64 a0_0, .int .u32 a0_1, .bool a0_2, .bool a0_3, .bool a0_4, .bool a0_5, .bool a0_6, .int .u8 a0_7, .int .u8 a0_8, .int .u32 a0_9, .slice a0_10 l0_10.length cap0_10], .agg #[.int .i64 a1_0, .int .u32 a1_1, .bool a1_2, .bool a1_3, .bool a1_4, .bool a1_5, .bool a1_6, .int .u8 a1_7, .int .u8 a1_8, .int .u32 a1_9, .slice a1_10 l1_10.length cap1_10]] w fun e w' => e = .returned (.bool true) ∧ Nb w w' := by
  have HK := Lib.hid hK
  have hL0 := h0_10.len
  have hL1 := h1_10.len
  have hI := u32_wf w0_1
  have hJ := u32_wf w1_1
  have hW0 := wd_of (f := ⟨a0_0, a0_1, a0_2, a0_3, a0_4, a0_5, a0_6, a0_7, a0_8, a0_9⟩) w0_1 w0_7 w0_8 w0_9
  have hW1 := wd_of (f := ⟨a1_0, a1_1, a1_2, a1_3, a1_4, a1_5, a1_6, a1_7, a1_8, a1_9⟩) w1_1 w1_7 w1_8 w1_9
  have k1 := fun w' (n : Nb w w') => check5_any ⟨a0_0, a0_1, a0_2, a0_3, a0_4, a0_5, a0_6, a0_7, a0_8, a0_9⟩ a0_10 cap0_10 l0_10 w' (h0_10.below n) (hK.below n).2
  have k2 := fun w' (n : Nb w w') => check5_any ⟨a1_0, a1_1, a1_2, a1_3, a1_4, a1_5, a1_6, a1_7, a1_8, a1_9⟩ a1_10 cap1_10 l1_10 w' (h1_10.below n) (hK.below n).2
  have AL := Lib.hid (fun w' (n : Nb w w') => alive10_any w' (hK.below n).2)
  have hc1 : checkN ⟨a0_0, a0_1, a0_2, a0_3, a0_4, a0_5, a0_6, a0_7, a0_8, a0_9⟩ l0_10 = if okF ⟨a0_0, a0_1, a0_2, a0_3, a0_4, a0_5, a0_6, a0_7, a0_8, a0_9⟩ l0_10 then 0 else 2 := rfl
  have hc2 : checkN ⟨a1_0, a1_1, a1_2, a1_3, a1_4, a1_5, a1_6, a1_7, a1_8, a1_9⟩ l1_10 = if okF ⟨a1_0, a1_1, a1_2, a1_3, a1_4, a1_5, a1_6, a1_7, a1_8, a1_9⟩ l1_10 then 0 else 2 := rfl
  rw [hc1] at k1
  rw [hc2] at k2
  clear hc1 hc2
  simp only [Hd.cs] at k1 k2
  by_cases hok : okF ⟨a0_0, a0_1, a0_2, a0_3, a0_4, a0_5, a0_6, a0_7, a0_8, a0_9⟩ l0_10 = true ∧ okF ⟨a1_0, a1_1, a1_2, a1_3, a1_4, a1_5, a1_6, a1_7, a1_8, a1_9⟩ l1_10 = true ∧ l0_10.length ≤ 100 ∧ l1_10.length ≤ 100
  rotate_left
  · have hor : okF ⟨a0_0, a0_1, a0_2, a0_3, a0_4, a0_5, a0_6, a0_7, a0_8, a0_9⟩ l0_10 = false ∨ (okF ⟨a0_0, a0_1, a0_2, a0_3, a0_4, a0_5, a0_6, a0_7, a0_8, a0_9⟩ l0_10 = true ∧ okF ⟨a1_0, a1_1, a1_2, a1_3, a1_4, a1_5, a1_6, a1_7, a1_8, a1_9⟩ l1_10 = false) ∨ (okF ⟨a0_0, a0_1, a0_2, a0_3, a0_4, a0_5, a0_6, a0_7, a0_8, a0_9⟩ l0_10 = true ∧ okF ⟨a1_0, a1_1, a1_2, a1_3, a1_4, a1_5, a1_6, a1_7, a1_8, a1_9⟩ l1_10 = true ∧ 100 < l0_10.length) ∨ (okF ⟨a0_0, a0_1, a0_2, a0_3, a0_4, a0_5, a0_6, a0_7, a0_8, a0_9⟩ l0_10 = true ∧ okF ⟨a1_0, a1_1, a1_2, a1_3, a1_4, a1_5, a1_6, a1_7, a1_8, a1_9⟩ l1_10 = true ∧ ¬ 100 < l0_10.length ∧ 100 < l1_10.length) := by
      cases h1 : okF ⟨a0_0, a0_1, a0_2, a0_3, a0_4, a0_5, a0_6, a0_7, a0_8, a0_9⟩ l0_10 with
      | false => exact .inl rfl
      | true =>
        cases h2 : okF ⟨a1_0, a1_1, a1_2, a1_3, a1_4, a1_5, a1_6, a1_7, a1_8, a1_9⟩ l1_10 with
        | false => exact .inr (.inl ⟨rfl, rfl⟩)
        | true =>
          rw [h1, h2] at hok
          simp only [true_and] at hok
          by_cases h3 : 100 < l0_10.length
          · exact .inr (.inr (.inl ⟨rfl, rfl, h3⟩))
          · exact .inr (.inr (.inr ⟨rfl, rfl, h3, by omega⟩))
    clear hok
    generalize okF ⟨a0_0, a0_1, a0_2, a0_3, a0_4, a0_5, a0_6, a0_7, a0_8, a0_9⟩ l0_10 = O1 at *
    generalize okF ⟨a1_0, a1_1, a1_2, a1_3, a1_4, a1_5, a1_6, a1_7, a1_8, a1_9⟩ l1_10 = O2 at *
    have K1 := Lib.hid k1
    have K2 := Lib.hid k2
    clear k1 k2 hK h0_10 h1_10 n0_10 n1_10 hW0 hW1 hI hJ
    obtain ⟨y0, hy0⟩ : ∃ y0, y0 = w.alloc (.cells #[.int .i64 a0_0, .int .u32 a0_1, .bool a0_2, .bool a0_3, .bool a0_4, .bool a0_5, .bool a0_6, .int .u8 a0_7, .int .u8 a0_8, .int .u32 a0_9, .slice a0_10 l0_10.length cap0_10] 25) := ⟨_, rfl⟩
    have ny0 : Nb w y0 := by rw [hy0]; exact Nb.rfl.al _
    have sy0 : y0.heap.size = w.heap.size + 1 := by rw [hy0, World.size_alloc]
    have by0 : Blk y0 w.heap.size #[.int .i64 a0_0, .int .u32 a0_1, .bool a0_2, .bool a0_3, .bool a0_4, .bool a0_5, .bool a0_6, .int .u8 a0_7, .int .u8 a0_8, .int .u32 a0_9, .slice a0_10 l0_10.length cap0_10] 25 := by rw [hy0]; exact Blk.new _ _ _
    obtain ⟨y1, hy1⟩ : ∃ y1, y1 = y0.alloc (.cells #[.int .i64 a1_0, .int .u32 a1_1, .bool a1_2, .bool a1_3, .bool a1_4, .bool a1_5, .bool a1_6, .int .u8 a1_7, .int .u8 a1_8, .int .u32 a1_9, .slice a1_10 l1_10.length cap1_10] 25) := ⟨_, rfl⟩
    have ny1 : Nb y0 y1 := by rw [hy1]; exact Nb.rfl.al _
    have sy1 : y1.heap.size = w.heap.size + 2 := by rw [hy1, World.size_alloc, sy0]
    have by1 : Blk y1 y0.heap.size #[.int .i64 a1_0, .int .u32 a1_1, .bool a1_2, .bool a1_3, .bool a1_4, .bool a1_5, .bool a1_6, .int .u8 a1_7, .int .u8 a1_8, .int .u32 a1_9, .slice a1_10 l1_10.length cap1_10] 25 := by rw [hy1]; exact Blk.new _ _ _
    rw [sy0] at by1
    have B0 := Lib.hid ((by0.nb ny1) : Blk y1 w.heap.size #[.int .i64 a0_0, .int .u32 a0_1, .bool a0_2, .bool a0_3, .bool a0_4, .bool a0_5, .bool a0_6, .int .u8 a0_7, .int .u8 a0_8, .int .u32 a0_9, .slice a0_10 l0_10.length cap0_10] 25)
    have B1 := Lib.hid (by1 : Blk y1 (w.heap.size + 1) #[.int .i64 a1_0, .int .u32 a1_1, .bool a1_2, .bool a1_3, .bool a1_4, .bool a1_5, .bool a1_6, .int .u8 a1_7, .int .u8 a1_8, .int .u32 a1_9, .slice a1_10 l1_10.length cap1_10] 25)
    have NY := Lib.hid ((Nb.tr ny0 ny1) : Nb w y1)
    have HY0 := Lib.hid hy0
    have HY1 := Lib.hid hy1
    clear hy0 ny0 sy0 by0 hy1 ny1 sy1 by1
    go_enter Tryd.func5, Tryd.ntmps5
    go_wp2_with fail
    rw [← HY0.out, ← HY1.out]
    refine (AL.out _ NY.out).mono ?_
    rintro e z1 ⟨rfl, q1⟩
    have M1 := Lib.hid q1
    clear q1
    obtain ⟨c0, c1, c2, c3, c4, c5, c6, c7, c8, c9, c10⟩ := (B0.out.nb M1.out).c11
    obtain ⟨d0, d1, d2, d3, d4, d5, d6, d7, d8, d9, d10⟩ := (B1.out.nb M1.out).c11
    rcases hor with rfl | ⟨rfl, rfl⟩ | ⟨rfl, rfl, h3⟩ | ⟨rfl, rfl, h3, h4⟩
    all_goals simp only [Bool.false_eq_true, if_false, if_true] at K1 K2
    all_goals go_wp2_with fail
    all_goals refine (K1.out _ (NY.out.tr M1.out)).mono ?_
    all_goals rintro e z2 ⟨rfl, q2⟩
    all_goals have M2 := Lib.hid (M1.out.tr q2)
    all_goals clear q2
    all_goals clear c0 c1 c2 c3 c4 c5 c6 c7 c8 c9 c10 d0 d1 d2 d3 d4 d5 d6 d7 d8 d9 d10
    all_goals obtain ⟨c0, c1, c2, c3, c4, c5, c6, c7, c8, c9, c10⟩ := (B0.out.nb M2.out).c11
    all_goals obtain ⟨d0, d1, d2, d3, d4, d5, d6, d7, d8, d9, d10⟩ := (B1.out.nb M2.out).c11
    · go_wp2
      go_ret
      exact ⟨rfl, NY.out.tr M2.out⟩
    all_goals go_wp2_with fail
    all_goals refine (K2.out _ (NY.out.tr M2.out)).mono ?_
    all_goals rintro e z3 ⟨rfl, q3⟩
    all_goals have M3 := Lib.hid (M2.out.tr q3)
    all_goals clear q3
    all_goals clear c0 c1 c2 c3 c4 c5 c6 c7 c8 c9 c10 d0 d1 d2 d3 d4 d5 d6 d7 d8 d9 d10
    all_goals obtain ⟨c0, c1, c2, c3, c4, c5, c6, c7, c8, c9, c10⟩ := (B0.out.nb M3.out).c11
    all_goals obtain ⟨d0, d1, d2, d3, d4, d5, d6, d7, d8, d9, d10⟩ := (B1.out.nb M3.out).c11
    · go_wp2
      go_ret
      exact ⟨rfl, NY.out.tr M3.out⟩
    · have d0 : decide ((100 : Int) < (l0_10.length : Int)) = true := decide_eq_true (by omega)
      clear h3
      go_wp2
      go_ret
      exact ⟨rfl, NY.out.tr M3.out⟩
    · have d0 : decide ((100 : Int) < (l0_10.length : Int)) = false := decide_eq_false (by omega)
      have d1 : decide ((100 : Int) < (l1_10.length : Int)) = true := decide_eq_true (by omega)
      clear h3 h4
      go_wp2
      go_ret
      exact ⟨rfl, NY.out.tr M3.out⟩
  obtain ⟨hf, hg, hl0, hl1⟩ := hok
  rw [if_pos hf] at k1
  rw [if_pos hg] at k2
  have d0 : decide ((100 : Int) < (l0_10.length : Int)) = false := decide_eq_false (by omega)
  have d1 : decide ((100 : Int) < (l1_10.length : Int)) = false := decide_eq_false (by omega)
  have k3 := fun w' (n : Nb w w') => compare_any ⟨a0_0, a0_1, a0_2, a0_3, a0_4, a0_5, a0_6, a0_7, a0_8, a0_9⟩ ⟨a1_0, a1_1, a1_2, a1_3, a1_4, a1_5, a1_6, a1_7, a1_8, a1_9⟩ a0_10 a1_10 cap0_10 cap1_10 l0_10 l1_10 w' (h0_10.below n) (h1_10.below n) hI hJ (hK.below n).2
  unfold AnsC at k3
  rw [show cmpE ⟨a0_0, a0_1, a0_2, a0_3, a0_4, a0_5, a0_6, a0_7, a0_8, a0_9⟩ ⟨a1_0, a1_1, a1_2, a1_3, a1_4, a1_5, a1_6, a1_7, a1_8, a1_9⟩ l0_10 l1_10 = 0 by simp [cmpE, hf, hg]] at k3
  have k4 := fun w' (n : Nb w w') => wire9_any ⟨a0_0, a0_1, a0_2, a0_3, a0_4, a0_5, a0_6, a0_7, a0_8, a0_9⟩ a0_10 cap0_10 l0_10 w' (h0_10.below n) hW0 (hK.below n).1 (hK.below n).2
  have k5 := fun w' (n : Nb w w') => wire9_any ⟨a1_0, a1_1, a1_2, a1_3, a1_4, a1_5, a1_6, a1_7, a1_8, a1_9⟩ a1_10 cap1_10 l1_10 w' (h1_10.below n) hW1 (hK.below n).1 (hK.below n).2
  rw [erF_ok hf] at k4
  rw [erF_ok hg] at k5
  have hd := dif_of hf hg hI hJ
  obtain ⟨ha1, ha2⟩ := arb_le hf hI
  obtain ⟨hb1, hb2⟩ := arb_le hg hJ
  generalize cmpV ⟨a0_0, a0_1, a0_2, a0_3, a0_4, a0_5, a0_6, a0_7, a0_8, a0_9⟩ ⟨a1_0, a1_1, a1_2, a1_3, a1_4, a1_5, a1_6, a1_7, a1_8, a1_9⟩ l0_10 l1_10 = X1 at *
  generalize wF ⟨a0_0, a0_1, a0_2, a0_3, a0_4, a0_5, a0_6, a0_7, a0_8, a0_9⟩ l0_10 = WA at *
  generalize wF ⟨a1_0, a1_1, a1_2, a1_3, a1_4, a1_5, a1_6, a1_7, a1_8, a1_9⟩ l1_10 = WB at *
  generalize arbF ⟨a0_0, a0_1, a0_2, a0_3, a0_4, a0_5, a0_6, a0_7, a0_8, a0_9⟩ l0_10 = NA at *
  generalize arbF ⟨a1_0, a1_1, a1_2, a1_3, a1_4, a1_5, a1_6, a1_7, a1_8, a1_9⟩ l1_10 = NB at *
  generalize ackF ⟨a0_0, a0_1, a0_2, a0_3, a0_4, a0_5, a0_6, a0_7, a0_8, a0_9⟩ l0_10 = CA at *
  generalize ackF ⟨a1_0, a1_1, a1_2, a1_3, a1_4, a1_5, a1_6, a1_7, a1_8, a1_9⟩ l1_10 = CB at *
  unfold AnsW at k4 k5
  simp only [Hd.cs] at k3 k4 k5
  have K1 := Lib.hid k1
  have K2 := Lib.hid k2
  have K3 := Lib.hid k3
  have K4 := Lib.hid k4
  have K5 := Lib.hid k5
  have HD := Lib.hid hd
  clear k1 k2 k3 k4 k5 hd hf hg hl0 hl1 hK h0_10 h1_10 n0_10 n1_10 hW0 hW1 hI hJ
  obtain ⟨y0, hy0⟩ : ∃ y0, y0 = w.alloc (.cells #[.int .i64 a0_0, .int .u32 a0_1, .bool a0_2, .bool a0_3, .bool a0_4, .bool a0_5, .bool a0_6, .int .u8 a0_7, .int .u8 a0_8, .int .u32 a0_9, .slice a0_10 l0_10.length cap0_10] 25) := ⟨_, rfl⟩
  have ny0 : Nb w y0 := by rw [hy0]; exact Nb.rfl.al _
  have sy0 : y0.heap.size = w.heap.size + 1 := by rw [hy0, World.size_alloc]
  have by0 : Blk y0 w.heap.size #[.int .i64 a0_0, .int .u32 a0_1, .bool a0_2, .bool a0_3, .bool a0_4, .bool a0_5, .bool a0_6, .int .u8 a0_7, .int .u8 a0_8, .int .u32 a0_9, .slice a0_10 l0_10.length cap0_10] 25 := by rw [hy0]; exact Blk.new _ _ _
  obtain ⟨y1, hy1⟩ : ∃ y1, y1 = y0.alloc (.cells #[.int .i64 a1_0, .int .u32 a1_1, .bool a1_2, .bool a1_3, .bool a1_4, .bool a1_5, .bool a1_6, .int .u8 a1_7, .int .u8 a1_8, .int .u32 a1_9, .slice a1_10 l1_10.length cap1_10] 25) := ⟨_, rfl⟩
  have ny1 : Nb y0 y1 := by rw [hy1]; exact Nb.rfl.al _
  have sy1 : y1.heap.size = w.heap.size + 2 := by rw [hy1, World.size_alloc, sy0]
  have by1 : Blk y1 y0.heap.size #[.int .i64 a1_0, .int .u32 a1_1, .bool a1_2, .bool a1_3, .bool a1_4, .bool a1_5, .bool a1_6, .int .u8 a1_7, .int .u8 a1_8, .int .u32 a1_9, .slice a1_10 l1_10.length cap1_10] 25 := by rw [hy1]; exact Blk.new _ _ _
  rw [sy0] at by1
  have B0 := Lib.hid ((by0.nb ny1) : Blk y1 w.heap.size #[.int .i64 a0_0, .int .u32 a0_1, .bool a0_2, .bool a0_3, .bool a0_4, .bool a0_5, .bool a0_6, .int .u8 a0_7, .int .u8 a0_8, .int .u32 a0_9, .slice a0_10 l0_10.length cap0_10] 25)
  have B1 := Lib.hid (by1 : Blk y1 (w.heap.size + 1) #[.int .i64 a1_0, .int .u32 a1_1, .bool a1_2, .bool a1_3, .bool a1_4, .bool a1_5, .bool a1_6, .int .u8 a1_7, .int .u8 a1_8, .int .u32 a1_9, .slice a1_10 l1_10.length cap1_10] 25)
  have NY := Lib.hid ((Nb.tr ny0 ny1) : Nb w y1)
  have HY0 := Lib.hid hy0
  have HY1 := Lib.hid hy1
  clear hy0 ny0 sy0 by0 hy1 ny1 sy1 by1
  go_enter Tryd.func5, Tryd.ntmps5
  go_wp2_with fail
  rw [← HY0.out, ← HY1.out]
  refine (AL.out _ NY.out).mono ?_
  rintro e z1 ⟨rfl, q1⟩
  have M1 := Lib.hid q1
  clear q1
  obtain ⟨c0, c1, c2, c3, c4, c5, c6, c7, c8, c9, c10⟩ := (B0.out.nb M1.out).c11
  obtain ⟨d0, d1, d2, d3, d4, d5, d6, d7, d8, d9, d10⟩ := (B1.out.nb M1.out).c11
  go_wp2_with fail
  refine (K1.out _ (NY.out.tr M1.out)).mono ?_
  rintro e z2 ⟨rfl, q2⟩
  have M2 := Lib.hid (M1.out.tr q2)
  clear q2
  clear c0 c1 c2 c3 c4 c5 c6 c7 c8 c9 c10 d0 d1 d2 d3 d4 d5 d6 d7 d8 d9 d10
  obtain ⟨c0, c1, c2, c3, c4, c5, c6, c7, c8, c9, c10⟩ := (B0.out.nb M2.out).c11
  obtain ⟨d0, d1, d2, d3, d4, d5, d6, d7, d8, d9, d10⟩ := (B1.out.nb M2.out).c11
  go_wp2_with fail
  refine (K2.out _ (NY.out.tr M2.out)).mono ?_
  rintro e z3 ⟨rfl, q3⟩
  have M3 := Lib.hid (M2.out.tr q3)
  clear q3
  clear c0 c1 c2 c3 c4 c5 c6 c7 c8 c9 c10 d0 d1 d2 d3 d4 d5 d6 d7 d8 d9 d10
  obtain ⟨c0, c1, c2, c3, c4, c5, c6, c7, c8, c9, c10⟩ := (B0.out.nb M3.out).c11
  obtain ⟨d0, d1, d2, d3, d4, d5, d6, d7, d8, d9, d10⟩ := (B1.out.nb M3.out).c11
  go_wp2_with fail
  refine (K3.out _ (NY.out.tr M3.out)).mono ?_
  rintro e z4 ⟨rfl, q4⟩
  have M4 := Lib.hid (M3.out.tr q4)
  clear q4
  clear c0 c1 c2 c3 c4 c5 c6 c7 c8 c9 c10 d0 d1 d2 d3 d4 d5 d6 d7 d8 d9 d10
  obtain ⟨c0, c1, c2, c3, c4, c5, c6, c7, c8, c9, c10⟩ := (B0.out.nb M4.out).c11
  obtain ⟨d0, d1, d2, d3, d4, d5, d6, d7, d8, d9, d10⟩ := (B1.out.nb M4.out).c11
  go_wp2_with fail
  refine (K4.out _ (NY.out.tr M4.out)).mono ?_
  rintro e z5 ⟨⟨a5, e5, rfl, f5⟩, q5⟩
  have M5 := Lib.hid (M4.out.tr q5)
  have W5 := Lib.hid (fun w' (n : Nb z5 w') => f5.1.asBs.1.below n)
  clear q5 f5
  clear c0 c1 c2 c3 c4 c5 c6 c7 c8 c9 c10 d0 d1 d2 d3 d4 d5 d6 d7 d8 d9 d10
  obtain ⟨c0, c1, c2, c3, c4, c5, c6, c7, c8, c9, c10⟩ := (B0.out.nb M5.out).c11
  obtain ⟨d0, d1, d2, d3, d4, d5, d6, d7, d8, d9, d10⟩ := (B1.out.nb M5.out).c11
  have hw5 := (B0.out.nb M5.out).lt
  have hw5' := (B1.out.nb M5.out).lt
  go_wp2_with fail
  refine (K5.out _ (NY.out.tr (Nb.al M5.out _))).mono ?_
  rintro e z6 ⟨⟨a6, e6, rfl, f6⟩, q6⟩
  have N56 := Lib.hid ((Nb.rfl.al _).tr q6 : Nb z5 z6)
  have M6 := Lib.hid (M5.out.tr N56.out)
  have XA6 := Lib.hid ((Blk.new z5 #[.slice a5 WA.length e5, .int .i64 NA, .int .i64 CA] 43).nb q6)
  have W6 := Lib.hid (fun w' (n : Nb z6 w') => W5.out w' (N56.out.tr n))
  have V6 := Lib.hid (fun w' (n : Nb z6 w') => f6.1.asBs.1.below n)
  have lt6 : z5.heap.size < z6.heap.size := XA6.out.lt
  clear q6 f6
  clear c0 c1 c2 c3 c4 c5 c6 c7 c8 c9 c10 d0 d1 d2 d3 d4 d5 d6 d7 d8 d9 d10
  obtain ⟨x0, x1, x2⟩ := XA6.out.c3
  obtain ⟨M, hM⟩ : ∃ M, M = min NA NB := ⟨_, rfl⟩
  have hMA : M ≤ NA := by omega
  have hMB : M ≤ NB := by omega
  have hmin : ∀ (ts : Array TypeId) (ty : TypeId) (w : World), (Builtin.min_ ts ty #[.int .i64 (NA : Int), .int .i64 (NB : Int)]).run Tryd.prog w = .ok (.int .i64 (M : Int)) w := fun ts ty w => by
    rw [run_min2, show min (NA : Int) (NB : Int) = (M : Int) by omega]
  have HM := Lib.hid hM
  clear hM
  go_wp2
  obtain ⟨z7, hz7⟩ : ∃ z7, z7 = z6.alloc (.cells #[.slice a6 WB.length e6, .int .i64 NB, .int .i64 CB] 43) := ⟨_, rfl⟩
  have n67 : Nb z6 z7 := by rw [hz7]; exact Nb.rfl.al _
  have XB7 := Lib.hid (show Blk z7 z6.heap.size #[.slice a6 WB.length e6, .int .i64 NB, .int .i64 CB] 43 by rw [hz7]; exact Blk.new _ _ _)
  have XA7 := Lib.hid (XA6.out.nb n67)
  have M7 := Lib.hid (NY.out.tr (M6.out.tr n67))
  have N67 := Lib.hid n67
  rw [← hz7]
  clear hz7 n67 x0 x1 x2
  rcases HD.out with ⟨hx, hN, hall⟩ | ⟨d, hdA, hdB, hall, hdd⟩
  · subst hx hN
    have HAll := Lib.hid hall
    have hMe : M = NA := by have := HM.out; omega
    clear hall hMB
    go_loopw [65] (fun ix wr => ∃ k : Nat, k ≤ M ∧ ix = .int .i64 k ∧ Nb z7 wr) (fun ix _ => M - (intOf ix).toNat)
    case atStart => exact ⟨0, Nat.zero_le _, rfl, Nb.rfl⟩
    case round =>
      obtain ⟨k, hk, rfl, hnb⟩ := hrel
      have NW := Lib.hid hnb
      clear hnb
      obtain ⟨x0, x1, x2⟩ := (XA7.out.nb NW.out).c3
      obtain ⟨y0, y1, y2⟩ := (XB7.out.nb NW.out).c3
      by_cases hkM : k < M
      · obtain ⟨bA, oA, rfl, hcA⟩ := (W6.out _ (N67.out.tr NW.out)).hcells (by omega)
        obtain ⟨bB, oB, rfl, hcB⟩ := (V6.out _ (N67.out.tr NW.out)).hcells (by omega)
        have u1 := hcA k (by omega)
        have u2 := hcB k (by omega)
        have kM : (k : Int) < (M : Int) := by omega
        have kb : (k : Int) ≤ 1000 := by omega
        have kA : (k : Int) < (WA.length : Int) := by omega
        have kB : (k : Int) < (WB.length : Int) := by omega
        have o3 := HAll.out k (by omega)
        rw [← o3] at u2
        generalize WA.getD k 0 = u at u1 u2
        clear o3 hcA hcB hMe
        go_wp2_with fail
        go_quiet (fail)
        rename_i nq
        have NW2 := Lib.hid (NW.out.tr (Nb.drewN wr nq))
        clear u1 u2 x0 x1 x2 y0 y1 y2
        generalize wr.drewN nq = wd at *
        go_wp2
        go_roundw
        case rel => exact ⟨k + 1, by omega, by go_num, NW2.out⟩
        case measure => simp [intOf]; omega
      · have kM : decide ((k : Int) < (M : Int)) = false := decide_eq_false (by omega)
        clear hMe
        go_wp2
        go_ret
        exact ⟨by simp, M7.out.tr NW.out⟩
  · have HAll := Lib.hid hall
    have HDd := Lib.hid hdd
    have hdM : d < M := by have := HM.out; omega
    clear hall hdd
    go_loopw [65] (fun ix wr => ∃ k : Nat, k ≤ d ∧ ix = .int .i64 k ∧ Nb z7 wr) (fun ix _ => M - (intOf ix).toNat)
    case atStart => exact ⟨0, Nat.zero_le _, rfl, Nb.rfl⟩
    case round =>
      obtain ⟨k, hk, rfl, hnb⟩ := hrel
      have NW := Lib.hid hnb
      clear hnb
      obtain ⟨x0, x1, x2⟩ := (XA7.out.nb NW.out).c3
      obtain ⟨y0, y1, y2⟩ := (XB7.out.nb NW.out).c3
      obtain ⟨bA, oA, rfl, hcA⟩ := (W6.out _ (N67.out.tr NW.out)).hcells (by omega)
      obtain ⟨bB, oB, rfl, hcB⟩ := (V6.out _ (N67.out.tr NW.out)).hcells (by omega)
      have u1 := hcA k (by omega)
      have u2 := hcB k (by omega)
      have kM : (k : Int) < (M : Int) := by omega
      have kb : (k : Int) ≤ 1000 := by omega
      have kA : (k : Int) < (WA.length : Int) := by omega
      have kB : (k : Int) < (WB.length : Int) := by omega
      clear hcA hcB
      by_cases hkd : k = d
      · subst hkd
        rcases HDd.out with ⟨rfl, o1, o2⟩ | ⟨rfl, o1, o2⟩
        all_goals rw [o1] at u1
        all_goals rw [o2] at u2
        all_goals clear o1 o2
        all_goals go_wp2_with fail
        all_goals go_quiet (fail)
        all_goals rename_i nq
        all_goals have NW2 := Lib.hid (NW.out.tr (Nb.drewN wr nq))
        all_goals clear x0 x1 x2 y0 y1 y2
        all_goals obtain ⟨x0, x1, x2⟩ := (XA7.out.nb NW2.out).c3
        all_goals obtain ⟨y0, y1, y2⟩ := (XB7.out.nb NW2.out).c3
        · have v1 : (wr.drewN nq).cell? ⟨bA, oA + k, none⟩ = some (.int .u8 0) := u1
          have v2 : (wr.drewN nq).cell? ⟨bB, oB + k, none⟩ = some (.int .u8 1) := u2
          clear u1 u2
          generalize wr.drewN nq = wd at *
          have M9 := Lib.hid (fun n => (M7.out.tr NW2.out).tr (Nb.drewN wd n))
          go_wp2_with fail
          go_quiet (fail)
          go_wp2
          go_ret
          exact ⟨rfl, M9.out _⟩
        · have v1 : (wr.drewN nq).cell? ⟨bA, oA + k, none⟩ = some (.int .u8 1) := u1
          have v2 : (wr.drewN nq).cell? ⟨bB, oB + k, none⟩ = some (.int .u8 0) := u2
          clear u1 u2
          generalize wr.drewN nq = wd at *
          have M9 := Lib.hid (fun n => (M7.out.tr NW2.out).tr (Nb.drewN wd n))
          go_wp2_with fail
          go_quiet (fail)
          go_wp2
          go_ret
          exact ⟨rfl, M9.out _⟩
      · have o3 := HAll.out k (by omega)
        rw [← o3] at u2
        generalize WA.getD k 0 = u at u1 u2
        clear o3
        go_wp2_with fail
        go_quiet (fail)
        rename_i nq
        have NW2 := Lib.hid (NW.out.tr (Nb.drewN wr nq))
        clear u1 u2 x0 x1 x2 y0 y1 y2
        generalize wr.drewN nq = wd at *
        go_wp2
        go_roundw
        case rel => exact ⟨k + 1, by omega, by go_num, NW2.out⟩
        case measure => simp [intOf]; omega

theorem door_met (os : Os) (args : Array Value) : laidMetH Tryd.prog Rows.orderWireRow.laid ((World.doorLaid Tryd.prog 24 os).forCall (fun _ _ => 0) ⟨#[], args, []⟩).memory :=
  laidMetH_of_parts3 (fuel := 8) (laidMet_of_run' 8 (by kernel_rfl) (by kernel_rfl)) (by kernel_rfl) (by kernel_rfl)
set_option maxHeartbeats 2000000 in
set_option maxRecDepth 100000 in
theorem lifted (os : Os) (started : os.Started) (H : Type) (enc : TypeId × Value → H) :
    ReturnsInHanded {} Tryd.checked os 5 .any (fun w args => (Rows.orderWireSpec.pre enc Tryd.prog Tryd.f5 [] false w args ∧ laidMetH Tryd.prog Rows.orderWireRow.laid w) ∧ sizedMet enc Tryd.prog Tryd.f5 (OpenSpec.ofChange Rows.orderWireSpec) false w args)
      (Rows.orderWireSpec.post enc Tryd.prog Tryd.f5 false true false false) := by
  refine returnsInHanded_of_change_and (C := Tryd.checked) (X := fun w _ => laidMetH Tryd.prog Rows.orderWireRow.laid w) (fun _ _ _ hh h => h.of_heap hh) own started (by kernel_rfl) Tryd.func5
    (ChangeSpec.witness_shaped (enc := enc) (C := Tryd.checked) (os := os) (X := fun w _ => laidMetH Tryd.prog Rows.orderWireRow.laid w) false (World.doorLaid Tryd.prog 24 os) #[.agg #[.int .i64 0, .int .u32 0, .bool false, .bool false, .bool false, .bool false, .bool false, .int .u8 0, .int .u8 0, .int .u32 0, .slice none 0 0], .agg #[.int .i64 0, .int .u32 0, .bool false, .bool false, .bool false, .bool false, .bool false, .int .u8 0, .int .u8 0, .int .u32 0, .slice none 0 0]] 8 rfl (World.shaped_of_RefB (by kernel_rfl) (by kernel_rfl)) (by kernel_rfl) (by kernel_rfl) (by kernel_rfl) (door_met os _)) ?_
  intro W base args ds gs before hval0 hW _ hR hL _
  have hval : ∀ (j : Nat) t v, Tryd.f5.params[j]? = some t → args[j]? = some v → Value.okWide Tryd.prog W .any base t v := hval0
  have hW' := hW
  obtain ⟨p, q, hA0, hV, rfl, hfz, hnd⟩ := hW
  have hA : DataW.TrodAll enc Tryd.prog W 0 (fun _ => true) true Tryd.f5.params.toList args.toList ds p := hA0
  rw [Tryd.params5] at hA hval
  obtain ⟨v0, vs0, d0, ds0, p0, q0, hargs, rfl, rfl, h0, r0⟩ := trodAll_cons hA
  obtain ⟨v1, vs1, d1, ds1, p1, q1, rfl, rfl, rfl, h1, r1⟩ := trodAll_cons r0
  obtain ⟨rfl, rfl, rfl⟩ := trodAll_nil r1
  obtain rfl : args = #[v0, v1] := by cases args; simp_all
  obtain ⟨rfl, rfl⟩ := trodVars_none hV
  have k0 := h0
  have lt0 : ∀ x ∈ p0, x.block < W.heap.size := by obtain ⟨m, hm⟩ := k0; exact DataW.trod_lt m _ _ _ hm
  have k1 := h1
  have lt1 : ∀ x ∈ p1, x.block < W.heap.size := by obtain ⟨m, hm⟩ := k1; exact DataW.trod_lt m _ _ _ hm
  clear hA0
  obtain ⟨cs0, rfl, hz0⟩ := okWide_struct Tryd.underlying25 (hval 0 25 v0 rfl rfl)
  obtain ⟨c0_0, c0_1, c0_2, c0_3, c0_4, c0_5, c0_6, c0_7, c0_8, c0_9, c0_10, rfl⟩ := arr11 (hz0.trans (by kernel_rfl))
  obtain ⟨fu0, hf0⟩ := h0
  have hc0 : DataW.trod enc Tryd.prog W 0 (fun _ => true) true fu0 25 [c0_0, c0_1, c0_2, c0_3, c0_4, c0_5, c0_6, c0_7, c0_8, c0_9, c0_10] = some (d0, p0) := hf0
  obtain ⟨m0_0, y0_0, g0_0⟩ := open_fld Tryd.underlying25 hc0 0 _ rfl
  have t0_0 : DataW.trod enc Tryd.prog W 0 (fun _ => true) true m0_0 3 (([c0_0, c0_1, c0_2, c0_3, c0_4, c0_5, c0_6, c0_7, c0_8, c0_9, c0_10].drop 0).take (Tryd.prog.cellsOf 3)) = some y0_0 := g0_0
  rw [show Tryd.prog.cellsOf 3 = 1 from by kernel_rfl] at t0_0
  have u0_0 : DataW.trod enc Tryd.prog W 0 (fun _ => true) true m0_0 3 [c0_0] = some y0_0 := t0_0
  obtain ⟨m0_1, y0_1, g0_1⟩ := open_fld Tryd.underlying25 hc0 1 _ rfl
  have t0_1 : DataW.trod enc Tryd.prog W 0 (fun _ => true) true m0_1 22 (([c0_0, c0_1, c0_2, c0_3, c0_4, c0_5, c0_6, c0_7, c0_8, c0_9, c0_10].drop 1).take (Tryd.prog.cellsOf 22)) = some y0_1 := g0_1
  rw [show Tryd.prog.cellsOf 22 = 1 from by kernel_rfl] at t0_1
  have u0_1 : DataW.trod enc Tryd.prog W 0 (fun _ => true) true m0_1 22 [c0_1] = some y0_1 := t0_1
  obtain ⟨m0_2, y0_2, g0_2⟩ := open_fld Tryd.underlying25 hc0 2 _ rfl
  have t0_2 : DataW.trod enc Tryd.prog W 0 (fun _ => true) true m0_2 4 (([c0_0, c0_1, c0_2, c0_3, c0_4, c0_5, c0_6, c0_7, c0_8, c0_9, c0_10].drop 2).take (Tryd.prog.cellsOf 4)) = some y0_2 := g0_2
  rw [show Tryd.prog.cellsOf 4 = 1 from by kernel_rfl] at t0_2
  have u0_2 : DataW.trod enc Tryd.prog W 0 (fun _ => true) true m0_2 4 [c0_2] = some y0_2 := t0_2
  obtain ⟨m0_3, y0_3, g0_3⟩ := open_fld Tryd.underlying25 hc0 3 _ rfl
  have t0_3 : DataW.trod enc Tryd.prog W 0 (fun _ => true) true m0_3 4 (([c0_0, c0_1, c0_2, c0_3, c0_4, c0_5, c0_6, c0_7, c0_8, c0_9, c0_10].drop 3).take (Tryd.prog.cellsOf 4)) = some y0_3 := g0_3
  rw [show Tryd.prog.cellsOf 4 = 1 from by kernel_rfl] at t0_3
  have u0_3 : DataW.trod enc Tryd.prog W 0 (fun _ => true) true m0_3 4 [c0_3] = some y0_3 := t0_3
  obtain ⟨m0_4, y0_4, g0_4⟩ := open_fld Tryd.underlying25 hc0 4 _ rfl
  have t0_4 : DataW.trod enc Tryd.prog W 0 (fun _ => true) true m0_4 4 (([c0_0, c0_1, c0_2, c0_3, c0_4, c0_5, c0_6, c0_7, c0_8, c0_9, c0_10].drop 4).take (Tryd.prog.cellsOf 4)) = some y0_4 := g0_4
  rw [show Tryd.prog.cellsOf 4 = 1 from by kernel_rfl] at t0_4
  have u0_4 : DataW.trod enc Tryd.prog W 0 (fun _ => true) true m0_4 4 [c0_4] = some y0_4 := t0_4
  obtain ⟨m0_5, y0_5, g0_5⟩ := open_fld Tryd.underlying25 hc0 5 _ rfl
  have t0_5 : DataW.trod enc Tryd.prog W 0 (fun _ => true) true m0_5 4 (([c0_0, c0_1, c0_2, c0_3, c0_4, c0_5, c0_6, c0_7, c0_8, c0_9, c0_10].drop 5).take (Tryd.prog.cellsOf 4)) = some y0_5 := g0_5
  rw [show Tryd.prog.cellsOf 4 = 1 from by kernel_rfl] at t0_5
  have u0_5 : DataW.trod enc Tryd.prog W 0 (fun _ => true) true m0_5 4 [c0_5] = some y0_5 := t0_5
  obtain ⟨m0_6, y0_6, g0_6⟩ := open_fld Tryd.underlying25 hc0 6 _ rfl
  have t0_6 : DataW.trod enc Tryd.prog W 0 (fun _ => true) true m0_6 4 (([c0_0, c0_1, c0_2, c0_3, c0_4, c0_5, c0_6, c0_7, c0_8, c0_9, c0_10].drop 6).take (Tryd.prog.cellsOf 4)) = some y0_6 := g0_6
  rw [show Tryd.prog.cellsOf 4 = 1 from by kernel_rfl] at t0_6
  have u0_6 : DataW.trod enc Tryd.prog W 0 (fun _ => true) true m0_6 4 [c0_6] = some y0_6 := t0_6
  obtain ⟨m0_7, y0_7, g0_7⟩ := open_fld Tryd.underlying25 hc0 7 _ rfl
  have t0_7 : DataW.trod enc Tryd.prog W 0 (fun _ => true) true m0_7 5 (([c0_0, c0_1, c0_2, c0_3, c0_4, c0_5, c0_6, c0_7, c0_8, c0_9, c0_10].drop 7).take (Tryd.prog.cellsOf 5)) = some y0_7 := g0_7
  rw [show Tryd.prog.cellsOf 5 = 1 from by kernel_rfl] at t0_7
  have u0_7 : DataW.trod enc Tryd.prog W 0 (fun _ => true) true m0_7 5 [c0_7] = some y0_7 := t0_7
  obtain ⟨m0_8, y0_8, g0_8⟩ := open_fld Tryd.underlying25 hc0 8 _ rfl
  have t0_8 : DataW.trod enc Tryd.prog W 0 (fun _ => true) true m0_8 5 (([c0_0, c0_1, c0_2, c0_3, c0_4, c0_5, c0_6, c0_7, c0_8, c0_9, c0_10].drop 8).take (Tryd.prog.cellsOf 5)) = some y0_8 := g0_8
  rw [show Tryd.prog.cellsOf 5 = 1 from by kernel_rfl] at t0_8
  have u0_8 : DataW.trod enc Tryd.prog W 0 (fun _ => true) true m0_8 5 [c0_8] = some y0_8 := t0_8
  obtain ⟨m0_9, y0_9, g0_9⟩ := open_fld Tryd.underlying25 hc0 9 _ rfl
  have t0_9 : DataW.trod enc Tryd.prog W 0 (fun _ => true) true m0_9 22 (([c0_0, c0_1, c0_2, c0_3, c0_4, c0_5, c0_6, c0_7, c0_8, c0_9, c0_10].drop 9).take (Tryd.prog.cellsOf 22)) = some y0_9 := g0_9
  rw [show Tryd.prog.cellsOf 22 = 1 from by kernel_rfl] at t0_9
  have u0_9 : DataW.trod enc Tryd.prog W 0 (fun _ => true) true m0_9 22 [c0_9] = some y0_9 := t0_9
  obtain ⟨m0_10, y0_10, g0_10⟩ := open_fld Tryd.underlying25 hc0 10 _ rfl
  have t0_10 : DataW.trod enc Tryd.prog W 0 (fun _ => true) true m0_10 23 (([c0_0, c0_1, c0_2, c0_3, c0_4, c0_5, c0_6, c0_7, c0_8, c0_9, c0_10].drop 10).take (Tryd.prog.cellsOf 23)) = some y0_10 := g0_10
  rw [show Tryd.prog.cellsOf 23 = 1 from by kernel_rfl] at t0_10
  have u0_10 : DataW.trod enc Tryd.prog W 0 (fun _ => true) true m0_10 23 [c0_10] = some y0_10 := t0_10
  obtain ⟨a0_0, e0_0, x0_0, w0_0⟩ := DataW.trod_int Tryd.underlying3 u0_0
  obtain rfl : c0_0 = .int .i64 a0_0 := by simpa using e0_0
  obtain ⟨a0_1, e0_1, x0_1, w0_1⟩ := DataW.trod_int Tryd.underlying22 u0_1
  obtain rfl : c0_1 = .int .u32 a0_1 := by simpa using e0_1
  obtain ⟨a0_2, e0_2, x0_2⟩ := DataW.trod_bool Tryd.underlying4 u0_2
  obtain rfl : c0_2 = .bool a0_2 := by simpa using e0_2
  obtain ⟨a0_3, e0_3, x0_3⟩ := DataW.trod_bool Tryd.underlying4 u0_3
  obtain rfl : c0_3 = .bool a0_3 := by simpa using e0_3
  obtain ⟨a0_4, e0_4, x0_4⟩ := DataW.trod_bool Tryd.underlying4 u0_4
  obtain rfl : c0_4 = .bool a0_4 := by simpa using e0_4
  obtain ⟨a0_5, e0_5, x0_5⟩ := DataW.trod_bool Tryd.underlying4 u0_5
  obtain rfl : c0_5 = .bool a0_5 := by simpa using e0_5
  obtain ⟨a0_6, e0_6, x0_6⟩ := DataW.trod_bool Tryd.underlying4 u0_6
  obtain rfl : c0_6 = .bool a0_6 := by simpa using e0_6
  obtain ⟨a0_7, e0_7, x0_7, w0_7⟩ := DataW.trod_int Tryd.underlying5 u0_7
  obtain rfl : c0_7 = .int .u8 a0_7 := by simpa using e0_7
  obtain ⟨a0_8, e0_8, x0_8, w0_8⟩ := DataW.trod_int Tryd.underlying5 u0_8
  obtain rfl : c0_8 = .int .u8 a0_8 := by simpa using e0_8
  obtain ⟨a0_9, e0_9, x0_9, w0_9⟩ := DataW.trod_int Tryd.underlying22 u0_9
  obtain rfl : c0_9 = .int .u32 a0_9 := by simpa using e0_9
  obtain ⟨a0_10, cap0_10, l0_10, e0_10, hb0_10, n0_10⟩ := bytes_open u0_10
  subst e0_10
  obtain ⟨cs1, rfl, hz1⟩ := okWide_struct Tryd.underlying25 (hval 1 25 v1 rfl rfl)
  obtain ⟨c1_0, c1_1, c1_2, c1_3, c1_4, c1_5, c1_6, c1_7, c1_8, c1_9, c1_10, rfl⟩ := arr11 (hz1.trans (by kernel_rfl))
  obtain ⟨fu1, hf1⟩ := h1
  have hc1 : DataW.trod enc Tryd.prog W 0 (fun _ => true) true fu1 25 [c1_0, c1_1, c1_2, c1_3, c1_4, c1_5, c1_6, c1_7, c1_8, c1_9, c1_10] = some (d1, p1) := hf1
  obtain ⟨m1_0, y1_0, g1_0⟩ := open_fld Tryd.underlying25 hc1 0 _ rfl
  have t1_0 : DataW.trod enc Tryd.prog W 0 (fun _ => true) true m1_0 3 (([c1_0, c1_1, c1_2, c1_3, c1_4, c1_5, c1_6, c1_7, c1_8, c1_9, c1_10].drop 0).take (Tryd.prog.cellsOf 3)) = some y1_0 := g1_0
  rw [show Tryd.prog.cellsOf 3 = 1 from by kernel_rfl] at t1_0
  have u1_0 : DataW.trod enc Tryd.prog W 0 (fun _ => true) true m1_0 3 [c1_0] = some y1_0 := t1_0
  obtain ⟨m1_1, y1_1, g1_1⟩ := open_fld Tryd.underlying25 hc1 1 _ rfl
  have t1_1 : DataW.trod enc Tryd.prog W 0 (fun _ => true) true m1_1 22 (([c1_0, c1_1, c1_2, c1_3, c1_4, c1_5, c1_6, c1_7, c1_8, c1_9, c1_10].drop 1).take (Tryd.prog.cellsOf 22)) = some y1_1 := g1_1
  rw [show Tryd.prog.cellsOf 22 = 1 from by kernel_rfl] at t1_1
  have u1_1 : DataW.trod enc Tryd.prog W 0 (fun _ => true) true m1_1 22 [c1_1] = some y1_1 := t1_1
  obtain ⟨m1_2, y1_2, g1_2⟩ := open_fld Tryd.underlying25 hc1 2 _ rfl
  have t1_2 : DataW.trod enc Tryd.prog W 0 (fun _ => true) true m1_2 4 (([c1_0, c1_1, c1_2, c1_3, c1_4, c1_5, c1_6, c1_7, c1_8, c1_9, c1_10].drop 2).take (Tryd.prog.cellsOf 4)) = some y1_2 := g1_2
  rw [show Tryd.prog.cellsOf 4 = 1 from by kernel_rfl] at t1_2
  have u1_2 : DataW.trod enc Tryd.prog W 0 (fun _ => true) true m1_2 4 [c1_2] = some y1_2 := t1_2
  obtain ⟨m1_3, y1_3, g1_3⟩ := open_fld Tryd.underlying25 hc1 3 _ rfl
  have t1_3 : DataW.trod enc Tryd.prog W 0 (fun _ => true) true m1_3 4 (([c1_0, c1_1, c1_2, c1_3, c1_4, c1_5, c1_6, c1_7, c1_8, c1_9, c1_10].drop 3).take (Tryd.prog.cellsOf 4)) = some y1_3 := g1_3
  rw [show Tryd.prog.cellsOf 4 = 1 from by kernel_rfl] at t1_3
  have u1_3 : DataW.trod enc Tryd.prog W 0 (fun _ => true) true m1_3 4 [c1_3] = some y1_3 := t1_3
  obtain ⟨m1_4, y1_4, g1_4⟩ := open_fld Tryd.underlying25 hc1 4 _ rfl
  have t1_4 : DataW.trod enc Tryd.prog W 0 (fun _ => true) true m1_4 4 (([c1_0, c1_1, c1_2, c1_3, c1_4, c1_5, c1_6, c1_7, c1_8, c1_9, c1_10].drop 4).take (Tryd.prog.cellsOf 4)) = some y1_4 := g1_4
  rw [show Tryd.prog.cellsOf 4 = 1 from by kernel_rfl] at t1_4
  have u1_4 : DataW.trod enc Tryd.prog W 0 (fun _ => true) true m1_4 4 [c1_4] = some y1_4 := t1_4
  obtain ⟨m1_5, y1_5, g1_5⟩ := open_fld Tryd.underlying25 hc1 5 _ rfl
  have t1_5 : DataW.trod enc Tryd.prog W 0 (fun _ => true) true m1_5 4 (([c1_0, c1_1, c1_2, c1_3, c1_4, c1_5, c1_6, c1_7, c1_8, c1_9, c1_10].drop 5).take (Tryd.prog.cellsOf 4)) = some y1_5 := g1_5
  rw [show Tryd.prog.cellsOf 4 = 1 from by kernel_rfl] at t1_5
  have u1_5 : DataW.trod enc Tryd.prog W 0 (fun _ => true) true m1_5 4 [c1_5] = some y1_5 := t1_5
  obtain ⟨m1_6, y1_6, g1_6⟩ := open_fld Tryd.underlying25 hc1 6 _ rfl
  have t1_6 : DataW.trod enc Tryd.prog W 0 (fun _ => true) true m1_6 4 (([c1_0, c1_1, c1_2, c1_3, c1_4, c1_5, c1_6, c1_7, c1_8, c1_9, c1_10].drop 6).take (Tryd.prog.cellsOf 4)) = some y1_6 := g1_6
  rw [show Tryd.prog.cellsOf 4 = 1 from by kernel_rfl] at t1_6
  have u1_6 : DataW.trod enc Tryd.prog W 0 (fun _ => true) true m1_6 4 [c1_6] = some y1_6 := t1_6
  obtain ⟨m1_7, y1_7, g1_7⟩ := open_fld Tryd.underlying25 hc1 7 _ rfl
  have t1_7 : DataW.trod enc Tryd.prog W 0 (fun _ => true) true m1_7 5 (([c1_0, c1_1, c1_2, c1_3, c1_4, c1_5, c1_6, c1_7, c1_8, c1_9, c1_10].drop 7).take (Tryd.prog.cellsOf 5)) = some y1_7 := g1_7
  rw [show Tryd.prog.cellsOf 5 = 1 from by kernel_rfl] at t1_7
  have u1_7 : DataW.trod enc Tryd.prog W 0 (fun _ => true) true m1_7 5 [c1_7] = some y1_7 := t1_7
  obtain ⟨m1_8, y1_8, g1_8⟩ := open_fld Tryd.underlying25 hc1 8 _ rfl
  have t1_8 : DataW.trod enc Tryd.prog W 0 (fun _ => true) true m1_8 5 (([c1_0, c1_1, c1_2, c1_3, c1_4, c1_5, c1_6, c1_7, c1_8, c1_9, c1_10].drop 8).take (Tryd.prog.cellsOf 5)) = some y1_8 := g1_8
  rw [show Tryd.prog.cellsOf 5 = 1 from by kernel_rfl] at t1_8
  have u1_8 : DataW.trod enc Tryd.prog W 0 (fun _ => true) true m1_8 5 [c1_8] = some y1_8 := t1_8
  obtain ⟨m1_9, y1_9, g1_9⟩ := open_fld Tryd.underlying25 hc1 9 _ rfl
  have t1_9 : DataW.trod enc Tryd.prog W 0 (fun _ => true) true m1_9 22 (([c1_0, c1_1, c1_2, c1_3, c1_4, c1_5, c1_6, c1_7, c1_8, c1_9, c1_10].drop 9).take (Tryd.prog.cellsOf 22)) = some y1_9 := g1_9
  rw [show Tryd.prog.cellsOf 22 = 1 from by kernel_rfl] at t1_9
  have u1_9 : DataW.trod enc Tryd.prog W 0 (fun _ => true) true m1_9 22 [c1_9] = some y1_9 := t1_9
  obtain ⟨m1_10, y1_10, g1_10⟩ := open_fld Tryd.underlying25 hc1 10 _ rfl
  have t1_10 : DataW.trod enc Tryd.prog W 0 (fun _ => true) true m1_10 23 (([c1_0, c1_1, c1_2, c1_3, c1_4, c1_5, c1_6, c1_7, c1_8, c1_9, c1_10].drop 10).take (Tryd.prog.cellsOf 23)) = some y1_10 := g1_10
  rw [show Tryd.prog.cellsOf 23 = 1 from by kernel_rfl] at t1_10
  have u1_10 : DataW.trod enc Tryd.prog W 0 (fun _ => true) true m1_10 23 [c1_10] = some y1_10 := t1_10
  obtain ⟨a1_0, e1_0, x1_0, w1_0⟩ := DataW.trod_int Tryd.underlying3 u1_0
  obtain rfl : c1_0 = .int .i64 a1_0 := by simpa using e1_0
  obtain ⟨a1_1, e1_1, x1_1, w1_1⟩ := DataW.trod_int Tryd.underlying22 u1_1
  obtain rfl : c1_1 = .int .u32 a1_1 := by simpa using e1_1
  obtain ⟨a1_2, e1_2, x1_2⟩ := DataW.trod_bool Tryd.underlying4 u1_2
  obtain rfl : c1_2 = .bool a1_2 := by simpa using e1_2
  obtain ⟨a1_3, e1_3, x1_3⟩ := DataW.trod_bool Tryd.underlying4 u1_3
  obtain rfl : c1_3 = .bool a1_3 := by simpa using e1_3
  obtain ⟨a1_4, e1_4, x1_4⟩ := DataW.trod_bool Tryd.underlying4 u1_4
  obtain rfl : c1_4 = .bool a1_4 := by simpa using e1_4
  obtain ⟨a1_5, e1_5, x1_5⟩ := DataW.trod_bool Tryd.underlying4 u1_5
  obtain rfl : c1_5 = .bool a1_5 := by simpa using e1_5
  obtain ⟨a1_6, e1_6, x1_6⟩ := DataW.trod_bool Tryd.underlying4 u1_6
  obtain rfl : c1_6 = .bool a1_6 := by simpa using e1_6
  obtain ⟨a1_7, e1_7, x1_7, w1_7⟩ := DataW.trod_int Tryd.underlying5 u1_7
  obtain rfl : c1_7 = .int .u8 a1_7 := by simpa using e1_7
  obtain ⟨a1_8, e1_8, x1_8, w1_8⟩ := DataW.trod_int Tryd.underlying5 u1_8
  obtain rfl : c1_8 = .int .u8 a1_8 := by simpa using e1_8
  obtain ⟨a1_9, e1_9, x1_9, w1_9⟩ := DataW.trod_int Tryd.underlying22 u1_9
  obtain rfl : c1_9 = .int .u32 a1_9 := by simpa using e1_9
  obtain ⟨a1_10, cap1_10, l1_10, e1_10, hb1_10, n1_10⟩ := bytes_open u1_10
  subst e1_10
  refine (walk W (both_of hL) a0_0 w0_0 a0_1 w0_1 a0_2 a0_3 a0_4 a0_5 a0_6 a0_7 w0_7 a0_8 w0_8 a0_9 w0_9 a0_10 cap0_10 l0_10 hb0_10 n0_10 a1_0 w1_0 a1_1 w1_1 a1_2 a1_3 a1_4 a1_5 a1_6 a1_7 w1_7 a1_8 w1_8 a1_9 w1_9 a1_10 cap1_10 l1_10 hb1_10 n1_10).mono fun e W' ⟨he, bel⟩ => ?_
  subst he
  exact ⟨_, rfl, _, _, _, [], _, [], hW', trodAll_mk1 (shut_bool Tryd.underlying4 _), (trodAll_cons_mk (Below.trod laidOut (by kernel_rfl) (of_decide_eq_true (by kernel_rfl)) k0 bel lt0) (trodAll_cons_mk (Below.trod laidOut (by kernel_rfl) (of_decide_eq_true (by kernel_rfl)) k1 bel lt1) trodAll_mk0)), rfl, bel.frame _, fun h => by cases h⟩

theorem over : Rows.orderWireRow.holds Tryd.pinned (OpenSpec.ofChange Rows.orderWireSpec) :=
  OpenClaim.holds_of_wide 5 Tryd.f5 rfl rfl rfl rfl rfl rfl rfl ⟨rfl, rfl, rfl, rfl, rfl⟩ rfl rfl rfl rfl rfl (by kernel_rfl) Tryd.func5 (by kernel_rfl)
    (of_decide_eq_true (by kernel_rfl)) (by unfold Func.isWrapper; first | (rw [if_pos (by decide +kernel)]; kernel_rfl) | (rw [if_neg (by decide +kernel)]; exact ⟨rfl, rfl⟩))
    (fun os started H enc _ => lifted os started H enc)

theorem plain (f : FuncId) (fn : Func) (hf : Tryd.pinned.checked.prog.funcNamed "omnibus/omnibuslaw10.OrderWire" = some f) (hfn : Tryd.pinned.checked.prog.funcs[f]? = some fn) :
    true = Tryd.pinned.checked.prog.looks [] ∧ ∀ (j : Nat) t, fn.params[j]? = some t → Tryd.pinned.checked.prog.wantsStandIn t = false := by
  obtain rfl : f = 5 := Option.some.inj ((show Tryd.prog.funcNamed "omnibus/omnibuslaw10.OrderWire" = some 5 by kernel_rfl).symm.trans hf) |>.symm
  obtain rfl : fn = Tryd.f5 := (Option.some.inj (Tryd.func5.symm.trans hfn)).symm
  refine ⟨by kernel_rfl, fun j t ht => ?_⟩
  rw [Tryd.params5] at ht
  have hm : t ∈ [25] := by have := Array.mem_of_getElem? ht; simp at this ⊢; omega
  have hall : ([25].all fun u => !Tryd.prog.wantsStandIn u) = true := by kernel_rfl
  exact (show Tryd.prog.wantsStandIn t = false by simpa using List.all_eq_true.1 hall t hm)
theorem proved : Rows.OrderWireCardSaid :=
  Claim7.holds_tied_plain_at .later [] _ _ _ _ over (fun _ h => by cases h) (by kernel_rfl) (fun _ h => by cases h) orderWire_row_tie rfl ⟨rfl, rfl⟩ (by kernel_rfl) rfl plain (by kernel_rfl)
#print axioms proved
end Go.Proofs.YtfcmoamooafomaaDoor.orderWire
