/- For every two frames the law OrderData answers true and leaves its arguments as they were; the package's table of longer sizes is tied to the program's text. No conditions. -/
import Derived.Test.YtfcmoamooafomaaDoorRows
import Derived.Test.YtfcmoamooafomaaDoorCards
import Derived.Test.YtfcmoamooafomaaDoorTie
import Derived.Test.YtfcmoamooafomaaDoorOrA
import Derived.Test.YtfcmoamooafomaaDoorOrF
import Derived.Test.YtfcmoamooafomaaDoorOrD
import Derived.Test.YtfcmoamooafomaaDoorOrE
import Derived.Test.YtfcmoamooafomaaDoorOrG
import Derived.Test.YtfcmoamooafomaaDoorOrH
import Derived.Test.YtfcmoamooafomaaDoorClaP
import Derived.Test.YtfcmoamooafomaaDoorFdP
import Derived.Test.YtfcmoamooafomaaDoorFrmA
import Derived.WalkKit
import Derived.ProofKit
import Derived.OpenShut
import Derived.ShutString
import Derived.ChangeOld
import Derived.Below
import Derived.Carry
import Derived.Lib.SmallJoins
import Derived.Deep.RegionWith
import Derived.Deep.RegionHeld3
import Derived.LaidMore
import Derived.LaidLaws
import Derived.Stop.Joined
import Derived.SevenTiedAt
namespace Go.Proofs.YtfcmoamooafomaaDoor.orderData
open Go.ChangeShapes Go.WideShapes Go.ChangeAt Go.RowKit Go.Joins
set_option linter.unusedVariables false
set_option linter.unusedSimpArgs false
theorem own : ownKnob Tryd.prog.godebug = none := by kernel_rfl
theorem laidOut : laidOutB Tryd.prog = true := by kernel_rfl
theorem arr11 {α : Type} {cs : Array α} (h : cs.size = 11) : ∃ c0 c1 c2 c3 c4 c5 c6 c7 c8 c9 c10, cs = #[c0, c1, c2, c3, c4, c5, c6, c7, c8, c9, c10] := by
  obtain ⟨l⟩ := cs
  match l, h with
  | [c0, c1, c2, c3, c4, c5, c6, c7, c8, c9, c10], _ => exact ⟨c0, c1, c2, c3, c4, c5, c6, c7, c8, c9, c10, rfl⟩
set_option maxHeartbeats 8000000 in
set_option maxRecDepth 100000 in
theorem walk (w : World) (hK : Longer w) (a0_0 : Int) (w0_0 : (Lit.int .i64 a0_0).wf = true) (a0_1 : Int) (w0_1 : (Lit.int .u32 a0_1).wf = true) (a0_2 : Bool) (a0_3 : Bool) (a0_4 : Bool) (a0_5 : Bool) (a0_6 : Bool) (a0_7 : Int) (w0_7 : (Lit.int .u8 a0_7).wf = true) (a0_8 : Int) (w0_8 : (Lit.int .u8 a0_8).wf = true) (a0_9 : Int) (w0_9 : (Lit.int .u32 a0_9).wf = true) (a0_10 : Option Addr) (cap0_10 : Nat) (l0_10 : List Nat) (h0_10 : Bs w a0_10 cap0_10 l0_10) (n0_10 : a0_10 = none → cap0_10 = 0) (a1_0 : Int) (w1_0 : (Lit.int .i64 a1_0).wf = true) (a1_1 : Int) (w1_1 : (Lit.int .u32 a1_1).wf = true) (a1_2 : Bool) (a1_3 : Bool) (a1_4 : Bool) (a1_5 : Bool) (a1_6 : Bool) (a1_7 : Int) (w1_7 : (Lit.int .u8 a1_7).wf = true) (a1_8 : Int) (w1_8 : (Lit.int .u8 a1_8).wf = true) (a1_9 : Int) (w1_9 : (Lit.int .u32 a1_9).wf = true) (a1_10 : Option Addr) (cap1_10 : Nat) (l1_10 : List Nat) (h1_10 : Bs w a1_10 cap1_10 l1_10) (n1_10 : a1_10 = none → cap1_10 = 0) :
    Calls Tryd.prog 8 #[.agg #[.int .i64 a0_0, .int .u32 a0_1, .bool a0_2, .bool a0_3, .bool a0_4, .bool a0_5, .bool a0_6, .int .u8 a0_7, .int .u8 a0_8, .int .u32 a0_9, .slice a0_10 l0_10.length cap0_10], .agg #[.int .i64 a1_0, .int .u32 a1_1, .bool a1_2, .bool a1_3, .bool a1_4, .bool a1_5, .bool a1_6, .int .u8 a1_7, .int .u8 a1_8, .int .u32 a1_9, .slice a1_10 l1_10.length cap1_10]] w fun e w' => e = .returned (.bool true) ∧ Nb w w' := by

  have HK := Lib.hid hK
  have hL0 := h0_10.len
  have hL1 := h1_10.len
  by_cases hok : okF ⟨a0_0, a0_1, a0_2, a0_3, a0_4, a0_5, a0_6, a0_7, a0_8, a0_9⟩ l0_10 = true ∧ okF ⟨a1_0, a1_1, a1_2, a1_3, a1_4, a1_5, a1_6, a1_7, a1_8, a1_9⟩ l1_10 = true
  · obtain ⟨hf, hg⟩ := hok
    have hI := u32_wf w0_1
    have hJ := u32_wf w1_1
    rcases kind_of hf with h1 | h1 | h1
    · obtain ⟨i, e, _⟩ := okC_parts (f := ⟨a0_0, a0_1, a0_2, a0_3, a0_4, a0_5, a0_6, a0_7, a0_8, a0_9⟩) (l := l0_10) (by simp only [okC, hf]; simpa using h1) hI
      simp only [Hd.mk.injEq] at e
      obtain ⟨rfl, rfl, _, _, rfl, rfl, rfl, rfl, rfl, rfl⟩ := e
      cases a0_3 with
      | false => exact odata_cl0 w hK _ a0_2 a1_0 a1_1 a1_2 a1_3 a1_4 a1_5 a1_6 a1_7 a1_8 a1_9 a0_10 a1_10 cap0_10 cap1_10 l0_10 l1_10 h0_10 h1_10 hJ hI hf hg
      | true => exact odata_cl1 w hK _ a0_2 a1_0 a1_1 a1_2 a1_3 a1_4 a1_5 a1_6 a1_7 a1_8 a1_9 a0_10 a1_10 cap0_10 cap1_10 l0_10 l1_10 h0_10 h1_10 hJ hI hf hg
    · obtain ⟨i, e, _⟩ := okD_parts (f := ⟨a0_0, a0_1, a0_2, a0_3, a0_4, a0_5, a0_6, a0_7, a0_8, a0_9⟩) (l := l0_10) (by simp only [okD, hf]; simpa using h1) hI
      simp only [Hd.mk.injEq] at e
      obtain ⟨rfl, rfl, rfl, rfl, _, _, rfl, rfl, rfl, rfl⟩ := e
      exact odata_fd w hK _ a0_4 a0_5 a1_0 a1_1 a1_2 a1_3 a1_4 a1_5 a1_6 a1_7 a1_8 a1_9 a0_10 a1_10 cap0_10 cap1_10 l0_10 l1_10 h0_10 h1_10 hJ hI hf hg
    · obtain ⟨_, x1, x2, x3, x4, x5, x6⟩ := wd_of (f := ⟨a0_0, a0_1, a0_2, a0_3, a0_4, a0_5, a0_6, a0_7, a0_8, a0_9⟩) w0_1 w0_7 w0_8 w0_9
      obtain ⟨i, e, _⟩ := okX_parts (f := ⟨a0_0, a0_1, a0_2, a0_3, a0_4, a0_5, a0_6, a0_7, a0_8, a0_9⟩) (l := l0_10) (by simp only [okX, hf]; simpa using h1) hI
      simp only [Hd.mk.injEq] at e
      obtain ⟨rfl, rfl, rfl, rfl, rfl, rfl, _, _, _, _⟩ := e
      exact odata_xl w hK _ a0_6 a0_7 a0_8 a0_9 a1_0 a1_1 a1_2 a1_3 a1_4 a1_5 a1_6 a1_7 a1_8 a1_9 a0_10 a1_10 cap0_10 cap1_10 l0_10 l1_10 h0_10 h1_10 hJ hI ⟨x1, x2⟩ ⟨x3, x4⟩ ⟨x5, x6⟩ hf hg
  have k1 := fun w' (n : Nb w w') => check5_any ⟨a0_0, a0_1, a0_2, a0_3, a0_4, a0_5, a0_6, a0_7, a0_8, a0_9⟩ a0_10 cap0_10 l0_10 w' (h0_10.below n) (hK.below n)
  have k2 := fun w' (n : Nb w w') => check5_any ⟨a1_0, a1_1, a1_2, a1_3, a1_4, a1_5, a1_6, a1_7, a1_8, a1_9⟩ a1_10 cap1_10 l1_10 w' (h1_10.below n) (hK.below n)
  have hor : checkN ⟨a0_0, a0_1, a0_2, a0_3, a0_4, a0_5, a0_6, a0_7, a0_8, a0_9⟩ l0_10 = 2 ∨ checkN ⟨a0_0, a0_1, a0_2, a0_3, a0_4, a0_5, a0_6, a0_7, a0_8, a0_9⟩ l0_10 = 0 ∧ checkN ⟨a1_0, a1_1, a1_2, a1_3, a1_4, a1_5, a1_6, a1_7, a1_8, a1_9⟩ l1_10 = 2 := by
    unfold checkN
    cases h1 : okF ⟨a0_0, a0_1, a0_2, a0_3, a0_4, a0_5, a0_6, a0_7, a0_8, a0_9⟩ l0_10 with
    | false => exact .inl rfl
    | true =>
      cases h2 : okF ⟨a1_0, a1_1, a1_2, a1_3, a1_4, a1_5, a1_6, a1_7, a1_8, a1_9⟩ l1_10 with
      | false => exact .inr ⟨rfl, rfl⟩
      | true => exact absurd ⟨h1, h2⟩ hok
  have AL := Lib.hid (fun w' (n : Nb w w') => alive10_any w' (hK.below n))
  simp only [Hd.cs] at k1 k2
  generalize checkN ⟨a0_0, a0_1, a0_2, a0_3, a0_4, a0_5, a0_6, a0_7, a0_8, a0_9⟩ l0_10 = E1 at *
  generalize checkN ⟨a1_0, a1_1, a1_2, a1_3, a1_4, a1_5, a1_6, a1_7, a1_8, a1_9⟩ l1_10 = E2 at *
  have K1 := Lib.hid k1
  have K2 := Lib.hid k2
  clear k1 k2 hok hK h0_10 h1_10 n0_10 n1_10
  obtain ⟨y0, hy0⟩ : ∃ y0, y0 = w.alloc (.cells #[.int .i64 a0_0, .int .u32 a0_1, .bool a0_2, .bool a0_3, .bool a0_4, .bool a0_5, .bool a0_6, .int .u8 a0_7, .int .u8 a0_8, .int .u32 a0_9, .slice a0_10 l0_10.length cap0_10] 25) := ⟨_, rfl⟩
  have ny0 : Nb w y0 := by rw [hy0]; exact Nb.rfl.al _
  have sy0 : y0.heap.size = w.heap.size + 1 := by rw [hy0, World.size_alloc]
  have by0 : Blk y0 w.heap.size #[.int .i64 a0_0, .int .u32 a0_1, .bool a0_2, .bool a0_3, .bool a0_4, .bool a0_5, .bool a0_6, .int .u8 a0_7, .int .u8 a0_8, .int .u32 a0_9, .slice a0_10 l0_10.length cap0_10] 25 := by rw [hy0]; exact Blk.new _ _ _
  obtain ⟨y1, hy1⟩ : ∃ y1, y1 = y0.alloc (.cells #[.int .i64 a1_0, .int .u32 a1_1, .bool a1_2, .bool a1_3, .bool a1_4, .bool a1_5, .bool a1_6, .int .u8 a1_7, .int .u8 a1_8, .int .u32 a1_9, .slice a1_10 l1_10.length cap1_10] 25) := ⟨_, rfl⟩
  have ny1 : Nb y0 y1 := by rw [hy1]; exact Nb.rfl.al _
  have sy1 : y1.heap.size = w.heap.size + 2 := by rw [hy1, World.size_alloc, sy0]
  have by1 : Blk y1 y0.heap.size #[.int .i64 a1_0, .int .u32 a1_1, .bool a1_2, .bool a1_3, .bool a1_4, .bool a1_5, .bool a1_6, .int .u8 a1_7, .int .u8 a1_8, .int .u32 a1_9, .slice a1_10 l1_10.length cap1_10] 25 := by rw [hy1]; exact Blk.new _ _ _
  rw [sy0] at by1
  have B0 := Lib.hid ((by0.nb ny1) : Blk y1 w.heap.size #[.int .i64 a0_0, .int .u32 a0_1, .bool a0_2, .bool a0_3, .bool a0_4, .bool a0_5, .bool a0_6, .int .u8 a0_7, .int .u8 a0_8, .int .u32 a0_9, .slice a0_10 l0_10.length cap0_10] 25)
  have B1 := Lib.hid (by1 : Blk y1 (w.heap.size + 1) #[.int .i64 a1_0, .int .u32 a1_1, .bool a1_2, .bool a1_3, .bool a1_4, .bool a1_5, .bool a1_6, .int .u8 a1_7, .int .u8 a1_8, .int .u32 a1_9, .slice a1_10 l1_10.length cap1_10] 25)
  have NY := Lib.hid ((Nb.tr ny0 ny1) : Nb w y1)
  have HY0 := Lib.hid hy0
  have HY1 := Lib.hid hy1
  clear hy0 ny0 sy0 by0 hy1 ny1 sy1 by1
  go_enter Tryd.func8, Tryd.ntmps8
  go_wp2_with fail
  rw [← HY0.out, ← HY1.out]
  refine (AL.out _ NY.out).mono ?_
  rintro e z1 ⟨rfl, q1⟩
  have M1 := Lib.hid q1
  clear q1
  obtain ⟨c0, c1, c2, c3, c4, c5, c6, c7, c8, c9, c10⟩ := (B0.out.nb M1.out).c11
  obtain ⟨d0, d1, d2, d3, d4, d5, d6, d7, d8, d9, d10⟩ := (B1.out.nb M1.out).c11
  go_wp2_with fail
  refine (K1.out _ (NY.out.tr M1.out)).mono ?_
  rintro e z2 ⟨rfl, q2⟩
  have M2 := Lib.hid (M1.out.tr q2)
  clear q2
  clear c0 c1 c2 c3 c4 c5 c6 c7 c8 c9 c10 d0 d1 d2 d3 d4 d5 d6 d7 d8 d9 d10
  obtain ⟨c0, c1, c2, c3, c4, c5, c6, c7, c8, c9, c10⟩ := (B0.out.nb M2.out).c11
  obtain ⟨d0, d1, d2, d3, d4, d5, d6, d7, d8, d9, d10⟩ := (B1.out.nb M2.out).c11
  rcases hor with rfl | ⟨rfl, rfl⟩
  · go_wp2
    go_ret
    exact ⟨rfl, NY.out.tr M2.out⟩
  · go_wp2_with fail
    refine (K2.out _ (NY.out.tr M2.out)).mono ?_
    rintro e z3 ⟨rfl, q3⟩
    have M3 := Lib.hid (M2.out.tr q3)
    clear q3
    clear c0 c1 c2 c3 c4 c5 c6 c7 c8 c9 c10 d0 d1 d2 d3 d4 d5 d6 d7 d8 d9 d10
    go_wp2
    go_ret
    exact ⟨rfl, NY.out.tr M3.out⟩

theorem door_met (os : Os) (args : Array Value) : laidMetH Tryd.prog Rows.orderDataRow.laid ((World.doorLaid Tryd.prog 24 os).forCall (fun _ _ => 0) ⟨#[], args, []⟩).memory :=
  laidMetH_of_parts3 (fuel := 8) (laidMet_of_run' 8 (by kernel_rfl) (by kernel_rfl)) (by kernel_rfl) (by kernel_rfl)
set_option maxHeartbeats 2000000 in
set_option maxRecDepth 100000 in
theorem lifted (os : Os) (started : os.Started) (H : Type) (enc : TypeId × Value → H) :
    ReturnsInHanded {} Tryd.checked os 8 .any (fun w args => (Rows.orderDataSpec.pre enc Tryd.prog Tryd.f8 [] false w args ∧ laidMetH Tryd.prog Rows.orderDataRow.laid w) ∧ sizedMet enc Tryd.prog Tryd.f8 (OpenSpec.ofChange Rows.orderDataSpec) false w args)
      (Rows.orderDataSpec.post enc Tryd.prog Tryd.f8 false true false false) := by
  refine returnsInHanded_of_change_and (C := Tryd.checked) (X := fun w _ => laidMetH Tryd.prog Rows.orderDataRow.laid w) (fun _ _ _ hh h => h.of_heap hh) own started (by kernel_rfl) Tryd.func8
    (ChangeSpec.witness_shaped (enc := enc) (C := Tryd.checked) (os := os) (X := fun w _ => laidMetH Tryd.prog Rows.orderDataRow.laid w) false (World.doorLaid Tryd.prog 24 os) #[.agg #[.int .i64 0, .int .u32 0, .bool false, .bool false, .bool false, .bool false, .bool false, .int .u8 0, .int .u8 0, .int .u32 0, .slice none 0 0], .agg #[.int .i64 0, .int .u32 0, .bool false, .bool false, .bool false, .bool false, .bool false, .int .u8 0, .int .u8 0, .int .u32 0, .slice none 0 0]] 8 rfl (World.shaped_of_RefB (by kernel_rfl) (by kernel_rfl)) (by kernel_rfl) (by kernel_rfl) (by kernel_rfl) (door_met os _)) ?_
  intro W base args ds gs before hval0 hW _ hR hL _
  have hval : ∀ (j : Nat) t v, Tryd.f8.params[j]? = some t → args[j]? = some v → Value.okWide Tryd.prog W .any base t v := hval0
  have hW' := hW
  obtain ⟨p, q, hA0, hV, rfl, hfz, hnd⟩ := hW
  have hA : DataW.TrodAll enc Tryd.prog W 0 (fun _ => true) true Tryd.f8.params.toList args.toList ds p := hA0
  rw [Tryd.params8] at hA hval
  obtain ⟨v0, vs0, d0, ds0, p0, q0, hargs, rfl, rfl, h0, r0⟩ := trodAll_cons hA
  obtain ⟨v1, vs1, d1, ds1, p1, q1, rfl, rfl, rfl, h1, r1⟩ := trodAll_cons r0
  obtain ⟨rfl, rfl, rfl⟩ := trodAll_nil r1
  obtain rfl : args = #[v0, v1] := by cases args; simp_all
  obtain ⟨rfl, rfl⟩ := trodVars_none hV
  have k0 := h0
  have lt0 : ∀ x ∈ p0, x.block < W.heap.size := by obtain ⟨m, hm⟩ := k0; exact DataW.trod_lt m _ _ _ hm
  have k1 := h1
  have lt1 : ∀ x ∈ p1, x.block < W.heap.size := by obtain ⟨m, hm⟩ := k1; exact DataW.trod_lt m _ _ _ hm
  clear hA0
  obtain ⟨cs0, rfl, hz0⟩ := okWide_struct Tryd.underlying25 (hval 0 25 v0 rfl rfl)
  obtain ⟨c0_0, c0_1, c0_2, c0_3, c0_4, c0_5, c0_6, c0_7, c0_8, c0_9, c0_10, rfl⟩ := arr11 (hz0.trans (by kernel_rfl))
  obtain ⟨fu0, hf0⟩ := h0
  have hc0 : DataW.trod enc Tryd.prog W 0 (fun _ => true) true fu0 25 [c0_0, c0_1, c0_2, c0_3, c0_4, c0_5, c0_6, c0_7, c0_8, c0_9, c0_10] = some (d0, p0) := hf0
  obtain ⟨m0_0, y0_0, g0_0⟩ := open_fld Tryd.underlying25 hc0 0 _ rfl
  have t0_0 : DataW.trod enc Tryd.prog W 0 (fun _ => true) true m0_0 3 (([c0_0, c0_1, c0_2, c0_3, c0_4, c0_5, c0_6, c0_7, c0_8, c0_9, c0_10].drop 0).take (Tryd.prog.cellsOf 3)) = some y0_0 := g0_0
  rw [show Tryd.prog.cellsOf 3 = 1 from by kernel_rfl] at t0_0
  have u0_0 : DataW.trod enc Tryd.prog W 0 (fun _ => true) true m0_0 3 [c0_0] = some y0_0 := t0_0
  obtain ⟨m0_1, y0_1, g0_1⟩ := open_fld Tryd.underlying25 hc0 1 _ rfl
  have t0_1 : DataW.trod enc Tryd.prog W 0 (fun _ => true) true m0_1 22 (([c0_0, c0_1, c0_2, c0_3, c0_4, c0_5, c0_6, c0_7, c0_8, c0_9, c0_10].drop 1).take (Tryd.prog.cellsOf 22)) = some y0_1 := g0_1
  rw [show Tryd.prog.cellsOf 22 = 1 from by kernel_rfl] at t0_1
  have u0_1 : DataW.trod enc Tryd.prog W 0 (fun _ => true) true m0_1 22 [c0_1] = some y0_1 := t0_1
  obtain ⟨m0_2, y0_2, g0_2⟩ := open_fld Tryd.underlying25 hc0 2 _ rfl
  have t0_2 : DataW.trod enc Tryd.prog W 0 (fun _ => true) true m0_2 4 (([c0_0, c0_1, c0_2, c0_3, c0_4, c0_5, c0_6, c0_7, c0_8, c0_9, c0_10].drop 2).take (Tryd.prog.cellsOf 4)) = some y0_2 := g0_2
  rw [show Tryd.prog.cellsOf 4 = 1 from by kernel_rfl] at t0_2
  have u0_2 : DataW.trod enc Tryd.prog W 0 (fun _ => true) true m0_2 4 [c0_2] = some y0_2 := t0_2
  obtain ⟨m0_3, y0_3, g0_3⟩ := open_fld Tryd.underlying25 hc0 3 _ rfl
  have t0_3 : DataW.trod enc Tryd.prog W 0 (fun _ => true) true m0_3 4 (([c0_0, c0_1, c0_2, c0_3, c0_4, c0_5, c0_6, c0_7, c0_8, c0_9, c0_10].drop 3).take (Tryd.prog.cellsOf 4)) = some y0_3 := g0_3
  rw [show Tryd.prog.cellsOf 4 = 1 from by kernel_rfl] at t0_3
  have u0_3 : DataW.trod enc Tryd.prog W 0 (fun _ => true) true m0_3 4 [c0_3] = some y0_3 := t0_3
  obtain ⟨m0_4, y0_4, g0_4⟩ := open_fld Tryd.underlying25 hc0 4 _ rfl
  have t0_4 : DataW.trod enc Tryd.prog W 0 (fun _ => true) true m0_4 4 (([c0_0, c0_1, c0_2, c0_3, c0_4, c0_5, c0_6, c0_7, c0_8, c0_9, c0_10].drop 4).take (Tryd.prog.cellsOf 4)) = some y0_4 := g0_4
  rw [show Tryd.prog.cellsOf 4 = 1 from by kernel_rfl] at t0_4
  have u0_4 : DataW.trod enc Tryd.prog W 0 (fun _ => true) true m0_4 4 [c0_4] = some y0_4 := t0_4
  obtain ⟨m0_5, y0_5, g0_5⟩ := open_fld Tryd.underlying25 hc0 5 _ rfl
  have t0_5 : DataW.trod enc Tryd.prog W 0 (fun _ => true) true m0_5 4 (([c0_0, c0_1, c0_2, c0_3, c0_4, c0_5, c0_6, c0_7, c0_8, c0_9, c0_10].drop 5).take (Tryd.prog.cellsOf 4)) = some y0_5 := g0_5
  rw [show Tryd.prog.cellsOf 4 = 1 from by kernel_rfl] at t0_5
  have u0_5 : DataW.trod enc Tryd.prog W 0 (fun _ => true) true m0_5 4 [c0_5] = some y0_5 := t0_5
  obtain ⟨m0_6, y0_6, g0_6⟩ := open_fld Tryd.underlying25 hc0 6 _ rfl
  have t0_6 : DataW.trod enc Tryd.prog W 0 (fun _ => true) true m0_6 4 (([c0_0, c0_1, c0_2, c0_3, c0_4, c0_5, c0_6, c0_7, c0_8, c0_9, c0_10].drop 6).take (Tryd.prog.cellsOf 4)) = some y0_6 := g0_6
  rw [show Tryd.prog.cellsOf 4 = 1 from by kernel_rfl] at t0_6
  have u0_6 : DataW.trod enc Tryd.prog W 0 (fun _ => true) true m0_6 4 [c0_6] = some y0_6 := t0_6
  obtain ⟨m0_7, y0_7, g0_7⟩ := open_fld Tryd.underlying25 hc0 7 _ rfl
  have t0_7 : DataW.trod enc Tryd.prog W 0 (fun _ => true) true m0_7 5 (([c0_0, c0_1, c0_2, c0_3, c0_4, c0_5, c0_6, c0_7, c0_8, c0_9, c0_10].drop 7).take (Tryd.prog.cellsOf 5)) = some y0_7 := g0_7
  rw [show Tryd.prog.cellsOf 5 = 1 from by kernel_rfl] at t0_7
  have u0_7 : DataW.trod enc Tryd.prog W 0 (fun _ => true) true m0_7 5 [c0_7] = some y0_7 := t0_7
  obtain ⟨m0_8, y0_8, g0_8⟩ := open_fld Tryd.underlying25 hc0 8 _ rfl
  have t0_8 : DataW.trod enc Tryd.prog W 0 (fun _ => true) true m0_8 5 (([c0_0, c0_1, c0_2, c0_3, c0_4, c0_5, c0_6, c0_7, c0_8, c0_9, c0_10].drop 8).take (Tryd.prog.cellsOf 5)) = some y0_8 := g0_8
  rw [show Tryd.prog.cellsOf 5 = 1 from by kernel_rfl] at t0_8
  have u0_8 : DataW.trod enc Tryd.prog W 0 (fun _ => true) true m0_8 5 [c0_8] = some y0_8 := t0_8
  obtain ⟨m0_9, y0_9, g0_9⟩ := open_fld Tryd.underlying25 hc0 9 _ rfl
  have t0_9 : DataW.trod enc Tryd.prog W 0 (fun _ => true) true m0_9 22 (([c0_0, c0_1, c0_2, c0_3, c0_4, c0_5, c0_6, c0_7, c0_8, c0_9, c0_10].drop 9).take (Tryd.prog.cellsOf 22)) = some y0_9 := g0_9
  rw [show Tryd.prog.cellsOf 22 = 1 from by kernel_rfl] at t0_9
  have u0_9 : DataW.trod enc Tryd.prog W 0 (fun _ => true) true m0_9 22 [c0_9] = some y0_9 := t0_9
  obtain ⟨m0_10, y0_10, g0_10⟩ := open_fld Tryd.underlying25 hc0 10 _ rfl
  have t0_10 : DataW.trod enc Tryd.prog W 0 (fun _ => true) true m0_10 23 (([c0_0, c0_1, c0_2, c0_3, c0_4, c0_5, c0_6, c0_7, c0_8, c0_9, c0_10].drop 10).take (Tryd.prog.cellsOf 23)) = some y0_10 := g0_10
  rw [show Tryd.prog.cellsOf 23 = 1 from by kernel_rfl] at t0_10
  have u0_10 : DataW.trod enc Tryd.prog W 0 (fun _ => true) true m0_10 23 [c0_10] = some y0_10 := t0_10
  obtain ⟨a0_0, e0_0, x0_0, w0_0⟩ := DataW.trod_int Tryd.underlying3 u0_0
  obtain rfl : c0_0 = .int .i64 a0_0 := by simpa using e0_0
  obtain ⟨a0_1, e0_1, x0_1, w0_1⟩ := DataW.trod_int Tryd.underlying22 u0_1
  obtain rfl : c0_1 = .int .u32 a0_1 := by simpa using e0_1
  obtain ⟨a0_2, e0_2, x0_2⟩ := DataW.trod_bool Tryd.underlying4 u0_2
  obtain rfl : c0_2 = .bool a0_2 := by simpa using e0_2
  obtain ⟨a0_3, e0_3, x0_3⟩ := DataW.trod_bool Tryd.underlying4 u0_3
  obtain rfl : c0_3 = .bool a0_3 := by simpa using e0_3
  obtain ⟨a0_4, e0_4, x0_4⟩ := DataW.trod_bool Tryd.underlying4 u0_4
  obtain rfl : c0_4 = .bool a0_4 := by simpa using e0_4
  obtain ⟨a0_5, e0_5, x0_5⟩ := DataW.trod_bool Tryd.underlying4 u0_5
  obtain rfl : c0_5 = .bool a0_5 := by simpa using e0_5
  obtain ⟨a0_6, e0_6, x0_6⟩ := DataW.trod_bool Tryd.underlying4 u0_6
  obtain rfl : c0_6 = .bool a0_6 := by simpa using e0_6
  obtain ⟨a0_7, e0_7, x0_7, w0_7⟩ := DataW.trod_int Tryd.underlying5 u0_7
  obtain rfl : c0_7 = .int .u8 a0_7 := by simpa using e0_7
  obtain ⟨a0_8, e0_8, x0_8, w0_8⟩ := DataW.trod_int Tryd.underlying5 u0_8
  obtain rfl : c0_8 = .int .u8 a0_8 := by simpa using e0_8
  obtain ⟨a0_9, e0_9, x0_9, w0_9⟩ := DataW.trod_int Tryd.underlying22 u0_9
  obtain rfl : c0_9 = .int .u32 a0_9 := by simpa using e0_9
  obtain ⟨a0_10, cap0_10, l0_10, e0_10, hb0_10, n0_10⟩ := bytes_open u0_10
  subst e0_10
  obtain ⟨cs1, rfl, hz1⟩ := okWide_struct Tryd.underlying25 (hval 1 25 v1 rfl rfl)
  obtain ⟨c1_0, c1_1, c1_2, c1_3, c1_4, c1_5, c1_6, c1_7, c1_8, c1_9, c1_10, rfl⟩ := arr11 (hz1.trans (by kernel_rfl))
  obtain ⟨fu1, hf1⟩ := h1
  have hc1 : DataW.trod enc Tryd.prog W 0 (fun _ => true) true fu1 25 [c1_0, c1_1, c1_2, c1_3, c1_4, c1_5, c1_6, c1_7, c1_8, c1_9, c1_10] = some (d1, p1) := hf1
  obtain ⟨m1_0, y1_0, g1_0⟩ := open_fld Tryd.underlying25 hc1 0 _ rfl
  have t1_0 : DataW.trod enc Tryd.prog W 0 (fun _ => true) true m1_0 3 (([c1_0, c1_1, c1_2, c1_3, c1_4, c1_5, c1_6, c1_7, c1_8, c1_9, c1_10].drop 0).take (Tryd.prog.cellsOf 3)) = some y1_0 := g1_0
  rw [show Tryd.prog.cellsOf 3 = 1 from by kernel_rfl] at t1_0
  have u1_0 : DataW.trod enc Tryd.prog W 0 (fun _ => true) true m1_0 3 [c1_0] = some y1_0 := t1_0
  obtain ⟨m1_1, y1_1, g1_1⟩ := open_fld Tryd.underlying25 hc1 1 _ rfl
  have t1_1 : DataW.trod enc Tryd.prog W 0 (fun _ => true) true m1_1 22 (([c1_0, c1_1, c1_2, c1_3, c1_4, c1_5, c1_6, c1_7, c1_8, c1_9, c1_10].drop 1).take (Tryd.prog.cellsOf 22)) = some y1_1 := g1_1
  rw [show Tryd.prog.cellsOf 22 = 1 from by kernel_rfl] at t1_1
  have u1_1 : DataW.trod enc Tryd.prog W 0 (fun _ => true) true m1_1 22 [c1_1] = some y1_1 := t1_1
  obtain ⟨m1_2, y1_2, g1_2⟩ := open_fld Tryd.underlying25 hc1 2 _ rfl
  have t1_2 : DataW.trod enc Tryd.prog W 0 (fun _ => true) true m1_2 4 (([c1_0, c1_1, c1_2, c1_3, c1_4, c1_5, c1_6, c1_7, c1_8, c1_9, c1_10].drop 2).take (Tryd.prog.cellsOf 4)) = some y1_2 := g1_2
  rw [show Tryd.prog.cellsOf 4 = 1 from by kernel_rfl] at t1_2
  have u1_2 : DataW.trod enc Tryd.prog W 0 (fun _ => true) true m1_2 4 [c1_2] = some y1_2 := t1_2
  obtain ⟨m1_3, y1_3, g1_3⟩ := open_fld Tryd.underlying25 hc1 3 _ rfl
  have t1_3 : DataW.trod enc Tryd.prog W 0 (fun _ => true) true m1_3 4 (([c1_0, c1_1, c1_2, c1_3, c1_4, c1_5, c1_6, c1_7, c1_8, c1_9, c1_10].drop 3).take (Tryd.prog.cellsOf 4)) = some y1_3 := g1_3
  rw [show Tryd.prog.cellsOf 4 = 1 from by kernel_rfl] at t1_3
  have u1_3 : DataW.trod enc Tryd.prog W 0 (fun _ => true) true m1_3 4 [c1_3] = some y1_3 := t1_3
  obtain ⟨m1_4, y1_4, g1_4⟩ := open_fld Tryd.underlying25 hc1 4 _ rfl
  have t1_4 : DataW.trod enc Tryd.prog W 0 (fun _ => true) true m1_4 4 (([c1_0, c1_1, c1_2, c1_3, c1_4, c1_5, c1_6, c1_7, c1_8, c1_9, c1_10].drop 4).take (Tryd.prog.cellsOf 4)) = some y1_4 := g1_4
  rw [show Tryd.prog.cellsOf 4 = 1 from by kernel_rfl] at t1_4
  have u1_4 : DataW.trod enc Tryd.prog W 0 (fun _ => true) true m1_4 4 [c1_4] = some y1_4 := t1_4
  obtain ⟨m1_5, y1_5, g1_5⟩ := open_fld Tryd.underlying25 hc1 5 _ rfl
  have t1_5 : DataW.trod enc Tryd.prog W 0 (fun _ => true) true m1_5 4 (([c1_0, c1_1, c1_2, c1_3, c1_4, c1_5, c1_6, c1_7, c1_8, c1_9, c1_10].drop 5).take (Tryd.prog.cellsOf 4)) = some y1_5 := g1_5
  rw [show Tryd.prog.cellsOf 4 = 1 from by kernel_rfl] at t1_5
  have u1_5 : DataW.trod enc Tryd.prog W 0 (fun _ => true) true m1_5 4 [c1_5] = some y1_5 := t1_5
  obtain ⟨m1_6, y1_6, g1_6⟩ := open_fld Tryd.underlying25 hc1 6 _ rfl
  have t1_6 : DataW.trod enc Tryd.prog W 0 (fun _ => true) true m1_6 4 (([c1_0, c1_1, c1_2, c1_3, c1_4, c1_5, c1_6, c1_7, c1_8, c1_9, c1_10].drop 6).take (Tryd.prog.cellsOf 4)) = some y1_6 := g1_6
  rw [show Tryd.prog.cellsOf 4 = 1 from by kernel_rfl] at t1_6
  have u1_6 : DataW.trod enc Tryd.prog W 0 (fun _ => true) true m1_6 4 [c1_6] = some y1_6 := t1_6
  obtain ⟨m1_7, y1_7, g1_7⟩ := open_fld Tryd.underlying25 hc1 7 _ rfl
  have t1_7 : DataW.trod enc Tryd.prog W 0 (fun _ => true) true m1_7 5 (([c1_0, c1_1, c1_2, c1_3, c1_4, c1_5, c1_6, c1_7, c1_8, c1_9, c1_10].drop 7).take (Tryd.prog.cellsOf 5)) = some y1_7 := g1_7
  rw [show Tryd.prog.cellsOf 5 = 1 from by kernel_rfl] at t1_7
  have u1_7 : DataW.trod enc Tryd.prog W 0 (fun _ => true) true m1_7 5 [c1_7] = some y1_7 := t1_7
  obtain ⟨m1_8, y1_8, g1_8⟩ := open_fld Tryd.underlying25 hc1 8 _ rfl
  have t1_8 : DataW.trod enc Tryd.prog W 0 (fun _ => true) true m1_8 5 (([c1_0, c1_1, c1_2, c1_3, c1_4, c1_5, c1_6, c1_7, c1_8, c1_9, c1_10].drop 8).take (Tryd.prog.cellsOf 5)) = some y1_8 := g1_8
  rw [show Tryd.prog.cellsOf 5 = 1 from by kernel_rfl] at t1_8
  have u1_8 : DataW.trod enc Tryd.prog W 0 (fun _ => true) true m1_8 5 [c1_8] = some y1_8 := t1_8
  obtain ⟨m1_9, y1_9, g1_9⟩ := open_fld Tryd.underlying25 hc1 9 _ rfl
  have t1_9 : DataW.trod enc Tryd.prog W 0 (fun _ => true) true m1_9 22 (([c1_0, c1_1, c1_2, c1_3, c1_4, c1_5, c1_6, c1_7, c1_8, c1_9, c1_10].drop 9).take (Tryd.prog.cellsOf 22)) = some y1_9 := g1_9
  rw [show Tryd.prog.cellsOf 22 = 1 from by kernel_rfl] at t1_9
  have u1_9 : DataW.trod enc Tryd.prog W 0 (fun _ => true) true m1_9 22 [c1_9] = some y1_9 := t1_9
  obtain ⟨m1_10, y1_10, g1_10⟩ := open_fld Tryd.underlying25 hc1 10 _ rfl
  have t1_10 : DataW.trod enc Tryd.prog W 0 (fun _ => true) true m1_10 23 (([c1_0, c1_1, c1_2, c1_3, c1_4, c1_5, c1_6, c1_7, c1_8, c1_9, c1_10].drop 10).take (Tryd.prog.cellsOf 23)) = some y1_10 := g1_10
  rw [show Tryd.prog.cellsOf 23 = 1 from by kernel_rfl] at t1_10
  have u1_10 : DataW.trod enc Tryd.prog W 0 (fun _ => true) true m1_10 23 [c1_10] = some y1_10 := t1_10
  obtain ⟨a1_0, e1_0, x1_0, w1_0⟩ := DataW.trod_int Tryd.underlying3 u1_0
  obtain rfl : c1_0 = .int .i64 a1_0 := by simpa using e1_0
  obtain ⟨a1_1, e1_1, x1_1, w1_1⟩ := DataW.trod_int Tryd.underlying22 u1_1
  obtain rfl : c1_1 = .int .u32 a1_1 := by simpa using e1_1
  obtain ⟨a1_2, e1_2, x1_2⟩ := DataW.trod_bool Tryd.underlying4 u1_2
  obtain rfl : c1_2 = .bool a1_2 := by simpa using e1_2
  obtain ⟨a1_3, e1_3, x1_3⟩ := DataW.trod_bool Tryd.underlying4 u1_3
  obtain rfl : c1_3 = .bool a1_3 := by simpa using e1_3
  obtain ⟨a1_4, e1_4, x1_4⟩ := DataW.trod_bool Tryd.underlying4 u1_4
  obtain rfl : c1_4 = .bool a1_4 := by simpa using e1_4
  obtain ⟨a1_5, e1_5, x1_5⟩ := DataW.trod_bool Tryd.underlying4 u1_5
  obtain rfl : c1_5 = .bool a1_5 := by simpa using e1_5
  obtain ⟨a1_6, e1_6, x1_6⟩ := DataW.trod_bool Tryd.underlying4 u1_6
  obtain rfl : c1_6 = .bool a1_6 := by simpa using e1_6
  obtain ⟨a1_7, e1_7, x1_7, w1_7⟩ := DataW.trod_int Tryd.underlying5 u1_7
  obtain rfl : c1_7 = .int .u8 a1_7 := by simpa using e1_7
  obtain ⟨a1_8, e1_8, x1_8, w1_8⟩ := DataW.trod_int Tryd.underlying5 u1_8
  obtain rfl : c1_8 = .int .u8 a1_8 := by simpa using e1_8
  obtain ⟨a1_9, e1_9, x1_9, w1_9⟩ := DataW.trod_int Tryd.underlying22 u1_9
  obtain rfl : c1_9 = .int .u32 a1_9 := by simpa using e1_9
  obtain ⟨a1_10, cap1_10, l1_10, e1_10, hb1_10, n1_10⟩ := bytes_open u1_10
  subst e1_10
  refine (walk W (longer_of hL) a0_0 w0_0 a0_1 w0_1 a0_2 a0_3 a0_4 a0_5 a0_6 a0_7 w0_7 a0_8 w0_8 a0_9 w0_9 a0_10 cap0_10 l0_10 hb0_10 n0_10 a1_0 w1_0 a1_1 w1_1 a1_2 a1_3 a1_4 a1_5 a1_6 a1_7 w1_7 a1_8 w1_8 a1_9 w1_9 a1_10 cap1_10 l1_10 hb1_10 n1_10).mono fun e W' ⟨he, bel⟩ => ?_
  subst he
  exact ⟨_, rfl, _, _, _, [], _, [], hW', trodAll_mk1 (shut_bool Tryd.underlying4 _), (trodAll_cons_mk (Below.trod laidOut (by kernel_rfl) (of_decide_eq_true (by kernel_rfl)) k0 bel lt0) (trodAll_cons_mk (Below.trod laidOut (by kernel_rfl) (of_decide_eq_true (by kernel_rfl)) k1 bel lt1) trodAll_mk0)), rfl, bel.frame _, fun h => by cases h⟩

theorem over : Rows.orderDataRow.holds Tryd.pinned (OpenSpec.ofChange Rows.orderDataSpec) :=
  OpenClaim.holds_of_wide 8 Tryd.f8 rfl rfl rfl rfl rfl rfl rfl ⟨rfl, rfl, rfl, rfl, rfl⟩ rfl rfl rfl rfl rfl (by kernel_rfl) Tryd.func8 (by kernel_rfl)
    (of_decide_eq_true (by kernel_rfl)) (by unfold Func.isWrapper; first | (rw [if_pos (by decide +kernel)]; kernel_rfl) | (rw [if_neg (by decide +kernel)]; exact ⟨rfl, rfl⟩))
    (fun os started H enc _ => lifted os started H enc)

theorem plain (f : FuncId) (fn : Func) (hf : Tryd.pinned.checked.prog.funcNamed "omnibus/omnibuslaw10.OrderData" = some f) (hfn : Tryd.pinned.checked.prog.funcs[f]? = some fn) :
    true = Tryd.pinned.checked.prog.looks [] ∧ ∀ (j : Nat) t, fn.params[j]? = some t → Tryd.pinned.checked.prog.wantsStandIn t = false := by
  obtain rfl : f = 8 := Option.some.inj ((show Tryd.prog.funcNamed "omnibus/omnibuslaw10.OrderData" = some 8 by kernel_rfl).symm.trans hf) |>.symm
  obtain rfl : fn = Tryd.f8 := (Option.some.inj (Tryd.func8.symm.trans hfn)).symm
  refine ⟨by kernel_rfl, fun j t ht => ?_⟩
  rw [Tryd.params8] at ht
  have hm : t ∈ [25] := by have := Array.mem_of_getElem? ht; simp at this ⊢; omega
  have hall : ([25].all fun u => !Tryd.prog.wantsStandIn u) = true := by kernel_rfl
  exact (show Tryd.prog.wantsStandIn t = false by simpa using List.all_eq_true.1 hall t hm)
theorem proved : Rows.OrderDataCardSaid :=
  Claim7.holds_tied_plain_at .later [] _ _ _ _ over (fun _ h => by cases h) (by kernel_rfl) (fun _ h => by cases h) orderData_row_tie rfl ⟨rfl, rfl⟩ (by kernel_rfl) rfl plain (by kernel_rfl)
#print axioms proved
end Go.Proofs.YtfcmoamooafomaaDoor.orderData
