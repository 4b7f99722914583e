
/- The law OrderData at frames of the first kind that ask for nothing. Condition: the table of longer sizes holds what the program's text lays there. -/
import Derived.Test.YtfcmoamooafomaaDoorOrA
import Derived.Test.YtfcmoamooafomaaDoorOrB
import Derived.Test.YtfcmoamooafomaaDoorFrmG
import Derived.BigRegion
import Derived.Deep.RegionHeld3
namespace Go.Proofs.YtfcmoamooafomaaDoor
set_option linter.unusedVariables false
set_option linter.unusedSimpArgs false
open Go.RowKit

set_option maxHeartbeats 8000000 in
set_option maxRecDepth 100000 in
theorem odata_cl0 (w : World) (hK : Longer w) (i : Int) (X : Bool) (b0 b1 : Int) (b2 b3 b4 b5 b6 : Bool) (b7 b8 b9 : Int) (aA aB : Option Addr) (capA capB : Nat) (l m : List Nat) (hA : Bs w aA capA l) (hB : Bs w aB capB m) (hJ : 0 ≤ b1) (hI : 0 ≤ i) (hf : okF ⟨1, i, X, false, false, false, false, 0, 0, 0⟩ l = true) (hg : okF ⟨b0, b1, b2, b3, b4, b5, b6, b7, b8, b9⟩ m = true) :
    Calls Tryd.prog 8 #[.agg #[.int .i64 1, .int .u32 i, .bool X, .bool false, .bool false, .bool false, .bool false, .int .u8 0, .int .u8 0, .int .u32 0, .slice aA l.length capA], .agg #[.int .i64 b0, .int .u32 b1, .bool b2, .bool b3, .bool b4, .bool b5, .bool b6, .int .u8 b7, .int .u8 b8, .int .u32 b9, .slice aB m.length capB]] w fun e w' => e = .returned (.bool true) ∧ Nb w w' := by
  have HK := Lib.hid hK
  have hL0 := hA.len
  have hL1 := hB.len
  have AL := Lib.hid (fun w' (n : Nb w w') => alive10_any w' (hK.below n))
  have k1 := fun w' (n : Nb w w') => check5_any ⟨1, i, X, false, false, false, false, 0, 0, 0⟩ aA capA l w' (hA.below n) (hK.below n)
  have k2 := fun w' (n : Nb w w') => check5_any ⟨b0, b1, b2, b3, b4, b5, b6, b7, b8, b9⟩ aB capB m w' (hB.below n) (hK.below n)
  have k3 := fun w' (n : Nb w w') => compare_any ⟨1, i, X, false, false, false, false, 0, 0, 0⟩ ⟨b0, b1, b2, b3, b4, b5, b6, b7, b8, b9⟩ aA aB capA capB l m w' (hA.below n) (hB.below n) hI hJ (hK.below n)
  have k4 := fun w' (n : Nb w w') (a : Option Addr) (c : Nat) (h : Bs w' a c [1, 2, 3]) => compare_any ⟨1, i, X, false, false, false, false, 0, 0, 0⟩ ⟨b0, b1, b2, b3, b4, b5, b6, b7, b8, b9⟩ a aB c capB [1, 2, 3] m w' h (hB.below n) hI hJ (hK.below n)
  have k5 := fun w' (n : Nb w w') (a : Option Addr) (c : Nat) (h : Bs w' a c [1, 2, 3]) => compare_any ⟨1, i, X, false, false, false, false, 0, 0, 0⟩ ⟨1, i, X, false, false, false, false, 0, 0, 0⟩ aA a capA c l [1, 2, 3] w' (hA.below n) h hI hI (hK.below n)
  have hc : okF ⟨1, i, X, false, false, false, false, 0, 0, 0⟩ [1, 2, 3] = true := by rw [okF_cl] at hf ⊢; simp only [Bool.and_eq_true] at hf ⊢; exact ⟨by decide +kernel, by simpa [okCl] using hf.2⟩
  obtain ⟨e1, e2, e3, e4, e5⟩ := data_c (f := ⟨1, i, X, false, false, false, false, 0, 0, 0⟩) (g := ⟨b0, b1, b2, b3, b4, b5, b6, b7, b8, b9⟩) (c := ⟨1, i, X, false, false, false, false, 0, 0, 0⟩) hf hg hc rfl
  rw [show checkN ⟨1, i, X, false, false, false, false, 0, 0, 0⟩ l = 0 by simp [checkN, hf]] at k1
  rw [show checkN ⟨b0, b1, b2, b3, b4, b5, b6, b7, b8, b9⟩ m = 0 by simp [checkN, hg]] at k2
  unfold AnsC at k3 k4 k5
  rw [e1, e2] at k4
  rw [e3, e4] at k5
  rw [e5] at k3
  generalize cmpV ⟨1, i, X, false, false, false, false, 0, 0, 0⟩ ⟨b0, b1, b2, b3, b4, b5, b6, b7, b8, b9⟩ l m = X1 at k3 k4
  simp only [Hd.cs, List.length_cons, List.length_nil] at k1 k2 k3 k4 k5
  have K1 := Lib.hid k1
  have K2 := Lib.hid k2
  have K3 := Lib.hid k3
  have K4 := Lib.hid k4
  have K5 := Lib.hid k5
  clear k1 k2 k3 k4 k5 e1 e2 e3 e4 e5 hc hf hg hA hB hK hI hJ
  obtain ⟨y0, hy0⟩ : ∃ y0, y0 = w.alloc (.cells #[.int .i64 1, .int .u32 i, .bool X, .bool false, .bool false, .bool false, .bool false, .int .u8 0, .int .u8 0, .int .u32 0, .slice aA l.length capA] 25) := ⟨_, rfl⟩
  have ny0 : Nb w y0 := by rw [hy0]; exact Nb.rfl.al _
  have sy0 : y0.heap.size = w.heap.size + 1 := by rw [hy0, World.size_alloc]
  have by0 : Blk y0 w.heap.size #[.int .i64 1, .int .u32 i, .bool X, .bool false, .bool false, .bool false, .bool false, .int .u8 0, .int .u8 0, .int .u32 0, .slice aA l.length capA] 25 := by rw [hy0]; exact Blk.new _ _ _
  obtain ⟨y1, hy1⟩ : ∃ y1, y1 = y0.alloc (.cells #[.int .i64 b0, .int .u32 b1, .bool b2, .bool b3, .bool b4, .bool b5, .bool b6, .int .u8 b7, .int .u8 b8, .int .u32 b9, .slice aB m.length capB] 25) := ⟨_, rfl⟩
  have ny1 : Nb y0 y1 := by rw [hy1]; exact Nb.rfl.al _
  have by1 : Blk y1 y0.heap.size #[.int .i64 b0, .int .u32 b1, .bool b2, .bool b3, .bool b4, .bool b5, .bool b6, .int .u8 b7, .int .u8 b8, .int .u32 b9, .slice aB m.length capB] 25 := by rw [hy1]; exact Blk.new _ _ _
  rw [sy0] at by1
  have B0 := Lib.hid (by0.nb ny1 : Blk y1 w.heap.size #[.int .i64 1, .int .u32 i, .bool X, .bool false, .bool false, .bool false, .bool false, .int .u8 0, .int .u8 0, .int .u32 0, .slice aA l.length capA] 25)
  have B1 := Lib.hid (by1 : Blk y1 (w.heap.size + 1) #[.int .i64 b0, .int .u32 b1, .bool b2, .bool b3, .bool b4, .bool b5, .bool b6, .int .u8 b7, .int .u8 b8, .int .u32 b9, .slice aB m.length capB] 25)
  have NY := Lib.hid (Nb.tr ny0 ny1 : Nb w y1)
  have HY0 := Lib.hid hy0
  have HY1 := Lib.hid hy1
  clear hy0 ny0 sy0 by0 hy1 ny1 by1
  go_enter Tryd.func8, Tryd.ntmps8
  go_wp2_with fail
  rw [← HY0.out, ← HY1.out]
  refine (AL.out _ NY.out).mono ?_
  rintro e z1 ⟨rfl, q1⟩
  have M1 := Lib.hid q1
  clear q1
  obtain ⟨c0, c1, c2, c3, c4, c5, c6, c7, c8, c9, c10⟩ := (B0.out.nb M1.out).c11
  obtain ⟨d0, d1, d2, d3, d4, d5, d6, d7, d8, d9, d10⟩ := (B1.out.nb M1.out).c11
  go_wp2_with fail
  refine (K1.out _ (NY.out.tr M1.out)).mono ?_
  rintro e z2 ⟨rfl, q2⟩
  have M2 := Lib.hid (M1.out.tr q2)
  clear q2
  clear c0 c1 c2 c3 c4 c5 c6 c7 c8 c9 c10 d0 d1 d2 d3 d4 d5 d6 d7 d8 d9 d10
  obtain ⟨c0, c1, c2, c3, c4, c5, c6, c7, c8, c9, c10⟩ := (B0.out.nb M2.out).c11
  obtain ⟨d0, d1, d2, d3, d4, d5, d6, d7, d8, d9, d10⟩ := (B1.out.nb M2.out).c11
  go_wp2_with fail
  refine (K2.out _ (NY.out.tr M2.out)).mono ?_
  rintro e z3 ⟨rfl, q3⟩
  have M3 := Lib.hid (M2.out.tr q3)
  clear q3
  clear c0 c1 c2 c3 c4 c5 c6 c7 c8 c9 c10 d0 d1 d2 d3 d4 d5 d6 d7 d8 d9 d10
  obtain ⟨c0, c1, c2, c3, c4, c5, c6, c7, c8, c9, c10⟩ := (B0.out.nb M3.out).c11
  obtain ⟨d0, d1, d2, d3, d4, d5, d6, d7, d8, d9, d10⟩ := (B1.out.nb M3.out).c11
  go_wp2_with fail
  refine (K3.out _ (NY.out.tr M3.out)).mono ?_
  rintro e z4 ⟨rfl, q4⟩
  have M4 := Lib.hid (M3.out.tr q4)
  clear q4
  clear c0 c1 c2 c3 c4 c5 c6 c7 c8 c9 c10 d0 d1 d2 d3 d4 d5 d6 d7 d8 d9 d10
  obtain ⟨c0, c1, c2, c3, c4, c5, c6, c7, c8, c9, c10⟩ := (B0.out.nb M4.out).c11
  obtain ⟨d0, d1, d2, d3, d4, d5, d6, d7, d8, d9, d10⟩ := (B1.out.nb M4.out).c11
  go_wp2_with fail
  obtain ⟨z5, hz5⟩ : ∃ z5, z5 = z4.alloc (.cells #[.int .i64 1, .int .u32 i, .bool X, .bool false, .bool false, .bool false, .bool false, .int .u8 0, .int .u8 0, .int .u32 0, .slice aA l.length capA] 25) := ⟨_, rfl⟩
  obtain ⟨R, hR⟩ : ∃ R, R = z4.heap.size := ⟨_, rfl⟩
  have BC := Lib.hid (show Blk z5 R #[.int .i64 1, .int .u32 i, .bool X, .bool false, .bool false, .bool false, .bool false, .int .u8 0, .int .u8 0, .int .u32 0, .slice aA l.length capA] 25 by rw [hz5, hR]; exact Blk.new _ _ _)
  have M5 := Lib.hid (show Nb y1 z5 by rw [hz5]; exact Nb.al M4.out _)
  have HRz := Lib.hid (show y1.heap.size ≤ R by rw [hR]; exact M4.out.size)
  rw [← hz5, ← hR]
  clear hz5 hR
  have hR5 := BC.out.lt
  clear c0 c1 c2 c3 c4 c5 c6 c7 c8 c9 c10 d0 d1 d2 d3 d4 d5 d6 d7 d8 d9 d10
  obtain ⟨c0, c1, c2, c3, c4, c5, c6, c7, c8, c9, c10⟩ := (B0.out.nb M5.out).c11
  obtain ⟨g0, g1, g2, g3, g4, g5, g6, g7, g8, g9, g10⟩ := BC.out.f11
  obtain ⟨h0, h1, h2, h3, h4, h5, h6, h7, h8, h9, h10⟩ := BC.out.c11
  have hne : ¬ w.heap.size = R := by have := HRz.out; have := B1.out.lt; omega
  have hne2 : ¬ R = w.heap.size := fun h => hne h.symm
  go_region
  obtain ⟨z6, hz6⟩ : ∃ z6, z6 = ((z5.setCell ⟨R, 4, none⟩ (.bool false)).setCell ⟨R, 5, none⟩ (.bool false)).drew := ⟨_, rfl⟩
  have BC6 := Lib.hid (show Blk z6 R #[.int .i64 1, .int .u32 i, .bool X, .bool false, .bool false, .bool false, .bool false, .int .u8 0, .int .u8 0, .int .u32 0, .slice aA l.length capA] 25 by
    rw [hz6]
    have := ((BC.out.set 4 (.bool false)).set 5 (.bool false)).nb (Below.drew (Below.refl _ _))
    simpa using this)
  have M6 := Lib.hid (show Nb y1 z6 by
    rw [hz6]
    exact Nb.tr (Nb.st (Nb.st M5.out HRz.out _) HRz.out _) (Below.drew (Below.refl _ _)))
  rw [← hz6]
  clear hz6 hR5 BC g0 g1 g2 g3 g4 g5 g6 g7 g8 g9 g10
  clear c0 c1 c2 c3 c4 c5 c6 c7 c8 c9 c10 h0 h1 h2 h3 h4 h5 h6 h7 h8 h9 h10
  obtain ⟨c0, c1, c2, c3, c4, c5, c6, c7, c8, c9, c10⟩ := (B0.out.nb M6.out).c11
  obtain ⟨g0, g1, g2, g3, g4, g5, g6, g7, g8, g9, g10⟩ := BC6.out.f11
  obtain ⟨h0, h1, h2, h3, h4, h5, h6, h7, h8, h9, h10⟩ := BC6.out.c11
  obtain ⟨d0, d1, d2, d3, d4, d5, d6, d7, d8, d9, d10⟩ := (B1.out.nb M6.out).c11
  have hR6 := BC6.out.lt
  have hw6 := (B0.out.nb M6.out).lt
  have hw7 := (B1.out.nb M6.out).lt
  have hne3 : ¬ w.heap.size + 1 = R := by have := HRz.out; have := B1.out.lt; omega
  have hne4 : ¬ R = w.heap.size + 1 := fun h => hne3 h.symm
  go_wp2_with fail
  obtain ⟨z7, hz7⟩ : ∃ z7, z7 = (z6.setCell ⟨R, 10, none⟩ (.slice (some ⟨z6.heap.size, 0, none⟩) 3 3)).alloc (.cells #[.int .u8 1, .int .u8 2, .int .u8 3] 5) := ⟨_, rfl⟩
  have BC7 := Lib.hid (show Blk z7 R #[.int .i64 1, .int .u32 i, .bool X, .bool false, .bool false, .bool false, .bool false, .int .u8 0, .int .u8 0, .int .u32 0, .slice (some ⟨z6.heap.size, 0, none⟩) 3 3] 25 by
    rw [hz7]
    have := (BC6.out.set 10 (.slice (some ⟨z6.heap.size, 0, none⟩) 3 3)).nb (Nb.rfl.al (.cells #[.int .u8 1, .int .u8 2, .int .u8 3] 5))
    simpa using this)
  have M7 := Lib.hid (show Nb y1 z7 by
    rw [hz7]
    exact Nb.al (Nb.st M6.out HRz.out _) _)
  have S7 := Lib.hid (show Bs z7 (some ⟨z6.heap.size, 0, none⟩) 3 [1, 2, 3] from (by rw [hz7]; have := (Fresh.lit (z6.setCell ⟨R, 10, none⟩ (.slice (some ⟨z6.heap.size, 0, none⟩) 3 3)) [1, 2, 3] #[.int .u8 1, .int .u8 2, .int .u8 3] (by simp) 3 (by simp) (by simp) (by simp)).bs.1; simpa using this))
  rw [← hz7]
  clear hz7 BC6 g0 g1 g2 g3 g4 g5 g6 g7 g8 g9 g10 hR6 hw6 hw7
  clear c0 c1 c2 c3 c4 c5 c6 c7 c8 c9 c10 h0 h1 h2 h3 h4 h5 h6 h7 h8 h9 h10 d0 d1 d2 d3 d4 d5 d6 d7 d8 d9 d10
  refine (K4.out _ (NY.out.tr M7.out) _ _ S7.out).mono ?_
  rintro e z8 ⟨rfl, q8⟩
  have M8 := Lib.hid (M7.out.tr q8)
  have BC8 := Lib.hid (BC7.out.nb q8)
  have S8 := Lib.hid (S7.out.below q8)
  clear q8
  obtain ⟨c0, c1, c2, c3, c4, c5, c6, c7, c8, c9, c10⟩ := (B0.out.nb M8.out).c11
  obtain ⟨h0, h1, h2, h3, h4, h5, h6, h7, h8, h9, h10⟩ := BC8.out.c11
  go_wp2_with fail
  refine (K5.out _ (NY.out.tr M8.out) _ _ S8.out).mono ?_
  rintro e z9 ⟨rfl, q9⟩
  have M9 := Lib.hid (M8.out.tr q9)
  clear q9
  clear c0 c1 c2 c3 c4 c5 c6 c7 c8 c9 c10 h0 h1 h2 h3 h4 h5 h6 h7 h8 h9 h10
  go_wp2
  go_ret
  exact ⟨by simp, NY.out.tr M9.out⟩

end Go.Proofs.YtfcmoamooafomaaDoor
