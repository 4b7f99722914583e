
/- Layer 16's law: its example. Condition: the tables hold what the program's text lays there. -/
import Derived.Test.YtlmbggmamemmjaaDoorFiX
namespace Go.Proofs.YtlmbggmamemmjaaDoor
set_option linter.unusedVariables false
set_option linter.unusedSimpArgs false
open Go.RowKit

def f16 : Hd := ⟨1, 1, false, false, false, false, false, 0, 0, 0⟩
def fl0 : Fi := ⟨2, 0, []⟩
theorem fl_is : fl0.pushB f16 [] = true ∧ (fl0.push f16 []).pushB f16 [] = true ∧ ((fl0.push f16 []).push f16 []).pushB f16 [] = false ∧ (((fl0.push f16 []).push f16 []).push f16 []).over = 1 ∧ (((fl0.push f16 []).push f16 []).push f16 []).its.length = 2 ∧ checkN f16 [] = 0 ∧ (fl0.push f16 []).over = 0 ∧ ((fl0.push f16 []).push f16 []).over = 0 := by decide +kernel

set_option maxHeartbeats 3200000 in
set_option maxRecDepth 100000 in
theorem alive16_any (w : World) (hB : Longer w) : Calls Tryd.prog 9 #[] w fun e w' => e = .returned (.bool true) ∧ Nb w w' := by
  have HB := Lib.hid hB
  obtain ⟨i1, i2, i3, i4, i5, i6, i7, i8⟩ := fl_is
  obtain ⟨q1, hq1⟩ : ∃ q, q = fl0.push f16 [] := ⟨_, rfl⟩
  obtain ⟨q2, hq2⟩ : ∃ q, q = q1.push f16 [] := ⟨_, rfl⟩
  obtain ⟨q3, hq3⟩ : ∃ q, q = q2.push f16 [] := ⟨_, rfl⟩
  rw [← hq1, ← hq2] at i3 i4 i5 i8
  rw [← hq3] at i4 i5
  rw [← hq1] at i2 i7
  have P0 := Lib.hid (fun w' v X (h : FiX w w' v fl0 X) => h.push f16 none 0 [] (HB.out.below h.nb) (Bs.nil _) (Nat.zero_le _))
  have P1 := Lib.hid (fun w' v X (h : FiX w w' v q1 X) => h.push f16 none 0 [] (HB.out.below h.nb) (Bs.nil _) (by rw [i7]; exact Nat.zero_le _))
  have P2 := Lib.hid (fun w' v X (h : FiX w w' v q2 X) => h.push f16 none 0 [] (HB.out.below h.nb) (Bs.nil _) (by rw [i8]; exact Nat.zero_le _))
  rw [i1, i6, ← hq1] at P0
  rw [i2, i6, ← hq2] at P1
  rw [i3, i6, ← hq3] at P2
  simp only [Hd.cs, f16, List.length_nil] at P0 P1 P2
  have LE := Lib.hid (fun w' v X (h : FiX w w' v q3 X) => h.len)
  have OV := Lib.hid (fun w' v X (h : FiX w w' v q3 X) => h.over)
  rw [i5] at LE
  rw [i4] at OV
  clear hB i1 i2 i3 i4 i5 i6 i7 i8 hq1 hq2 hq3
  go_enter Tryd.func9, Tryd.ntmps9
  go_wp2_with fail
  refine (newF_any 2 (by omega) _).mono ?_
  rintro e w0 ⟨R, F, rfl, h1, h2, h3⟩
  obtain ⟨Q, hQ⟩ : ∃ Q, Q = w0.heap.size := ⟨_, rfl⟩
  obtain ⟨u0, hu⟩ : ∃ u, u = w0.alloc (.cells #[.int .i64 1, .int .u32 1, .bool false, .bool false, .bool false, .bool false, .bool false, .int .u8 0, .int .u8 0, .int .u32 0, .slice none 0 0] 36) := ⟨_, rfl⟩
  have BQ := Lib.hid (show Blk u0 Q _ _ by rw [hu, hQ]; exact Blk.new _ _ _)
  have N0 := Lib.hid (show FiX w u0 _ fl0 (fun k => k = Q) by rw [hu, hQ]; exact ((FiX.new h1 h2 h3 Nb.rfl).addB _ _).less (fun k hk => .inr hk))
  have HU := Lib.hid hu
  have HQ := Lib.hid hQ
  clear h1 h2 h3 hu hQ
  go_wp2_with fail
  rw [← HU.out]
  refine (P0.out _ _ _ N0.out).mono ?_
  rintro e w1 ⟨G, rfl, gk, gX, _, hn⟩
  have N1 := Lib.hid hn
  have B1 := Lib.hid (BQ.out.keep gk (gX Q rfl))
  clear hn gk gX N0 BQ HU
  obtain ⟨c0, c1, c2, c3, c4, c5, c6, c7, c8, c9, c10⟩ := B1.out.c11
  rw [HQ.out] at c0 c1 c2 c3 c4 c5 c6 c7 c8 c9 c10
  go_wp2_with fail
  refine (P1.out _ _ _ N1.out).mono ?_
  rintro e w2 ⟨G, rfl, gk, gX, _, hn⟩
  have N2 := Lib.hid hn
  have B2 := Lib.hid (B1.out.keep gk (gX Q rfl))
  clear hn gk gX N1 B1 c0 c1 c2 c3 c4 c5 c6 c7 c8 c9 c10
  obtain ⟨c0, c1, c2, c3, c4, c5, c6, c7, c8, c9, c10⟩ := B2.out.c11
  rw [HQ.out] at c0 c1 c2 c3 c4 c5 c6 c7 c8 c9 c10
  go_wp2_with fail
  refine (P2.out _ _ _ N2.out).mono ?_
  rintro e w3 ⟨G, rfl, _, _, _, hn⟩
  have N3 := Lib.hid hn
  clear hn N2 B2 c0 c1 c2 c3 c4 c5 c6 c7 c8 c9 c10
  go_wp2_with fail
  refine (popF_nil _).mono ?_
  rintro e w4 ⟨rfl, n4⟩
  simp only [Hd.cs]
  have N4 := Lib.hid ((N3.out.keep n4).keep (Nb.rfl.al (.cells #[.int .i64 0, .int .u32 0, .bool false, .bool false, .bool false, .bool false, .bool false, .int .u8 0, .int .u8 0, .int .u32 0, .slice none 0 0] 36)))
  clear n4 N3
  go_wp2_with fail
  refine (OV.out _ _ _ N4.out).mono ?_
  rintro e w5 ⟨rfl, n5⟩
  have N5 := Lib.hid (N4.out.keep n5)
  clear n5 N4
  go_wp2_with fail
  refine (LE.out _ _ _ N5.out).mono ?_
  rintro e w6 ⟨rfl, n6⟩
  have N6 := Lib.hid (N5.out.keep n6)
  go_wp2
  go_ret
  exact ⟨rfl, N6.out.nb⟩
end Go.Proofs.YtlmbggmamemmjaaDoor
