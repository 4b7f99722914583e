
/- Contract of the document's Check. No conditions. -/
import Derived.Test.YtfcmoamooafomaaDoorFrmK
import Derived.Test.YtfcmoamooafomaaDoorGf
namespace Go.Proofs.YtfcmoamooafomaaDoor
set_option linter.unusedVariables false
set_option linter.unusedSimpArgs false
open Go.RowKit

/-- May a frame of this kind be, field by field? -/
def okCl (I : Int) (X R B E S : Bool) (D V A : Int) (z : Bool) : Bool := (!R || z) && ((X || decide (I < 2048)) && (decide (I < 536870912) && (!B && (!E && (!S && (D == 0 && (V == 0 && A == 0)))))))
def okFd (I : Int) (X R S : Bool) (D V A : Int) : Bool := decide (I < 2048) && (!X && (!R && (!S && (D == 0 && (V == 0 && A == 0)))))
def okXl (I : Int) (X R B E : Bool) : Bool := decide (I < 2048) && (!X && (!R && (!B && !E)))
theorem okF_cl (I : Int) (X R B E S : Bool) (D V A : Int) (l : List Nat) : okF ⟨1, I, X, R, B, E, S, D, V, A⟩ l = (hasF 1 (l.length : Int) && okCl I X R B E S D V A (decide (l.length = 0))) := by
  have hl : (l.length = 0) = (l = []) := propext List.length_eq_zero_iff
  cases X <;> cases R <;> by_cases hz : l = [] <;> by_cases h1 : I < 2048 <;> by_cases h2 : I < 536870912 <;> first
    | (exfalso; omega)
    | simp [okF, okCl, idsF, sameF, Hd.eqb, toldH, toldL, hl, hz, h1, h2]
theorem okF_fd (I : Int) (X R B E S : Bool) (D V A : Int) (l : List Nat) : okF ⟨2, I, X, R, B, E, S, D, V, A⟩ l = (hasF 2 (l.length : Int) && okFd I X R S D V A) := by
  cases X <;> simp [okF, okFd, idsF, sameF, Hd.eqb, toldH, toldL]
theorem okF_xl (I : Int) (X R B E S : Bool) (D V A : Int) (l : List Nat) : okF ⟨3, I, X, R, B, E, S, D, V, A⟩ l = (hasF 3 (l.length : Int) && okXl I X R B E) := by
  cases X <;> simp [okF, okXl, idsF, sameF, Hd.eqb, toldH, toldL]
theorem hasF_kind {k s : Int} (h : hasF k s = true) : k = 1 ∨ k = 2 ∨ k = 3 := by
  rcases kind_cases k with h1 | ⟨h1, h2, h3⟩
  · exact h1
  · have := ((hasF_iff k s).1 h).1
    simp [cntF, h1, h2, h3] at this
theorem Nb.s1 {w w1 : World} (h : Nb w w1) {b : Nat} (hb : w.heap.size ≤ b) (i : Nat) (u : Value) : Nb w (w1.setCell ⟨b, i, none⟩ u) := h.st hb u
theorem Nb.s2 {w w1 : World} (h : Nb w w1) {b : Nat} (hb : w.heap.size ≤ b) (i i2 : Nat) (u u2 : Value) : Nb w ((w1.setCell ⟨b, i, none⟩ u).setCell ⟨b, i2, none⟩ u2) := (h.s1 hb i u).s1 hb i2 u2
theorem Nb.s4 {w w1 : World} (h : Nb w w1) {b : Nat} (hb : w.heap.size ≤ b) (i i2 i3 i4 : Nat) (u u2 u3 u4 : Value) : Nb w ((((w1.setCell ⟨b, i, none⟩ u).setCell ⟨b, i2, none⟩ u2).setCell ⟨b, i3, none⟩ u3).setCell ⟨b, i4, none⟩ u4) := (h.s2 hb i i2 u u2).s2 hb i3 i4 u3 u4

set_option maxHeartbeats 4000000 in
set_option maxRecDepth 100000 in
theorem refcheck5_no (f : Hd) (a : Option Addr) (cap : Nat) (l : List Nat) (w : World) (hL : l.length ≤ 9223372036854775807) (hh : hasF f.K (l.length : Int) = false) :
    Calls Tryd.prog 23 #[.agg (f.cs (.slice a l.length cap))] w fun e w' => e = .returned (.int .i64 2) ∧ Nb w w' := by
  have hCode := Lib.hid (refcode_any f.K (l.length : Int))
  rw [show codeE f.K (l.length : Int) = 2 by simp [codeE, hh], show codeV f.K (l.length : Int) = 0 by simp [codeV, hh]] at hCode
  clear hh
  obtain ⟨K, I, X, R, B, E, S, D, V, A⟩ := f
  simp only [Hd.cs] at hCode ⊢
  go_enter Tryd.func23, Tryd.ntmps23
  go_wp2_with fail
  refine (hCode.out _).mono ?_
  rintro e w1 ⟨rfl, n1⟩
  go_wp2
  go_ret
  exact ⟨rfl, ((Nb.rfl.al _).al _).tr n1⟩


set_option maxHeartbeats 8000000 in
set_option maxRecDepth 100000 in
theorem refcheck5_fd (I : Int) (X R B E S : Bool) (D V A : Int) (a : Option Addr) (cap : Nat) (l : List Nat) (w : World) (hL : l.length ≤ 9223372036854775807) (hh : hasF 2 (l.length : Int) = true) :
    Calls Tryd.prog 23 #[.agg (Hd.cs ⟨2, I, X, R, B, E, S, D, V, A⟩ (.slice a l.length cap))] w fun e w' => e = .returned (.int .i64 (if okFd I X R S D V A then (0 : Nat) else 2 : Nat)) ∧ Nb w w' := by
  have hCode := Lib.hid (refcode_any 2 (l.length : Int))
  rw [show codeE 2 (l.length : Int) = 0 by simp [codeE, hh]] at hCode
  generalize codeV 2 (l.length : Int) = cv at *
  clear hh
  simp only [Hd.cs]
  go_enter Tryd.func23, Tryd.ntmps23
  go_wp2_with fail
  refine (hCode.out _).mono ?_
  rintro e w1 ⟨rfl, n1⟩
  have hf := ((Blk.new w #[.int .i64 2, .int .u32 I, .bool X, .bool R, .bool B, .bool E, .bool S, .int .u8 D, .int .u8 V, .int .u32 A, .slice a l.length cap] 25).nb (Nb.rfl.al (.cells #[.int .i64 2, .int .u32 I, .bool X, .bool R, .bool B, .bool E, .bool S, .int .u8 D, .int .u8 V, .int .u32 A, .slice none 0 0] 25))).nb n1
  have hx := (Blk.new (w.alloc (.cells #[.int .i64 2, .int .u32 I, .bool X, .bool R, .bool B, .bool E, .bool S, .int .u8 D, .int .u8 V, .int .u32 A, .slice a l.length cap] 25)) #[.int .i64 2, .int .u32 I, .bool X, .bool R, .bool B, .bool E, .bool S, .int .u8 D, .int .u8 V, .int .u32 A, .slice none 0 0] 25).nb n1
  rw [World.size_alloc] at hx
  have M := Lib.hid (((Nb.rfl.al _).al _).tr n1 : Nb w w1)
  obtain ⟨c0, c1, c2, c3, c4, c5, c6, c7, c8, c9, c10⟩ := hf.c11
  obtain ⟨d0, d1, d2, d3, d4, d5, d6, d7, d8, d9, d10⟩ := hx.c11
  obtain ⟨g0, g1, g2, g3, g4, g5, g6, g7, g8, g9, g10⟩ := hx.f11
  clear hf hx n1
  go_wp2
  all_goals go_ret
  all_goals refine ⟨by first | (simp_all [okFd]; done) | (simp_all [okFd]; omega), ?_⟩
  all_goals first
    | exact M.out
    | exact M.out.s2 (by omega) _ _ _ _

set_option maxHeartbeats 8000000 in
set_option maxRecDepth 100000 in
theorem refcheck5_xl (I : Int) (X R B E S : Bool) (D V A : Int) (a : Option Addr) (cap : Nat) (l : List Nat) (w : World) (hL : l.length ≤ 9223372036854775807) (hh : hasF 3 (l.length : Int) = true) :
    Calls Tryd.prog 23 #[.agg (Hd.cs ⟨3, I, X, R, B, E, S, D, V, A⟩ (.slice a l.length cap))] w fun e w' => e = .returned (.int .i64 (if okXl I X R B E then (0 : Nat) else 2 : Nat)) ∧ Nb w w' := by
  have hCode := Lib.hid (refcode_any 3 (l.length : Int))
  rw [show codeE 3 (l.length : Int) = 0 by simp [codeE, hh]] at hCode
  generalize codeV 3 (l.length : Int) = cv at *
  clear hh
  simp only [Hd.cs]
  go_enter Tryd.func23, Tryd.ntmps23
  go_wp2_with fail
  refine (hCode.out _).mono ?_
  rintro e w1 ⟨rfl, n1⟩
  have hf := ((Blk.new w #[.int .i64 3, .int .u32 I, .bool X, .bool R, .bool B, .bool E, .bool S, .int .u8 D, .int .u8 V, .int .u32 A, .slice a l.length cap] 25).nb (Nb.rfl.al (.cells #[.int .i64 3, .int .u32 I, .bool X, .bool R, .bool B, .bool E, .bool S, .int .u8 D, .int .u8 V, .int .u32 A, .slice none 0 0] 25))).nb n1
  have hx := (Blk.new (w.alloc (.cells #[.int .i64 3, .int .u32 I, .bool X, .bool R, .bool B, .bool E, .bool S, .int .u8 D, .int .u8 V, .int .u32 A, .slice a l.length cap] 25)) #[.int .i64 3, .int .u32 I, .bool X, .bool R, .bool B, .bool E, .bool S, .int .u8 D, .int .u8 V, .int .u32 A, .slice none 0 0] 25).nb n1
  rw [World.size_alloc] at hx
  have M := Lib.hid (((Nb.rfl.al _).al _).tr n1 : Nb w w1)
  obtain ⟨c0, c1, c2, c3, c4, c5, c6, c7, c8, c9, c10⟩ := hf.c11
  obtain ⟨d0, d1, d2, d3, d4, d5, d6, d7, d8, d9, d10⟩ := hx.c11
  obtain ⟨g0, g1, g2, g3, g4, g5, g6, g7, g8, g9, g10⟩ := hx.f11
  clear hf hx n1
  go_wp2
  all_goals go_ret
  all_goals refine ⟨by first | (simp_all [okXl]; done) | (simp_all [okXl]; omega), ?_⟩
  all_goals first
    | exact M.out
    | exact M.out.s4 (by omega) _ _ _ _ _ _ _ _
end Go.Proofs.YtfcmoamooafomaaDoor
