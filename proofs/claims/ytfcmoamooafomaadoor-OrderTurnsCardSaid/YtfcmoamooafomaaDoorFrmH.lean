
/- Contract of the document Check, a Classic frame. No conditions. -/
import Derived.Test.YtfcmoamooafomaaDoorFrmG
namespace Go.Proofs.YtfcmoamooafomaaDoor
set_option linter.unusedVariables false
set_option linter.unusedSimpArgs false
open Go.RowKit

set_option maxHeartbeats 8000000 in
set_option maxRecDepth 100000 in
theorem refcheck5_cl_false_false (I : Int) (B E S : Bool) (D V A : Int) (a : Option Addr) (cap n : Nat) (w : World) (hL : n ≤ 9223372036854775807) (hh : hasF 1 (n : Int) = true) (hi2 : I < 536870912) (hi : I < 2048) :
    Calls Tryd.prog 23 #[.agg (Hd.cs ⟨1, I, false, false, B, E, S, D, V, A⟩ (.slice a n cap))] w fun e w' => e = .returned (.int .i64 (if okCl I false false B E S D V A true then (0 : Nat) else 2 : Nat)) ∧ Nb w w' := by
  have hCode := Lib.hid (refcode_any 1 (n : Int))
  rw [show codeE 1 (n : Int) = 0 by unfold codeE; rw [hh]; rfl] at hCode
  generalize codeV 1 (n : Int) = cv at *
  clear hh
  simp only [Hd.cs]
  go_enter Tryd.func23, Tryd.ntmps23
  go_wp2_with fail
  refine (hCode.out _).mono ?_
  rintro e w1 ⟨rfl, n1⟩
  have hf := ((Blk.new w #[.int .i64 1, .int .u32 I, .bool false, .bool false, .bool B, .bool E, .bool S, .int .u8 D, .int .u8 V, .int .u32 A, .slice a n cap] 25).nb (Nb.rfl.al (.cells #[.int .i64 1, .int .u32 I, .bool false, .bool false, .bool B, .bool E, .bool S, .int .u8 D, .int .u8 V, .int .u32 A, .slice none 0 0] 25))).nb n1
  have hx := (Blk.new (w.alloc (.cells #[.int .i64 1, .int .u32 I, .bool false, .bool false, .bool B, .bool E, .bool S, .int .u8 D, .int .u8 V, .int .u32 A, .slice a n cap] 25)) #[.int .i64 1, .int .u32 I, .bool false, .bool false, .bool B, .bool E, .bool S, .int .u8 D, .int .u8 V, .int .u32 A, .slice none 0 0] 25).nb n1
  rw [World.size_alloc] at hx
  have M := Lib.hid (((Nb.rfl.al _).al _).tr n1 : Nb w w1)
  obtain ⟨c0, c1, c2, c3, c4, c5, c6, c7, c8, c9, c10⟩ := hf.c11
  obtain ⟨d0, d1, d2, d3, d4, d5, d6, d7, d8, d9, d10⟩ := hx.c11
  obtain ⟨g0, g1, g2, g3, g4, g5, g6, g7, g8, g9, g10⟩ := hx.f11
  clear hf hx n1
  go_wp2
  all_goals go_ret
  all_goals refine ⟨by first | (simp_all [okCl]; done) | (simp_all [okCl]; omega), ?_⟩
  all_goals first
    | exact M.out
    | exact M.out.s2 (by omega) _ _ _ _


set_option maxHeartbeats 8000000 in
set_option maxRecDepth 100000 in
theorem refcheck5_cl_false_true (I : Int) (B E S : Bool) (D V A : Int) (a : Option Addr) (cap n : Nat) (w : World) (hL : n ≤ 9223372036854775807) (hh : hasF 1 (n : Int) = true) (hi2 : I < 536870912) :
    Calls Tryd.prog 23 #[.agg (Hd.cs ⟨1, I, true, false, B, E, S, D, V, A⟩ (.slice a n cap))] w fun e w' => e = .returned (.int .i64 (if okCl I true false B E S D V A true then (0 : Nat) else 2 : Nat)) ∧ Nb w w' := by
  have hCode := Lib.hid (refcode_any 1 (n : Int))
  rw [show codeE 1 (n : Int) = 0 by unfold codeE; rw [hh]; rfl] at hCode
  generalize codeV 1 (n : Int) = cv at *
  clear hh
  simp only [Hd.cs]
  go_enter Tryd.func23, Tryd.ntmps23
  go_wp2_with fail
  refine (hCode.out _).mono ?_
  rintro e w1 ⟨rfl, n1⟩
  have hf := ((Blk.new w #[.int .i64 1, .int .u32 I, .bool true, .bool false, .bool B, .bool E, .bool S, .int .u8 D, .int .u8 V, .int .u32 A, .slice a n cap] 25).nb (Nb.rfl.al (.cells #[.int .i64 1, .int .u32 I, .bool true, .bool false, .bool B, .bool E, .bool S, .int .u8 D, .int .u8 V, .int .u32 A, .slice none 0 0] 25))).nb n1
  have hx := (Blk.new (w.alloc (.cells #[.int .i64 1, .int .u32 I, .bool true, .bool false, .bool B, .bool E, .bool S, .int .u8 D, .int .u8 V, .int .u32 A, .slice a n cap] 25)) #[.int .i64 1, .int .u32 I, .bool true, .bool false, .bool B, .bool E, .bool S, .int .u8 D, .int .u8 V, .int .u32 A, .slice none 0 0] 25).nb n1
  rw [World.size_alloc] at hx
  have M := Lib.hid (((Nb.rfl.al _).al _).tr n1 : Nb w w1)
  obtain ⟨c0, c1, c2, c3, c4, c5, c6, c7, c8, c9, c10⟩ := hf.c11
  obtain ⟨d0, d1, d2, d3, d4, d5, d6, d7, d8, d9, d10⟩ := hx.c11
  obtain ⟨g0, g1, g2, g3, g4, g5, g6, g7, g8, g9, g10⟩ := hx.f11
  clear hf hx n1
  go_wp2
  all_goals go_ret
  all_goals refine ⟨by first | (simp_all [okCl]; done) | (simp_all [okCl]; omega), ?_⟩
  all_goals first
    | exact M.out
    | exact M.out.s2 (by omega) _ _ _ _


set_option maxHeartbeats 8000000 in
set_option maxRecDepth 100000 in
theorem refcheck5_cl_true_false (I : Int) (B E S : Bool) (D V A : Int) (a : Option Addr) (cap : Nat) (w : World) (hh : hasF 1 ((0 : Nat) : Int) = true) (hi2 : I < 536870912) (hi : I < 2048) :
    Calls Tryd.prog 23 #[.agg (Hd.cs ⟨1, I, false, true, B, E, S, D, V, A⟩ (.slice a 0 cap))] w fun e w' => e = .returned (.int .i64 (if okCl I false true B E S D V A true then (0 : Nat) else 2 : Nat)) ∧ Nb w w' := by
  have hCode := Lib.hid (refcode_any 1 ((0 : Nat) : Int))
  rw [show codeE 1 ((0 : Nat) : Int) = 0 by unfold codeE; rw [hh]; rfl] at hCode
  generalize codeV 1 ((0 : Nat) : Int) = cv at *
  clear hh
  simp only [Hd.cs]
  go_enter Tryd.func23, Tryd.ntmps23
  go_wp2_with fail
  refine (hCode.out _).mono ?_
  rintro e w1 ⟨rfl, n1⟩
  have hf := ((Blk.new w #[.int .i64 1, .int .u32 I, .bool false, .bool true, .bool B, .bool E, .bool S, .int .u8 D, .int .u8 V, .int .u32 A, .slice a 0 cap] 25).nb (Nb.rfl.al (.cells #[.int .i64 1, .int .u32 I, .bool false, .bool true, .bool B, .bool E, .bool S, .int .u8 D, .int .u8 V, .int .u32 A, .slice none 0 0] 25))).nb n1
  have hx := (Blk.new (w.alloc (.cells #[.int .i64 1, .int .u32 I, .bool false, .bool true, .bool B, .bool E, .bool S, .int .u8 D, .int .u8 V, .int .u32 A, .slice a 0 cap] 25)) #[.int .i64 1, .int .u32 I, .bool false, .bool true, .bool B, .bool E, .bool S, .int .u8 D, .int .u8 V, .int .u32 A, .slice none 0 0] 25).nb n1
  rw [World.size_alloc] at hx
  have M := Lib.hid (((Nb.rfl.al _).al _).tr n1 : Nb w w1)
  obtain ⟨c0, c1, c2, c3, c4, c5, c6, c7, c8, c9, c10⟩ := hf.c11
  obtain ⟨d0, d1, d2, d3, d4, d5, d6, d7, d8, d9, d10⟩ := hx.c11
  obtain ⟨g0, g1, g2, g3, g4, g5, g6, g7, g8, g9, g10⟩ := hx.f11
  clear hf hx n1
  go_wp2
  all_goals go_ret
  all_goals refine ⟨by first | (simp_all [okCl]; done) | (simp_all [okCl]; omega), ?_⟩
  all_goals first
    | exact M.out
    | exact M.out.s2 (by omega) _ _ _ _


set_option maxHeartbeats 8000000 in
set_option maxRecDepth 100000 in
theorem refcheck5_cl_true_true (I : Int) (B E S : Bool) (D V A : Int) (a : Option Addr) (cap : Nat) (w : World) (hh : hasF 1 ((0 : Nat) : Int) = true) (hi2 : I < 536870912) :
    Calls Tryd.prog 23 #[.agg (Hd.cs ⟨1, I, true, true, B, E, S, D, V, A⟩ (.slice a 0 cap))] w fun e w' => e = .returned (.int .i64 (if okCl I true true B E S D V A true then (0 : Nat) else 2 : Nat)) ∧ Nb w w' := by
  have hCode := Lib.hid (refcode_any 1 ((0 : Nat) : Int))
  rw [show codeE 1 ((0 : Nat) : Int) = 0 by unfold codeE; rw [hh]; rfl] at hCode
  generalize codeV 1 ((0 : Nat) : Int) = cv at *
  clear hh
  simp only [Hd.cs]
  go_enter Tryd.func23, Tryd.ntmps23
  go_wp2_with fail
  refine (hCode.out _).mono ?_
  rintro e w1 ⟨rfl, n1⟩
  have hf := ((Blk.new w #[.int .i64 1, .int .u32 I, .bool true, .bool true, .bool B, .bool E, .bool S, .int .u8 D, .int .u8 V, .int .u32 A, .slice a 0 cap] 25).nb (Nb.rfl.al (.cells #[.int .i64 1, .int .u32 I, .bool true, .bool true, .bool B, .bool E, .bool S, .int .u8 D, .int .u8 V, .int .u32 A, .slice none 0 0] 25))).nb n1
  have hx := (Blk.new (w.alloc (.cells #[.int .i64 1, .int .u32 I, .bool true, .bool true, .bool B, .bool E, .bool S, .int .u8 D, .int .u8 V, .int .u32 A, .slice a 0 cap] 25)) #[.int .i64 1, .int .u32 I, .bool true, .bool true, .bool B, .bool E, .bool S, .int .u8 D, .int .u8 V, .int .u32 A, .slice none 0 0] 25).nb n1
  rw [World.size_alloc] at hx
  have M := Lib.hid (((Nb.rfl.al _).al _).tr n1 : Nb w w1)
  obtain ⟨c0, c1, c2, c3, c4, c5, c6, c7, c8, c9, c10⟩ := hf.c11
  obtain ⟨d0, d1, d2, d3, d4, d5, d6, d7, d8, d9, d10⟩ := hx.c11
  obtain ⟨g0, g1, g2, g3, g4, g5, g6, g7, g8, g9, g10⟩ := hx.f11
  clear hf hx n1
  go_wp2
  all_goals go_ret
  all_goals refine ⟨by first | (simp_all [okCl]; done) | (simp_all [okCl]; omega), ?_⟩
  all_goals first
    | exact M.out
    | exact M.out.s2 (by omega) _ _ _ _


set_option maxHeartbeats 8000000 in
set_option maxRecDepth 100000 in
theorem refcheck5_b1 (I : Int) (X R B E S : Bool) (D V A : Int) (a : Option Addr) (cap n : Nat) (w : World) (hL : n ≤ 9223372036854775807) (hh : hasF 1 (n : Int) = true) (hb : R = true ∧ 0 < n) :
    Calls Tryd.prog 23 #[.agg (Hd.cs ⟨1, I, X, R, B, E, S, D, V, A⟩ (.slice a n cap))] w fun e w' => e = .returned (.int .i64 2) ∧ Nb w w' := by
  have hCode := Lib.hid (refcode_any 1 (n : Int))
  rw [show codeE 1 (n : Int) = 0 by unfold codeE; rw [hh]; rfl] at hCode
  generalize codeV 1 (n : Int) = cv at *
  clear hh
  simp only [Hd.cs]
  obtain ⟨rfl, hn⟩ := hb
  go_enter Tryd.func23, Tryd.ntmps23
  go_wp2_with fail
  refine (hCode.out _).mono ?_
  rintro e w1 ⟨rfl, n1⟩
  have hf := ((Blk.new w #[.int .i64 1, .int .u32 I, .bool X, .bool true, .bool B, .bool E, .bool S, .int .u8 D, .int .u8 V, .int .u32 A, .slice a n cap] 25).nb (Nb.rfl.al (.cells #[.int .i64 1, .int .u32 I, .bool X, .bool true, .bool B, .bool E, .bool S, .int .u8 D, .int .u8 V, .int .u32 A, .slice none 0 0] 25))).nb n1
  have M := Lib.hid (((Nb.rfl.al _).al _).tr n1 : Nb w w1)
  obtain ⟨c0, c1, c2, c3, c4, c5, c6, c7, c8, c9, c10⟩ := hf.c11
  clear hf n1
  go_wp2
  all_goals go_ret
  all_goals exact ⟨rfl, M.out⟩


set_option maxHeartbeats 8000000 in
set_option maxRecDepth 100000 in
theorem refcheck5_b2 (I : Int) (X R B E S : Bool) (D V A : Int) (a : Option Addr) (cap n : Nat) (w : World) (hL : n ≤ 9223372036854775807) (hh : hasF 1 (n : Int) = true) (hb : (R = false ∨ n = 0) ∧ X = false ∧ 2048 ≤ I) :
    Calls Tryd.prog 23 #[.agg (Hd.cs ⟨1, I, X, R, B, E, S, D, V, A⟩ (.slice a n cap))] w fun e w' => e = .returned (.int .i64 2) ∧ Nb w w' := by
  have hCode := Lib.hid (refcode_any 1 (n : Int))
  rw [show codeE 1 (n : Int) = 0 by unfold codeE; rw [hh]; rfl] at hCode
  generalize codeV 1 (n : Int) = cv at *
  clear hh
  simp only [Hd.cs]
  obtain ⟨hr, rfl, hi⟩ := hb
  go_enter Tryd.func23, Tryd.ntmps23
  go_wp2_with fail
  refine (hCode.out _).mono ?_
  rintro e w1 ⟨rfl, n1⟩
  have hf := ((Blk.new w #[.int .i64 1, .int .u32 I, .bool false, .bool R, .bool B, .bool E, .bool S, .int .u8 D, .int .u8 V, .int .u32 A, .slice a n cap] 25).nb (Nb.rfl.al (.cells #[.int .i64 1, .int .u32 I, .bool false, .bool R, .bool B, .bool E, .bool S, .int .u8 D, .int .u8 V, .int .u32 A, .slice none 0 0] 25))).nb n1
  have M := Lib.hid (((Nb.rfl.al _).al _).tr n1 : Nb w w1)
  obtain ⟨c0, c1, c2, c3, c4, c5, c6, c7, c8, c9, c10⟩ := hf.c11
  clear hf n1
  go_wp2
  all_goals go_ret
  all_goals exact ⟨rfl, M.out⟩


set_option maxHeartbeats 8000000 in
set_option maxRecDepth 100000 in
theorem refcheck5_b3 (I : Int) (X R B E S : Bool) (D V A : Int) (a : Option Addr) (cap n : Nat) (w : World) (hL : n ≤ 9223372036854775807) (hh : hasF 1 (n : Int) = true) (hb : 536870912 ≤ I) :
    Calls Tryd.prog 23 #[.agg (Hd.cs ⟨1, I, X, R, B, E, S, D, V, A⟩ (.slice a n cap))] w fun e w' => e = .returned (.int .i64 2) ∧ Nb w w' := by
  have hCode := Lib.hid (refcode_any 1 (n : Int))
  rw [show codeE 1 (n : Int) = 0 by unfold codeE; rw [hh]; rfl] at hCode
  generalize codeV 1 (n : Int) = cv at *
  clear hh
  simp only [Hd.cs]
  go_enter Tryd.func23, Tryd.ntmps23
  go_wp2_with fail
  refine (hCode.out _).mono ?_
  rintro e w1 ⟨rfl, n1⟩
  have hf := ((Blk.new w #[.int .i64 1, .int .u32 I, .bool X, .bool R, .bool B, .bool E, .bool S, .int .u8 D, .int .u8 V, .int .u32 A, .slice a n cap] 25).nb (Nb.rfl.al (.cells #[.int .i64 1, .int .u32 I, .bool X, .bool R, .bool B, .bool E, .bool S, .int .u8 D, .int .u8 V, .int .u32 A, .slice none 0 0] 25))).nb n1
  have M := Lib.hid (((Nb.rfl.al _).al _).tr n1 : Nb w w1)
  obtain ⟨c0, c1, c2, c3, c4, c5, c6, c7, c8, c9, c10⟩ := hf.c11
  clear hf n1
  go_wp2
  all_goals go_ret
  all_goals exact ⟨rfl, M.out⟩


theorem refcheck5_any (f : Hd) (a : Option Addr) (cap : Nat) (l : List Nat) (w : World) (hL : l.length ≤ 9223372036854775807) :
    Calls Tryd.prog 23 #[.agg (f.cs (.slice a l.length cap))] w fun e w' => e = .returned (.int .i64 (checkN f l : Nat)) ∧ Nb w w' := by
  cases hh : hasF f.K (l.length : Int) with
  | false =>
    rw [show checkN f l = 2 by simp [checkN, okF, hh]]
    exact refcheck5_no f a cap l w hL hh
  | true =>
    obtain ⟨K, I, X, R, B, E, S, D, V, A⟩ := f
    simp only at hh
    rcases hasF_kind hh with rfl | rfl | rfl
    · have e : checkN ⟨1, I, X, R, B, E, S, D, V, A⟩ l = if okCl I X R B E S D V A (decide (l.length = 0)) then 0 else 2 := by simp only [checkN, okF_cl, hh, Bool.true_and]
      rw [e]
      clear e
      generalize l.length = n at *
      by_cases h3 : 536870912 ≤ I
      · rw [show okCl I X R B E S D V A (decide (n = 0)) = false by simp [okCl, show ¬ I < 536870912 by omega]]
        exact refcheck5_b3 I X R B E S D V A a cap n w hL hh h3
      by_cases h1 : R = true ∧ 0 < n
      · rw [show okCl I X R B E S D V A (decide (n = 0)) = false by simp [okCl, h1.1, show ¬ n = 0 by omega]]
        exact refcheck5_b1 I X R B E S D V A a cap n w hL hh h1
      have hr : R = false ∨ n = 0 := by
        cases R
        · exact .inl rfl
        · exact .inr (Nat.eq_zero_of_not_pos fun h => h1 ⟨rfl, h⟩)
      by_cases h2 : X = false ∧ 2048 ≤ I
      · rw [show okCl I X R B E S D V A (decide (n = 0)) = false by simp [okCl, h2.1, show ¬ I < 2048 by omega]]
        exact refcheck5_b2 I X R B E S D V A a cap n w hL hh ⟨hr, h2.1, h2.2⟩
      have h3' : I < 536870912 := by omega
      cases R
      · rw [show okCl I X false B E S D V A (decide (n = 0)) = okCl I X false B E S D V A true by simp [okCl]]
        cases X
        · exact refcheck5_cl_false_false I B E S D V A a cap n w hL hh h3' (by false_or_by_contra; exact h2 ⟨rfl, by omega⟩)
        · exact refcheck5_cl_false_true I B E S D V A a cap n w hL hh h3'
      · obtain rfl : n = 0 := by rcases hr with h | h; cases h; exact h
        cases X
        · exact refcheck5_cl_true_false I B E S D V A a cap w hh h3' (by false_or_by_contra; exact h2 ⟨rfl, by omega⟩)
        · exact refcheck5_cl_true_true I B E S D V A a cap w hh h3'
    · rw [show checkN ⟨2, I, X, R, B, E, S, D, V, A⟩ l = if okFd I X R S D V A then 0 else 2 by simp only [checkN, okF_fd, hh, Bool.true_and]]
      exact refcheck5_fd I X R B E S D V A a cap l w hL hh
    · rw [show checkN ⟨3, I, X, R, B, E, S, D, V, A⟩ l = if okXl I X R B E then 0 else 2 by simp only [checkN, okF_xl, hh, Bool.true_and]]
      exact refcheck5_xl I X R B E S D V A a cap l w hL hh
end Go.Proofs.YtfcmoamooafomaaDoor
