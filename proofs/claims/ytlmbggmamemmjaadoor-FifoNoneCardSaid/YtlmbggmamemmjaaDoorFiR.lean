
/- The program's ring of frames in an array: place, at, put, take. No conditions but the places' own bounds. -/
import Derived.Test.YtlmbggmamemmjaaDoorFiP
import Derived.Deep.RegionWith
import Derived.Deep.RegionHeld3
namespace Go.Proofs.YtlmbggmamemmjaaDoor
set_option linter.unusedVariables false
set_option linter.unusedSimpArgs false
open Go.RowKit

set_option maxHeartbeats 800000 in
theorem place16_any (R first n : Nat) (w : World) (h : w.cell? ⟨R, 706, none⟩ = some (.int .i64 (first : Nat))) (hf : first < 64) (hn : n ≤ 64) :
    Calls Tryd.prog 35 #[.pointer (some ⟨R, 2, none⟩), .int .i64 (n : Nat)] w fun e w' => e = .returned (.int .i64 (((first + n) % 64 : Nat) : Int)) ∧ w' = w := by
  go_enter Tryd.func35, Tryd.ntmps35
  go_wp2
  go_ret
  refine ⟨?_, rfl⟩
  push_cast
  first | rfl | go_num | (congr 2; omega)

set_option maxHeartbeats 1600000 in
set_option maxRecDepth 100000 in
theorem at16_any (R first n s : Nat) (K I : Int) (X P B E S : Bool) (D V A : Int) (pa : Option Addr) (pk pc : Nat) (w : World) (h : w.cell? ⟨R, 706, none⟩ = some (.int .i64 (first : Nat))) (hf : first < 64) (hn : n ≤ 64) (hs : s = (first + n) % 64)
    (h0 : w.cell? ⟨R, 2 + s * 11, none⟩ = some (.int .i64 K)) (h1 : w.cell? ⟨R, 2 + s * 11 + 1, none⟩ = some (.int .u32 I)) (h2 : w.cell? ⟨R, 2 + s * 11 + 2, none⟩ = some (.bool X)) (h3 : w.cell? ⟨R, 2 + s * 11 + 3, none⟩ = some (.bool P)) (h4 : w.cell? ⟨R, 2 + s * 11 + 4, none⟩ = some (.bool B)) (h5 : w.cell? ⟨R, 2 + s * 11 + 5, none⟩ = some (.bool E)) (h6 : w.cell? ⟨R, 2 + s * 11 + 6, none⟩ = some (.bool S)) (h7 : w.cell? ⟨R, 2 + s * 11 + 7, none⟩ = some (.int .u8 D)) (h8 : w.cell? ⟨R, 2 + s * 11 + 8, none⟩ = some (.int .u8 V)) (h9 : w.cell? ⟨R, 2 + s * 11 + 9, none⟩ = some (.int .u32 A)) (h10 : w.cell? ⟨R, 2 + s * 11 + 10, none⟩ = some (.slice pa pk pc)) :
    Calls Tryd.prog 29 #[.pointer (some ⟨R, 2, none⟩), .int .i64 (n : Nat)] w fun e w' => e = .returned (.agg #[.int .i64 K, .int .u32 I, .bool X, .bool P, .bool B, .bool E, .bool S, .int .u8 D, .int .u8 V, .int .u32 A, .slice pa pk pc]) ∧ Nb w w' := by
  have PL := Lib.hid (fun w' (n' : Nb w w') => place16_any R first n w' ((n'.cell (World.block_lt_of_cell? _ _ h)).trans h) hf hn)
  rw [← hs] at PL
  have hs64 : s < 64 := by omega
  have i1 : (s : Int) < 64 := by omega
  have hRl : R < w.heap.size := World.block_lt_of_cell? _ _ h
  have hRn : ¬ R = w.heap.size := by omega
  clear h hf hn hs
  go_enter Tryd.func29, Tryd.ntmps29
  go_wp2_with fail
  go_region_with (go_at_call 35; refine (PL.out _ (by first | exact Nb.rfl.al _ | exact (Nb.rfl.al _).tr (Nb.drewN _ 1) | exact (Nb.rfl.al _).tr (Nb.drewN _ 2))).mono ?_; rintro e w1 ⟨rfl, rfl⟩)
  go_wp2
  exact bodyPost_ret (v := .agg #[.int .i64 K, .int .u32 I, .bool X, .bool P, .bool B, .bool E, .bool S, .int .u8 D, .int .u8 V, .int .u32 A, .slice pa pk pc]) (by simp [results, Tryd.results29, go_sem]) rfl ⟨rfl, (Nb.rfl.al _).tr (Nb.drewN _ 1)⟩

set_option maxHeartbeats 8000000 in
set_option maxRecDepth 100000 in
theorem put16_raw (R first n s : Nat) (u0 u1 u2 u3 u4 u5 u6 u7 u8 u9 u10 : Value) (K I : Int) (X P B E S : Bool) (D V A : Int) (pa : Option Addr) (pk pc : Nat) (w : World) (cs : Array Value) (hb : Blk w R cs 59) (hc : w.cell? ⟨R, 706, none⟩ = some (.int .i64 (first : Nat))) (hd : w.cell? ⟨R, 707, none⟩ = some (.int .i64 (n : Nat))) (hf : first < 64) (hn : n < 64) (hs : s = (first + n) % 64)
    (h0 : w.cell? ⟨R, 2 + s * 11, none⟩ = some (u0)) (h1 : w.cell? ⟨R, 2 + s * 11 + 1, none⟩ = some (u1)) (h2 : w.cell? ⟨R, 2 + s * 11 + 2, none⟩ = some (u2)) (h3 : w.cell? ⟨R, 2 + s * 11 + 3, none⟩ = some (u3)) (h4 : w.cell? ⟨R, 2 + s * 11 + 4, none⟩ = some (u4)) (h5 : w.cell? ⟨R, 2 + s * 11 + 5, none⟩ = some (u5)) (h6 : w.cell? ⟨R, 2 + s * 11 + 6, none⟩ = some (u6)) (h7 : w.cell? ⟨R, 2 + s * 11 + 7, none⟩ = some (u7)) (h8 : w.cell? ⟨R, 2 + s * 11 + 8, none⟩ = some (u8)) (h9 : w.cell? ⟨R, 2 + s * 11 + 9, none⟩ = some (u9)) (h10 : w.cell? ⟨R, 2 + s * 11 + 10, none⟩ = some (u10)) :
    Calls Tryd.prog 27 #[.pointer (some ⟨R, 2, none⟩), .agg #[.int .i64 K, .int .u32 I, .bool X, .bool P, .bool B, .bool E, .bool S, .int .u8 D, .int .u8 V, .int .u32 A, .slice pa pk pc]] w fun e w' => e = .returned (.tuple #[]) ∧ w' = (((w.setCells R (2 + s * 11) [.int .i64 K, .int .u32 I, .bool X, .bool P, .bool B, .bool E, .bool S, .int .u8 D, .int .u8 V, .int .u32 A, .slice pa pk pc]).setCell ⟨R, 707, none⟩ (.int .i64 ((n : Int) + 1))).alloc (.cells #[.int .i64 K, .int .u32 I, .bool X, .bool P, .bool B, .bool E, .bool S, .int .u8 D, .int .u8 V, .int .u32 A, .slice pa pk pc] 36)).drew := by
  have PL := Lib.hid (fun w' (n' : Nb w w') => place16_any R first n w' ((n'.cell (World.block_lt_of_cell? _ _ hc)).trans hc) hf (by omega))
  rw [← hs] at PL
  have hs64 : s < 64 := by omega
  have i1 : (s : Int) < 64 := by omega
  have hRl : R < w.heap.size := World.block_lt_of_cell? _ _ hc
  have hRn : ¬ R = w.heap.size := by omega
  have hRm : ¬ w.heap.size = R := by omega
  have p0 : ¬ 2 + s * 11 = 707 := by omega
  have q0 : ¬ 707 = 2 + s * 11 := by omega
  have p1 : ¬ 2 + s * 11 + 1 = 707 := by omega
  have q1 : ¬ 707 = 2 + s * 11 + 1 := by omega
  have p2 : ¬ 2 + s * 11 + 2 = 707 := by omega
  have q2 : ¬ 707 = 2 + s * 11 + 2 := by omega
  have p3 : ¬ 2 + s * 11 + 3 = 707 := by omega
  have q3 : ¬ 707 = 2 + s * 11 + 3 := by omega
  have p4 : ¬ 2 + s * 11 + 4 = 707 := by omega
  have q4 : ¬ 707 = 2 + s * 11 + 4 := by omega
  have p5 : ¬ 2 + s * 11 + 5 = 707 := by omega
  have q5 : ¬ 707 = 2 + s * 11 + 5 := by omega
  have p6 : ¬ 2 + s * 11 + 6 = 707 := by omega
  have q6 : ¬ 707 = 2 + s * 11 + 6 := by omega
  have p7 : ¬ 2 + s * 11 + 7 = 707 := by omega
  have q7 : ¬ 707 = 2 + s * 11 + 7 := by omega
  have p8 : ¬ 2 + s * 11 + 8 = 707 := by omega
  have q8 : ¬ 707 = 2 + s * 11 + 8 := by omega
  have p9 : ¬ 2 + s * 11 + 9 = 707 := by omega
  have q9 : ¬ 707 = 2 + s * 11 + 9 := by omega
  have p10 : ¬ 2 + s * 11 + 10 = 707 := by omega
  have q10 : ¬ 707 = 2 + s * 11 + 10 := by omega
  have z0 := hb.frozen (2 + s * 11)
  have z1 := hb.frozen (2 + s * 11 + 1)
  have z2 := hb.frozen (2 + s * 11 + 2)
  have z3 := hb.frozen (2 + s * 11 + 3)
  have z4 := hb.frozen (2 + s * 11 + 4)
  have z5 := hb.frozen (2 + s * 11 + 5)
  have z6 := hb.frozen (2 + s * 11 + 6)
  have z7 := hb.frozen (2 + s * 11 + 7)
  have z8 := hb.frozen (2 + s * 11 + 8)
  have z9 := hb.frozen (2 + s * 11 + 9)
  have z10 := hb.frozen (2 + s * 11 + 10)
  have zz := hb.frozen 707
  clear hc hf hs hb
  go_enter Tryd.func27, Tryd.ntmps27
  go_wp2_with fail
  go_region_with (go_at_call 35; refine (PL.out _ (by first | exact Nb.rfl.al _ | exact (Nb.rfl.al _).tr (Nb.drewN _ 1) | exact (Nb.rfl.al _).tr (Nb.drewN _ 2))).mono ?_; rintro e w1 ⟨rfl, rfl⟩)
  all_goals go_wp2
  all_goals go_end0
  all_goals exact ⟨rfl, rfl⟩

set_option maxHeartbeats 8000000 in
set_option maxRecDepth 100000 in
theorem take16_raw (R first n : Nat) (K I : Int) (X P B E S : Bool) (D V A : Int) (pa : Option Addr) (pk pc : Nat) (w : World) (cs : Array Value) (hb : Blk w R cs 59) (hc : cs[706]? = some (.int .i64 (first : Nat))) (hd : cs[707]? = some (.int .i64 ((n : Int) + 1))) (hf : first < 64) (hn : n < 64)
    (g0 : cs[2 + first * 11]? = some (.int .i64 K)) (g1 : cs[2 + first * 11 + 1]? = some (.int .u32 I)) (g2 : cs[2 + first * 11 + 2]? = some (.bool X)) (g3 : cs[2 + first * 11 + 3]? = some (.bool P)) (g4 : cs[2 + first * 11 + 4]? = some (.bool B)) (g5 : cs[2 + first * 11 + 5]? = some (.bool E)) (g6 : cs[2 + first * 11 + 6]? = some (.bool S)) (g7 : cs[2 + first * 11 + 7]? = some (.int .u8 D)) (g8 : cs[2 + first * 11 + 8]? = some (.int .u8 V)) (g9 : cs[2 + first * 11 + 9]? = some (.int .u32 A)) (g10 : cs[2 + first * 11 + 10]? = some (.slice pa pk pc)) :
    Calls Tryd.prog 25 #[.pointer (some ⟨R, 2, none⟩)] w fun e w' => e = .returned (.agg #[.int .i64 K, .int .u32 I, .bool X, .bool P, .bool B, .bool E, .bool S, .int .u8 D, .int .u8 V, .int .u32 A, .slice pa pk pc]) ∧ ∃ w1, Nb w w1 ∧ Kp (fun k => w.heap.size ≤ k) (((w1.setCells R (2 + first * 11) [.int .i64 0, .int .u32 0, .bool false, .bool false, .bool false, .bool false, .bool false, .int .u8 0, .int .u8 0, .int .u32 0, .slice none 0 0]).setCell ⟨R, 706, none⟩ (.int .i64 (((first : Int) + 1) % 64))).setCell ⟨R, 707, none⟩ (.int .i64 (n : Nat))) w' := by
  have AT := Lib.hid (fun w' (n' : Nb w w') => at16_any R first 0 first K I X P B E S D V A pa pk pc w' (((hb.nb n').cell 706).trans hc) hf (by omega) (by omega) (((hb.nb n').cell _).trans g0) (((hb.nb n').cell _).trans g1) (((hb.nb n').cell _).trans g2) (((hb.nb n').cell _).trans g3) (((hb.nb n').cell _).trans g4) (((hb.nb n').cell _).trans g5) (((hb.nb n').cell _).trans g6) (((hb.nb n').cell _).trans g7) (((hb.nb n').cell _).trans g8) (((hb.nb n').cell _).trans g9) (((hb.nb n').cell _).trans g10))
  have PL := Lib.hid (fun w' (h : w'.cell? ⟨R, 706, none⟩ = some (.int .i64 (first : Nat))) => place16_any R first 1 w' h hf (by omega))
  have i1 : (first : Int) < 64 := by omega
  have hRl : R < w.heap.size := hb.lt
  have hRm : ¬ w.heap.size = R := by omega
  have hRn : ¬ R = w.heap.size := by omega
  have HB := Lib.hid hb
  have BZ := Lib.hid (Blk.new w #[.int .i64 0, .int .u32 0, .bool false, .bool false, .bool false, .bool false, .bool false, .int .u8 0, .int .u8 0, .int .u32 0, .slice none 0 0] 36)
  have p0 : ¬ 2 + first * 11 = 707 := by omega
  have q0 : ¬ 707 = 2 + first * 11 := by omega
  have P0 : ¬ 2 + first * 11 = 706 := by omega
  have Q0 : ¬ 706 = 2 + first * 11 := by omega
  have p1 : ¬ 2 + first * 11 + 1 = 707 := by omega
  have q1 : ¬ 707 = 2 + first * 11 + 1 := by omega
  have P1 : ¬ 2 + first * 11 + 1 = 706 := by omega
  have Q1 : ¬ 706 = 2 + first * 11 + 1 := by omega
  have p2 : ¬ 2 + first * 11 + 2 = 707 := by omega
  have q2 : ¬ 707 = 2 + first * 11 + 2 := by omega
  have P2 : ¬ 2 + first * 11 + 2 = 706 := by omega
  have Q2 : ¬ 706 = 2 + first * 11 + 2 := by omega
  have p3 : ¬ 2 + first * 11 + 3 = 707 := by omega
  have q3 : ¬ 707 = 2 + first * 11 + 3 := by omega
  have P3 : ¬ 2 + first * 11 + 3 = 706 := by omega
  have Q3 : ¬ 706 = 2 + first * 11 + 3 := by omega
  have p4 : ¬ 2 + first * 11 + 4 = 707 := by omega
  have q4 : ¬ 707 = 2 + first * 11 + 4 := by omega
  have P4 : ¬ 2 + first * 11 + 4 = 706 := by omega
  have Q4 : ¬ 706 = 2 + first * 11 + 4 := by omega
  have p5 : ¬ 2 + first * 11 + 5 = 707 := by omega
  have q5 : ¬ 707 = 2 + first * 11 + 5 := by omega
  have P5 : ¬ 2 + first * 11 + 5 = 706 := by omega
  have Q5 : ¬ 706 = 2 + first * 11 + 5 := by omega
  have p6 : ¬ 2 + first * 11 + 6 = 707 := by omega
  have q6 : ¬ 707 = 2 + first * 11 + 6 := by omega
  have P6 : ¬ 2 + first * 11 + 6 = 706 := by omega
  have Q6 : ¬ 706 = 2 + first * 11 + 6 := by omega
  have p7 : ¬ 2 + first * 11 + 7 = 707 := by omega
  have q7 : ¬ 707 = 2 + first * 11 + 7 := by omega
  have P7 : ¬ 2 + first * 11 + 7 = 706 := by omega
  have Q7 : ¬ 706 = 2 + first * 11 + 7 := by omega
  have p8 : ¬ 2 + first * 11 + 8 = 707 := by omega
  have q8 : ¬ 707 = 2 + first * 11 + 8 := by omega
  have P8 : ¬ 2 + first * 11 + 8 = 706 := by omega
  have Q8 : ¬ 706 = 2 + first * 11 + 8 := by omega
  have p9 : ¬ 2 + first * 11 + 9 = 707 := by omega
  have q9 : ¬ 707 = 2 + first * 11 + 9 := by omega
  have P9 : ¬ 2 + first * 11 + 9 = 706 := by omega
  have Q9 : ¬ 706 = 2 + first * 11 + 9 := by omega
  have p10 : ¬ 2 + first * 11 + 10 = 707 := by omega
  have q10 : ¬ 707 = 2 + first * 11 + 10 := by omega
  have P10 : ¬ 2 + first * 11 + 10 = 706 := by omega
  have Q10 : ¬ 706 = 2 + first * 11 + 10 := by omega
  clear hb
  go_enter Tryd.func25, Tryd.ntmps25
  go_wp2_with fail
  refine (AT.out _ (Nb.rfl.al _)).mono ?_
  rintro e w1 ⟨rfl, n1⟩
  have N1 := Lib.hid ((Nb.rfl.al _).tr n1)
  have hs1 := n1.size
  rw [World.size_alloc] at hs1
  have hR1 : R < w1.heap.size := by omega
  have hR2 : ¬ R = w1.heap.size := by omega
  have hR3 : ¬ w1.heap.size = R := by omega
  have hw1 : w.heap.size < w1.heap.size := by omega
  have hw2 : ¬ w.heap.size = w1.heap.size := by omega
  have hw3 : ¬ w1.heap.size = w.heap.size := by omega
  have b1 := HB.out.nb N1.out
  have m0 := (b1.cell 706).trans hc
  have m1 := (b1.cell 707).trans hd
  have m2 := b1.frozen 706
  have m3 := b1.frozen 707
  have z0 := b1.frozen (2 + first * 11)
  have z1 := b1.frozen (2 + first * 11 + 1)
  have z2 := b1.frozen (2 + first * 11 + 2)
  have z3 := b1.frozen (2 + first * 11 + 3)
  have z4 := b1.frozen (2 + first * 11 + 4)
  have z5 := b1.frozen (2 + first * 11 + 5)
  have z6 := b1.frozen (2 + first * 11 + 6)
  have z7 := b1.frozen (2 + first * 11 + 7)
  have z8 := b1.frozen (2 + first * 11 + 8)
  have z9 := b1.frozen (2 + first * 11 + 9)
  have z10 := b1.frozen (2 + first * 11 + 10)
  have l0 := (b1.cell (2 + first * 11)).trans g0
  have l1 := (b1.cell (2 + first * 11 + 1)).trans g1
  have l2 := (b1.cell (2 + first * 11 + 2)).trans g2
  have l3 := (b1.cell (2 + first * 11 + 3)).trans g3
  have l4 := (b1.cell (2 + first * 11 + 4)).trans g4
  have l5 := (b1.cell (2 + first * 11 + 5)).trans g5
  have l6 := (b1.cell (2 + first * 11 + 6)).trans g6
  have l7 := (b1.cell (2 + first * 11 + 7)).trans g7
  have l8 := (b1.cell (2 + first * 11 + 8)).trans g8
  have l9 := (b1.cell (2 + first * 11 + 9)).trans g9
  have l10 := (b1.cell (2 + first * 11 + 10)).trans g10
  obtain ⟨y0, y1, y2, y3, y4, y5, y6, y7, y8, y9, y10⟩ := (BZ.out.nb n1).c11
  obtain ⟨x0, x1, x2, x3, x4, x5, x6, x7, x8, x9, x10⟩ := (BZ.out.nb n1).f11
  have BZ1 := Lib.hid (BZ.out.nb n1)
  clear n1 b1 AT hs1 hc hd g0 g1 g2 g3 g4 g5 g6 g7 g8 g9 g10
  go_wp2_with fail
  go_region
  all_goals go_wp2_with fail
  all_goals (refine (PL.out _ (by go_simp)).mono ?_)
  all_goals (rintro e w2 ⟨rfl, rfl⟩)
  all_goals go_wp2
  all_goals (
    have kU : Kp (fun k => k = R) w1 (((w1.setCells R (2 + first * 11) [.int .i64 0, .int .u32 0, .bool false, .bool false, .bool false, .bool false, .bool false, .int .u8 0, .int .u8 0, .int .u32 0, .slice none 0 0]).setCell ⟨R, 706, none⟩ (.int .i64 (((first : Int) + 1) % 64))).setCell ⟨R, 707, none⟩ (.int .i64 (n : Nat))) := ((Kp.sets (F := fun k => k = R) rfl _ _ _).tr (Kp.set (F := fun k => k = R) rfl) (fun _ h => .inl h)).tr (Kp.set (F := fun k => k = R) rfl) (fun _ h => .inl h)
    change bodyPost _ _ _ _ _ (((put11 (((w1.setCells R (2 + first * 11) [.int .i64 0, .int .u32 0, .bool false, .bool false, .bool false, .bool false, .bool false, .int .u8 0, .int .u8 0, .int .u32 0, .slice none 0 0]).setCell ⟨R, 706, none⟩ (.int .i64 (((first : Int) + 1) % 64))).setCell ⟨R, 707, none⟩ (.int .i64 (n : Nat))) w.heap.size (.int .i64 K) (.int .u32 I) (.bool X) (.bool P) (.bool B) (.bool E) (.bool S) (.int .u8 D) (.int .u8 V) (.int .u32 A) (.slice pa pk pc)).alloc (.cells #[.int .i64 K, .int .u32 I, .bool X, .bool P, .bool B, .bool E, .bool S, .int .u8 D, .int .u8 V, .int .u32 A, .slice pa pk pc] 36)).drew)
    have KU := Lib.hid kU
    clear kU
    obtain ⟨U, hU⟩ : ∃ U, U = ((w1.setCells R (2 + first * 11) [.int .i64 0, .int .u32 0, .bool false, .bool false, .bool false, .bool false, .bool false, .int .u8 0, .int .u8 0, .int .u32 0, .slice none 0 0]).setCell ⟨R, 706, none⟩ (.int .i64 (((first : Int) + 1) % 64))).setCell ⟨R, 707, none⟩ (.int .i64 (n : Nat)) := ⟨_, rfl⟩
    rw [← hU] at KU ⊢
    have bP := (((put11_blk (v0 := .int .i64 K) (v1 := .int .u32 I) (v2 := .bool X) (v3 := .bool P) (v4 := .bool B) (v5 := .bool E) (v6 := .bool S) (v7 := .int .u8 D) (v8 := .int .u8 V) (v9 := .int .u32 A) (v10 := .slice pa pk pc) (BZ1.out.keep KU.out hRm)).nb (Nb.rfl.al (.cells #[.int .i64 K, .int .u32 I, .bool X, .bool P, .bool B, .bool E, .bool S, .int .u8 D, .int .u8 V, .int .u32 A, .slice pa pk pc] 36))).nb (Nb.drewN _ 1))
    have KP := Lib.hid (show Kp (fun k => w.heap.size ≤ k) U (((put11 U w.heap.size (.int .i64 K) (.int .u32 I) (.bool X) (.bool P) (.bool B) (.bool E) (.bool S) (.int .u8 D) (.int .u8 V) (.int .u32 A) (.slice pa pk pc)).alloc (.cells #[.int .i64 K, .int .u32 I, .bool X, .bool P, .bool B, .bool E, .bool S, .int .u8 D, .int .u8 V, .int .u32 A, .slice pa pk pc] 36)).drew) from ((put11_kp U w.heap.size (.int .i64 K) (.int .u32 I) (.bool X) (.bool P) (.bool B) (.bool E) (.bool S) (.int .u8 D) (.int .u8 V) (.int .u32 A) (.slice pa pk pc)).mono (fun k _ h => by have : k = w.heap.size := h; omega)).tr (Kp.ofNb (F := fun _ => False) ((Nb.rfl.al _).tr (Nb.drewN _ 1))) (fun k h => h.elim))
    change Blk (((put11 U w.heap.size (.int .i64 K) (.int .u32 I) (.bool X) (.bool P) (.bool B) (.bool E) (.bool S) (.int .u8 D) (.int .u8 V) (.int .u32 A) (.slice pa pk pc)).alloc (.cells #[.int .i64 K, .int .u32 I, .bool X, .bool P, .bool B, .bool E, .bool S, .int .u8 D, .int .u8 V, .int .u32 A, .slice pa pk pc] 36)).drew) _ _ _ at bP
    generalize (((put11 U w.heap.size (.int .i64 K) (.int .u32 I) (.bool X) (.bool P) (.bool B) (.bool E) (.bool S) (.int .u8 D) (.int .u8 V) (.int .u32 A) (.slice pa pk pc)).alloc (.cells #[.int .i64 K, .int .u32 I, .bool X, .bool P, .bool B, .bool E, .bool S, .int .u8 D, .int .u8 V, .int .u32 A, .slice pa pk pc] 36)).drew) = W2 at *
    obtain ⟨e0, e1, e2, e3, e4, e5, e6, e7, e8, e9, e10⟩ := bP.c11
    exact bodyPost_ret (v := .agg #[.int .i64 K, .int .u32 I, .bool X, .bool P, .bool B, .bool E, .bool S, .int .u8 D, .int .u8 V, .int .u32 A, .slice pa pk pc]) (by simp [results, Tryd.results25, go_sem, e0, e1, e2, e3, e4, e5, e6, e7, e8, e9, e10]) rfl ⟨rfl, w1, N1.out, by rw [← hU]; exact KP.out⟩)
end Go.Proofs.YtlmbggmamemmjaaDoor
