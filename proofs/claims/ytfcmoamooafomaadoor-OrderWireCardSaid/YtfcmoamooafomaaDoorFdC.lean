
/- Contracts of package fd's Body, Most, sumOf and way. Condition: the tables of kinds and of longer sizes hold what the program's text lays there. -/
import Derived.Test.YtfcmoamooafomaaDoorRwC
import Derived.Test.YtfcmoamooafomaaDoorFrmH
import Derived.Test.YtfcmoamooafomaaDoorFdP
import Derived.Test.YtfcmoamooafomaaDoorGx
namespace Go.Proofs.YtfcmoamooafomaaDoor
set_option linter.unusedVariables false
set_option linter.unusedSimpArgs false
open Go.RowKit

theorem bitsN_24 : bitsN 2 4 = [0, 0, 1, 0] := by decide

set_option maxHeartbeats 1600000 in
set_option maxRecDepth 100000 in
theorem body7_no (f : Hd) (a : Option Addr) (cap : Nat) (l : List Nat) (w : World) (hL : l.length ≤ 9223372036854775807) (hK : (f.K == 2) = false) :
    Calls Tryd.prog 48 #[.agg (f.cs (.slice a l.length cap))] w fun e w' => AnsF w [] 2 e w' ∧ Nb w w' := by
  obtain ⟨K, I, X, R, B, E, S, D, V, A⟩ := f
  simp only [Hd.cs]
  have d : (K != 2) = true := by simpa [bne] using hK
  clear hK
  go_enter Tryd.func48, Tryd.ntmps48
  go_wp2
  go_ret2
  exact ⟨⟨_, _, rfl, Fresh.nil _ _⟩, Nb.rfl.al _⟩

set_option maxHeartbeats 1600000 in
set_option maxRecDepth 100000 in
theorem body7_bad (f : Hd) (a : Option Addr) (cap : Nat) (l : List Nat) (w : World) (h : Bs w a cap l) (hl : Longer w) (hK : f.K = 2) (ho : okF f l = false) :
    Calls Tryd.prog 48 #[.agg (f.cs (.slice a l.length cap))] w fun e w' => AnsF w [] 2 e w' ∧ Nb w w' := by
  have hL := h.len
  have hc := check5_any f a cap l _ (h.below (Nb.rfl.al (.cells (f.cs (.slice a l.length cap)) 25))) (hl.below (Nb.rfl.al (.cells (f.cs (.slice a l.length cap)) 25)))
  rw [show checkN f l = 2 by simp [checkN, ho]] at hc
  obtain ⟨K, I, X, R, B, E, S, D, V, A⟩ := f
  simp only at hK
  subst hK
  simp only [Hd.cs] at hc ⊢
  have HC := Lib.hid hc
  clear hc h hl ho
  go_enter Tryd.func48, Tryd.ntmps48
  go_wp2_with fail
  refine HC.out.mono ?_
  rintro e w1 ⟨rfl, n1⟩
  go_wp2
  go_ret2
  exact ⟨⟨_, _, rfl, Fresh.nil _ _⟩, (Nb.rfl.al _).tr n1⟩

set_option maxHeartbeats 4000000 in
set_option maxRecDepth 100000 in
theorem body7_ok (B E : Bool) (i : Nat) (a : Option Addr) (cap : Nat) (l : List Nat) (w : World) (h : Bs w a cap l) (hok : okD ⟨2, (i : Int), false, false, B, E, false, 0, 0, 0⟩ l = true) (hl : Longer w) :
    Calls Tryd.prog 48 #[.agg (Hd.cs ⟨2, (i : Int), false, false, B, E, false, 0, 0, 0⟩ (.slice a l.length cap))] w fun e w' => AnsF w (bodyD B E i l) 0 e w' ∧ Nb w w' := by
  obtain ⟨j, _, ej, hh, hi⟩ := okD_parts hok (Int.natCast_nonneg i)
  have ej' : i = j := by simpa using ej
  subst ej'
  obtain ⟨h64, hc16, hcE, _⟩ := has2 hh
  have hokF : okF ⟨2, (i : Int), false, false, B, E, false, 0, 0, 0⟩ l = true := by simpa [okD] using hok
  have P1 := Lib.hid (fun w' (n : Nb w w') => by
    have := check5_any ⟨2, (i : Int), false, false, B, E, false, 0, 0, 0⟩ a cap l w' (h.below n) (hl.below n)
    rw [show checkN ⟨2, (i : Int), false, false, B, E, false, 0, 0, 0⟩ l = 0 by simp [checkN, hokF]] at this
    simp only [Hd.cs] at this
    exact this)
  have hp2 := fun w' (n : Nb w w') => by
    have := code_any 2 (l.length : Int) w' (hl.below n)
    rw [hcE] at this
    exact this
  obtain ⟨c, hc⟩ : ∃ c, codeV 2 (l.length : Int) = c := ⟨_, rfl⟩
  have EQ := Lib.hid (show bitsN 0 1 ++ bitsN i 11 ++ bitsN 2 4 ++ bitsN (bitB B) 1 ++ bitsN (bitB E) 1 ++ bitsN c 4 ++ bytesBits l = bodyD B E i l by rw [← hc]; simp [bodyD, headD, bitsN_01, bitsN_24, bitsN_b1])
  rw [hc] at hc16 hp2
  have P2 := Lib.hid hp2
  have HL := Lib.hid h
  have hL := h.len
  have hmf : ∀ (fn : Fn) (first cap : Array Value) (w : World), (Instr.makeFunc fn first cap).run Tryd.prog w = .ok (.func fn first cap) w := fun _ _ _ _ => rfl
  clear h hok hokF hl hp2 hh hcE hc ej
  simp only [Hd.cs]
  go_enter Tryd.func48, Tryd.ntmps48
  go_wp2_with fail
  refine (P1.out _ (Nb.rfl.al _)).mono ?_
  rintro e w2 ⟨rfl, n2⟩
  have m2 : Nb w w2 := (Nb.rfl.al _).tr n2
  have b2 := (Blk.new w _ _).nb n2
  obtain ⟨c0, c1, c2, c3, c4, c5, c6, c7, c8, c9, c10⟩ := b2.c11
  go_wp2_with fail
  refine (P2.out _ m2).mono ?_
  rintro e w3 ⟨rfl, n3⟩
  have m3 : Nb w w3 := m2.tr n3
  have hs3 : w.heap.size + 1 ≤ w3.heap.size := by have := (n2.tr n3).size; simpa using this
  have b3 := Lib.hid (b2.nb n3)
  have lt3 : w.heap.size < w3.heap.size := hs3
  have ne3 : ¬ w.heap.size = w3.heap.size := by omega
  clear b2 n2 n3 m2
  obtain ⟨c0, c1, c2, c3, c4, c5, c6, c7, c8, c9, c10⟩ := b3.out.c11
  go_wp2_with fail
  obtain ⟨w4, hw4⟩ : ∃ w4, w4 = w3.alloc (.cells #[.slice none 0 0] 103) := ⟨_, rfl⟩
  have r4 : RowAt w4 103 w3.heap.size (.slice none 0 0) [] := by rw [hw4]; exact ⟨Blk.new _ _ _, OwnB.nil _, by simp [Value.ownBlock]⟩
  have m4 : Nb w w4 := by rw [hw4]; exact m3.al _
  have b4 := Lib.hid (b3.out.nb (show Nb w3 w4 by rw [hw4]; exact Nb.rfl.al _))
  have NF := Lib.hid (show ¬ Foot w3.heap.size (.slice none 0 0) w.heap.size by rintro (h | h); omega; simp [Value.ownBlock] at h)
  have hR : w.heap.size ≤ w3.heap.size := by omega
  have s4 : RowStep w4 103 w3.heap.size (.slice none 0 0) [] w4 := ⟨_, r4, Kp.rfl, fun _ h => .inl h⟩
  rw [← hw4]
  clear hw4 r4
  have S := Lib.hid s4
  clear s4
  obtain ⟨v5, r5, k5, f5⟩ := S.out
  obtain ⟨c0, c1, c2, c3, c4, c5, c6, c7, c8, c9, c10⟩ := (b4.out.keep k5 NF.out).c11
  go_wp2_with fail
  refine (cput_any w3.heap.size v5 _ 0 1 _ r5 (by omega) (by omega) (by decide) (by (try simp only [List.length_append, bitsN_length, List.length_nil]); omega)).mono ?_
  rintro e x1 ⟨rfl, s5⟩
  have S := Lib.hid (RowStep.tr2 k5 f5 s5)
  clear s5 r5 k5 f5 c0 c1 c2 c3 c4 c5 c6 c7 c8 c9 c10
  obtain ⟨v5, r5, k5, f5⟩ := S.out
  obtain ⟨c0, c1, c2, c3, c4, c5, c6, c7, c8, c9, c10⟩ := (b4.out.keep k5 NF.out).c11
  go_wp2_with fail
  refine (cput_any w3.heap.size v5 _ i 11 _ r5 (by omega) (by omega) (by omega) (by (try simp only [List.length_append, bitsN_length, List.length_nil]); omega)).mono ?_
  rintro e x2 ⟨rfl, s5⟩
  have S := Lib.hid (RowStep.tr2 k5 f5 s5)
  clear s5 r5 k5 f5 c0 c1 c2 c3 c4 c5 c6 c7 c8 c9 c10
  obtain ⟨v5, r5, k5, f5⟩ := S.out
  obtain ⟨c0, c1, c2, c3, c4, c5, c6, c7, c8, c9, c10⟩ := (b4.out.keep k5 NF.out).c11
  go_wp2_with fail
  refine (cput_any w3.heap.size v5 _ 2 4 _ r5 (by omega) (by omega) (by decide) (by (try simp only [List.length_append, bitsN_length, List.length_nil]); omega)).mono ?_
  rintro e x3 ⟨rfl, s5⟩
  have S := Lib.hid (RowStep.tr2 k5 f5 s5)
  clear s5 r5 k5 f5 c0 c1 c2 c3 c4 c5 c6 c7 c8 c9 c10
  obtain ⟨v5, r5, k5, f5⟩ := S.out
  obtain ⟨c0, c1, c2, c3, c4, c5, c6, c7, c8, c9, c10⟩ := (b4.out.keep k5 NF.out).c11
  go_wp2_with fail
  refine (flag6_any B _).mono ?_
  rintro e w4' ⟨rfl, rfl⟩
  go_wp2_with fail
  refine (cput_any w3.heap.size v5 _ (bitB B) 1 _ r5 (by omega) (by omega) (by have := bitB_le B; omega) (by (try simp only [List.length_append, bitsN_length, List.length_nil]); omega)).mono ?_
  rintro e x4 ⟨rfl, s5⟩
  have S := Lib.hid (RowStep.tr2 k5 f5 s5)
  clear s5 r5 k5 f5 c0 c1 c2 c3 c4 c5 c6 c7 c8 c9 c10
  obtain ⟨v5, r5, k5, f5⟩ := S.out
  obtain ⟨c0, c1, c2, c3, c4, c5, c6, c7, c8, c9, c10⟩ := (b4.out.keep k5 NF.out).c11
  go_wp2_with fail
  refine (flag6_any E _).mono ?_
  rintro e w4' ⟨rfl, rfl⟩
  go_wp2_with fail
  refine (cput_any w3.heap.size v5 _ (bitB E) 1 _ r5 (by omega) (by omega) (by have := bitB_le E; omega) (by (try simp only [List.length_append, bitsN_length, List.length_nil]); omega)).mono ?_
  rintro e x5 ⟨rfl, s5⟩
  have S := Lib.hid (RowStep.tr2 k5 f5 s5)
  clear s5 r5 k5 f5 c0 c1 c2 c3 c4 c5 c6 c7 c8 c9 c10
  obtain ⟨v5, r5, k5, f5⟩ := S.out
  obtain ⟨c0, c1, c2, c3, c4, c5, c6, c7, c8, c9, c10⟩ := (b4.out.keep k5 NF.out).c11
  go_wp2_with fail
  refine (cput_any w3.heap.size v5 _ c 4 _ r5 (by omega) (by omega) (by omega) (by (try simp only [List.length_append, bitsN_length, List.length_nil]); omega)).mono ?_
  rintro e x6 ⟨rfl, s5⟩
  have S := Lib.hid (RowStep.tr2 k5 f5 s5)
  clear s5 r5 k5 f5 c0 c1 c2 c3 c4 c5 c6 c7 c8 c9 c10
  obtain ⟨v5, r5, k5, f5⟩ := S.out
  obtain ⟨c0, c1, c2, c3, c4, c5, c6, c7, c8, c9, c10⟩ := (b4.out.keep k5 NF.out).c11
  go_wp2_with fail
  refine (rbytes_any w3.heap.size v5 _ a cap l _ r5 (HL.out.below (S.out.below m4 hR)) (by simp only [List.length_append, bitsN_length, List.length_nil]; omega) (by simp only [List.length_append, bitsN_length, List.length_nil]; omega) (by omega)).mono ?_
  rintro e w7 ⟨rfl, s7⟩
  have s8 := RowStep.tr2 k5 f5 s7
  rw [List.nil_append, EQ.out] at s8
  have nr : Nb w w7 := s8.below m4 hR
  obtain ⟨a7, d7, y7, f7⟩ := s8.fresh m4 hR
  have F7 := Lib.hid f7
  clear s8 s7 f7 r5 k5 f5 S c0 c1 c2 c3 c4 c5 c6 c7 c8 c9 c10
  go_wp2
  go_ret2
  exact ⟨⟨a7, d7, rfl, F7.out⟩, nr⟩

theorem body7_any (f : Hd) (a : Option Addr) (cap : Nat) (l : List Nat) (w : World) (h : Bs w a cap l) (hI : 0 ≤ f.I) (hl : Longer w) :
    Calls Tryd.prog 48 #[.agg (f.cs (.slice a l.length cap))] w fun e w' => AnsF w (bdC f l) (okDE f l) e w' ∧ Nb w w' := by
  cases hok : okD f l with
  | true =>
    obtain ⟨i, ef, et, _⟩ := okD_parts hok hI
    rw [show bdC f l = bodyD f.B f.E i l by rw [bdC, if_pos hok, et], show okDE f l = 0 by rw [okDE, if_pos hok]]
    have hok2 : okD ⟨2, (i : Int), false, false, f.B, f.E, false, 0, 0, 0⟩ l = true := by rw [← ef]; exact hok
    have := body7_ok f.B f.E i a cap l w h hok2 hl
    rw [← ef] at this
    exact this
  | false =>
    rw [show bdC f l = [] by simp [bdC, hok], show okDE f l = 2 by simp [okDE, hok]]
    cases hK : f.K == 2 with
    | false => exact body7_no f a cap l w h.len hK
    | true => exact body7_bad f a cap l w h hl (by simpa using hK) (by simpa [okD, hK] using hok)

set_option maxHeartbeats 400000 in
set_option maxRecDepth 100000 in
theorem sumof_any (n : Nat) (w : World) : Calls Tryd.prog 51 #[.int .i64 (n : Int)] w fun e w' => e = .returned (.int .i64 (kindD n : Nat)) ∧ w = w' := by
  by_cases h : 16 < n
  · have d : decide ((n : Int) ≤ 16) = false := by simp; omega
    rw [show kindD n = 3 by simp [kindD, h]]
    clear h
    go_enter Tryd.func51, Tryd.ntmps51
    go_wp2
    go_ret
    exact ⟨rfl, rfl⟩
  · have d : decide ((n : Int) ≤ 16) = true := by simp; omega
    rw [show kindD n = 2 by simp [kindD, h]]
    clear h
    go_enter Tryd.func51, Tryd.ntmps51
    go_wp2
    go_ret
    exact ⟨rfl, rfl⟩

set_option maxHeartbeats 400000 in
set_option maxRecDepth 100000 in
theorem way7_any (w : World) : Calls Tryd.prog 73 #[] w fun e w' => e = .returned (.agg #[.int .i64 4, .bool true]) ∧ Nb w w' := by
  go_enter Tryd.func73, Tryd.ntmps73
  go_wp2
  refine bodyPost_ret (v := .agg #[.int .i64 4, .bool true]) (by simp [results, Tryd.results73, go_sem]) rfl ⟨rfl, Nb.rfl.al _⟩

/-! Most. -/
def mostD (s : Int) : Nat := if hasF 2 s then 22 + 8 * s.toNat + (22 + 8 * s.toNat - 1) / 4 + (if 16 < s.toNat then 32 else 27) + 10 else 0
def mostDE (s : Int) : Nat := if hasF 2 s then 0 else 2
theorem has2_nat {s : Int} (h : hasF 2 s = true) : ∃ n : Nat, s = n := by
  obtain ⟨h1, h2⟩ := (hasF_iff 2 s).1 h
  exact ⟨_, h2.symm⟩
end Go.Proofs.YtfcmoamooafomaaDoor
