
/- Contracts of package classic's plain, Body and Most. Condition: the tables of kinds and of longer sizes hold what the program's text lays there. -/
import Derived.Test.YtfcmoamooafomaaDoorClaD
import Derived.Test.YtfcmoamooafomaaDoorFrmH
namespace Go.Proofs.YtfcmoamooafomaaDoor
set_option linter.unusedVariables false
set_option linter.unusedSimpArgs false
open Go.RowKit

theorem puthead_any (X R : Bool) (i : Nat) (K : Int) (B E S : Bool) (D V A : Int) (dv : Value) (R0 : Nat) (v : Value) (l : List Nat) (w : World) (h : RowAt w 103 R0 v l) (hi : i < 536870912) (hx : X = false → i < 2048) (hl : l.length ≤ 100000) :
    Calls Tryd.prog 84 #[.agg #[.int .i64 K, .int .u32 i, .bool X, .bool R, .bool B, .bool E, .bool S, .int .u8 D, .int .u8 V, .int .u32 A, dv], .func (.func 65) #[.pointer (some ⟨R0, 0, none⟩)] #[]] w fun e w' => e = .returned (.tuple #[]) ∧ RowStep w 103 R0 v (l ++ headC X R i) w' := by
  cases X with
  | false => exact puthead_std i K R B E S D V A dv R0 v l w h hi (hx rfl) hl
  | true => exact puthead_ext i K R B E S D V A dv R0 v l w h hi hl

set_option maxHeartbeats 1600000 in
set_option maxRecDepth 100000 in
theorem plain6_no (f : Hd) (a : Option Addr) (cap : Nat) (l : List Nat) (w : World) (hL : l.length ≤ 9223372036854775807) (hK : (f.K == 1) = false) :
    Calls Tryd.prog 57 #[.agg (f.cs (.slice a l.length cap))] w fun e w' => AnsF3 w [] 0 2 e w' ∧ Nb w w' := by
  obtain ⟨K, I, X, R, B, E, S, D, V, A⟩ := f
  simp only [Hd.cs]
  have d : (K != 1) = true := by simpa [bne] using hK
  clear hK
  go_enter Tryd.func57, Tryd.ntmps57
  go_wp2
  go_ret3
  exact ⟨⟨_, _, rfl, Fresh.nil _ _⟩, Nb.rfl.al _⟩

set_option maxHeartbeats 1600000 in
set_option maxRecDepth 100000 in
theorem plain6_bad (f : Hd) (a : Option Addr) (cap : Nat) (l : List Nat) (w : World) (h : Bs w a cap l) (hl : Longer w) (hK : f.K = 1) (ho : okF f l = false) :
    Calls Tryd.prog 57 #[.agg (f.cs (.slice a l.length cap))] w fun e w' => AnsF3 w [] 0 2 e w' ∧ Nb w w' := by
  have hL := h.len
  have hc := check5_any f a cap l _ (h.below (Nb.rfl.al (.cells (f.cs (.slice a l.length cap)) 25))) (hl.below (Nb.rfl.al (.cells (f.cs (.slice a l.length cap)) 25)))
  rw [show checkN f l = 2 by simp [checkN, ho]] at hc
  obtain ⟨K, I, X, R, B, E, S, D, V, A⟩ := f
  simp only at hK
  subst hK
  simp only [Hd.cs] at hc ⊢
  have HC := Lib.hid hc
  clear hc h hl ho
  go_enter Tryd.func57, Tryd.ntmps57
  go_wp2_with fail
  refine HC.out.mono ?_
  rintro e w1 ⟨rfl, n1⟩
  go_wp2
  go_ret3
  exact ⟨⟨_, _, rfl, Fresh.nil _ _⟩, (Nb.rfl.al _).tr n1⟩

set_option maxHeartbeats 4000000 in
set_option maxRecDepth 100000 in
theorem plain6_ok (X R : Bool) (i : Nat) (a : Option Addr) (cap : Nat) (l : List Nat) (w : World) (h : Bs w a cap l) (hok : okC ⟨1, (i : Int), X, R, false, false, false, 0, 0, 0⟩ l = true) (hk : Kinds w) (hl : Longer w) :
    Calls Tryd.prog 57 #[.agg (Hd.cs ⟨1, (i : Int), X, R, false, false, false, 0, 0, 0⟩ (.slice a l.length cap))] w fun e w' => AnsF3 w (bodyN X R i l) (headC X R i).length 0 e w' ∧ Nb w w' := by
  obtain ⟨j, _, ej, h8, _, hx, hi⟩ := okC_parts hok (Int.natCast_nonneg i)
  have ej' : i = j := by simpa using ej
  subst ej'
  simp only at hx
  have hokF : okF ⟨1, (i : Int), X, R, false, false, false, 0, 0, 0⟩ l = true := by simpa [okC] using hok
  have P1 := Lib.hid (fun w' (n : Nb w w') => by
    have := check5_any ⟨1, (i : Int), X, R, false, false, false, 0, 0, 0⟩ a cap l w' (h.below n) (hl.below n)
    rw [show checkN ⟨1, (i : Int), X, R, false, false, false, 0, 0, 0⟩ l = 0 by simp [checkN, hokF]] at this
    simp only [Hd.cs] at this
    exact this)
  have P2 := Lib.hid (fun w' (n : Nb w w') => by
    have := code_any 1 (l.length : Int) w' (hl.below n)
    rw [(code1 h8).1, (code1 h8).2] at this
    exact this)
  have hpl : (preC X R i l).length ≤ 10000 := by rw [preC_len]; split <;> omega
  have hch : chk (preC X R i l) = true := chk_of (preC_bit X R i l) (by omega)
  have hsum := sum_add (k := 1) (l := preC X R i l) (by decide) hch
  have P3 := Lib.hid (fun w' (a' : Option Addr) (c' : Nat) (n : Nb w w') (hb : Bs w' a' c' (preC X R i l)) (hn : a' = none → c' = 0) => by
    have := add_u 1 a' c' (preC X R i l) w' (hk.below n) hb hn
    rw [hsum.1, hsum.2, show preC X R i l ++ sumC 1 (preC X R i l) = bodyN X R i l from rfl] at this
    exact this)
  have hne : (preC X R i l).length ≠ 0 := by rw [preC_len]; split <;> omega
  have HNE := Lib.hid hne
  have HL := Lib.hid h
  have hhl := headC_len X R i
  have hhl2 : (headC X R i).length ≤ 35 := by rw [hhl]; split <;> omega
  have hmf : ∀ (fn : Fn) (first cap : Array Value) (w : World), (Instr.makeFunc fn first cap).run Tryd.prog w = .ok (.func fn first cap) w := fun _ _ _ _ => rfl
  have HX := Lib.hid hx
  have hL := h.len
  have hbl : ∀ k, k ≤ l.length → (headC X R i ++ bitsN l.length 4 ++ bytesBits (l.take k)).length ≤ 1000 := by
    intro k hkl
    rw [List.length_append, List.length_append, bitsN_length, bytesBits_len, List.length_take]
    omega
  have HBL := Lib.hid hbl
  have EP := Lib.hid (show headC X R i ++ bitsN l.length 4 ++ bytesBits l = preC X R i l by rw [preC, List.append_assoc])
  clear h hok hokF hk hl hx hch hsum hne hpl hhl hbl
  simp only [Hd.cs]
  go_enter Tryd.func57, Tryd.ntmps57
  go_wp2_with fail
  refine (P1.out _ (Nb.rfl.al _)).mono ?_
  rintro e w2 ⟨rfl, n2⟩
  have m2 : Nb w w2 := (Nb.rfl.al _).tr n2
  have b2 := (Blk.new w _ _).nb n2
  obtain ⟨c0, c1, c2, c3, c4, c5, c6, c7, c8, c9, c10⟩ := b2.c11
  go_wp2_with fail
  refine (P2.out _ m2).mono ?_
  rintro e w3 ⟨rfl, n3⟩
  have m3 : Nb w w3 := m2.tr n3
  have hs3 : w.heap.size + 1 ≤ w3.heap.size := by have := (n2.tr n3).size; simpa using this
  have b3 := Lib.hid (b2.nb n3)
  have lt3 : w.heap.size < w3.heap.size := hs3
  have ne3 : ¬ w.heap.size = w3.heap.size := by omega
  clear b2 n2 n3 m2
  obtain ⟨c0, c1, c2, c3, c4, c5, c6, c7, c8, c9, c10⟩ := b3.out.c11
  go_wp2_with fail
  obtain ⟨w4, hw4⟩ : ∃ w4, w4 = w3.alloc (.cells #[.slice none 0 0] 103) := ⟨_, rfl⟩
  have r4 : RowAt w4 103 w3.heap.size (.slice none 0 0) [] := by rw [hw4]; exact ⟨Blk.new _ _ _, OwnB.nil _, by simp [Value.ownBlock]⟩
  have m4 : Nb w w4 := by rw [hw4]; exact m3.al _
  have b4 := Lib.hid (b3.out.nb (show Nb w3 w4 by rw [hw4]; exact Nb.rfl.al _))
  have NF := Lib.hid (show ¬ Foot w3.heap.size (.slice none 0 0) w.heap.size by rintro (h | h); omega; simp [Value.ownBlock] at h)
  have hR : w.heap.size ≤ w3.heap.size := by omega
  rw [← hw4]
  clear hw4
  refine (puthead_any X R i _ _ _ _ _ _ _ _ _ _ _ _ r4 hi HX.out (by simp)).mono ?_
  rintro e w5 ⟨rfl, s5⟩
  rw [List.nil_append] at s5
  have S5 := Lib.hid s5
  obtain ⟨a5, d5, y5, f5⟩ := s5.fresh m4 hR
  clear f5
  have b5 := s5.blk b4.out NF.out
  obtain ⟨c0, c1, c2, c3, c4, c5, c6, c7, c8, c9, c10⟩ := b5.c11
  clear s5 b5 r4
  go_wp2_with fail
  obtain ⟨v5, r5, k5, f5⟩ := S5.out
  refine (cput_any w3.heap.size v5 _ l.length 4 _ r5 (by omega) (by omega) (by omega) (by omega)).mono ?_
  rintro e w6 ⟨rfl, s6⟩
  have S6 := Lib.hid (RowStep.tr2 k5 f5 s6)
  clear s6 r5 k5 f5
  have b6 := S6.out.blk b4.out NF.out
  obtain ⟨c0, c1, c2, c3, c4, c5, c6, c7, c8, c9, c10⟩ := b6.c11
  clear b6 y5
  go_wp2_with fail
  obtain ⟨v5, r5, k5, f5⟩ := S6.out
  refine (rbytes_any w3.heap.size v5 _ a cap l _ r5 (HL.out.below (S6.out.below m4 hR)) (by rw [List.length_append, bitsN_length]; omega) (by have := HBL.out 0 (by omega); simp [bytesBits] at this; simp; omega) (by omega)).mono ?_
  rintro e w7 ⟨rfl, s7⟩
  have s8 := RowStep.tr2 k5 f5 s7
  rw [EP.out] at s8
  have nr : Nb w w7 := s8.below m4 hR
  obtain ⟨a7, d7, y7, f7⟩ := s8.fresh m4 hR
  have F7 := Lib.hid f7
  clear s8 s7 f7 r5 k5 f5 HBL S6 S5
  go_wp2_with fail
  obtain ⟨u1, u2⟩ := F7.out.bs
  refine (P3.out _ a7 d7 nr u1 u2).mono ?_
  rintro e w8 ⟨⟨a8, c8', rfl, f8⟩, n8⟩
  have F8 := Lib.hid (show Fresh w w8 _ _ from ⟨f8.1, fun g hg => Nat.le_trans nr.size (f8.2 g hg)⟩)
  clear f8 u1 u2 EP
  go_wp2
  go_ret3
  exact ⟨⟨a8, c8', rfl, F8.out⟩, nr.tr n8⟩

theorem plain6_any (f : Hd) (a : Option Addr) (cap : Nat) (l : List Nat) (w : World) (h : Bs w a cap l) (hI : 0 ≤ f.I) (hk : Kinds w) (hl : Longer w) :
    Calls Tryd.prog 57 #[.agg (f.cs (.slice a l.length cap))] w fun e w' => AnsF3 w (bodyC f l) (arbN f l) (okE f l) e w' ∧ Nb w w' := by
  cases hok : okC f l with
  | true =>
    obtain ⟨i, ef, et, _⟩ := okC_parts hok hI
    rw [show bodyC f l = bodyN f.X f.R i l by rw [bodyC, if_pos hok, et], show arbN f l = (headC f.X f.R i).length by rw [arbN, if_pos hok, et], show okE f l = 0 by rw [okE, if_pos hok]]
    have hok2 : okC ⟨1, (i : Int), f.X, f.R, false, false, false, 0, 0, 0⟩ l = true := by rw [← ef]; exact hok
    have := plain6_ok f.X f.R i a cap l w h hok2 hk hl
    rw [← ef] at this
    exact this
  | false =>
    rw [show bodyC f l = [] by simp [bodyC, hok], show arbN f l = 0 by simp [arbN, hok], show okE f l = 2 by simp [okE, hok]]
    cases hK : f.K == 1 with
    | false => exact plain6_no f a cap l w h.len hK
    | true => exact plain6_bad f a cap l w h hl (by simpa using hK) (by simpa [okC, hK] using hok)

/-! Most. -/
def mostV (s : Int) : Nat := if 0 ≤ s ∧ s ≤ 8 then 54 + 8 * s.toNat + (54 + 8 * s.toNat - 1) / 4 + 10 else 0
def mostE (s : Int) : Nat := if 0 ≤ s ∧ s ≤ 8 then 0 else 2
theorem code1_bad {s : Int} (h : ¬ (0 ≤ s ∧ s ≤ 8)) : codeE 1 s = 2 := by
  have hh : hasF 1 s = false := by
    cases hh : hasF 1 s with
    | false => rfl
    | true =>
      obtain ⟨h1, h2⟩ := (hasF_iff 1 s).1 hh
      have h3 : fitF 1 s < 9 := h1
      rw [at1 _ h3] at h2
      omega
  simp [codeE, hh]
end Go.Proofs.YtfcmoamooafomaaDoor
