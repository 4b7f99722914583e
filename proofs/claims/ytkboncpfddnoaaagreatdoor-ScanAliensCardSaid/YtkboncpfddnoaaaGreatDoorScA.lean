
/- What the laws of layer 9 ask first: whether two statuses are the same, the document's examples. Condition: the tables of kinds and of longer sizes hold what the program's text lays there. -/
import Derived.Test.YtkboncpfddnoaaaGreatDoorScV
import Derived.Test.YtkboncpfddnoaaaGreatDoorGz
import Derived.Test.YtkboncpfddnoaaaGreatDoorFrmF
import Derived.Test.YtkboncpfddnoaaaGreatDoorClaA
import Derived.Test.YtkboncpfddnoaaaGreatDoorGa
import Derived.Test.YtkboncpfddnoaaaGreatDoorClaR
namespace Go.Proofs.YtkboncpfddnoaaaGreatDoor
set_option linter.unusedVariables false
set_option linter.unusedSimpArgs false
open Go.RowKit

/-- The same memory, taken as a shorter row. -/
theorem OwnB.shorter {w : World} {g n cap : Nat} {l : List Nat} (h : OwnB w (.slice (some ⟨g, 0, none⟩) n cap) l) {k : Nat} (hk : k ≤ l.length) : OwnB w (.slice (some ⟨g, 0, none⟩) k cap) (l.take k) := by
  obtain ⟨⟨h1, h2⟩, h3⟩ := h
  have hl : (l.take k).length = k := by rw [List.length_take]; omega
  refine ⟨⟨by simp, ?_⟩, fun x hx => h3 x (List.mem_of_mem_take hx)⟩
  rcases h2 with ⟨h2, _⟩ | ⟨g', cap', cur, hv, hb, hh, hn, hm, hs, ht⟩
  · cases h2
  · cases hv
    refine .inr ⟨g, cap, cur, by rw [hl], hb, hh, by rw [hl]; omega, hm, hs, ?_⟩
    rw [Nat.mul_one] at ht
    rw [hl, Nat.mul_one, List.map_take, ← ht, List.take_take, Nat.min_eq_left hk]
def sameT (s t : Sta) : Bool := decide (s.k = t.k) && (decide (s.e = t.e) && sameF s.f t.f s.l t.l)
theorem sameT_rfl (s : Sta) : sameT s s = true := by simp [sameT, sameF_rfl]

set_option maxHeartbeats 1600000 in
set_option maxRecDepth 100000 in
theorem same9_any (s t : Sta) (a a' : Option Addr) (cap cap' : Nat) (w : World) (h : Bs w a cap s.l) (h' : Bs w a' cap' t.l) :
    Calls Tryz.prog 14 #[staV s (.slice a s.l.length cap), staV t (.slice a' t.l.length cap')] w fun e w' => e = .returned (.bool (sameT s t)) ∧ Nb w w' := by
  have hc := fun w' (n : Nb w w') => refsame5_any s.f t.f a a' cap cap' s.l t.l w' (h.below n) (h'.below n)
  obtain ⟨k, er, f, l⟩ := s
  obtain ⟨k', er', f', l'⟩ := t
  obtain ⟨K, I, X, R, B, E, S, D, V, A⟩ := f
  obtain ⟨K', I', X', R', B', E', S', D', V', A'⟩ := f'
  simp only [staV, sameT] at hc ⊢
  simp only [Hd.cs] at hc
  have HC := Lib.hid hc
  clear hc h h'
  generalize sameF _ _ l l' = SF at *
  by_cases hk : k = k'
  · subst hk
    rw [decide_eq_true (rfl : k = k), Bool.true_and]
    by_cases he : er = er'
    · subst he
      rw [decide_eq_true (rfl : er = er), Bool.true_and]
      go_enter Tryz.func14, Tryz.ntmps14
      go_wp2_with fail
      refine (HC.out _ ((Nb.rfl.al _).al _)).mono ?_
      rintro e w1 ⟨rfl, n1⟩
      have m1 : Nb w w1 := ((Nb.rfl.al _).al _).tr n1
      clear n1
      go_wp2
      go_ret
      exact ⟨rfl, m1⟩
    · have d : ((er : Int) == (er' : Int)) = false := by rw [beq_eq_false_iff_ne]; omega
      rw [decide_eq_false he, Bool.false_and]
      clear he
      go_enter Tryz.func14, Tryz.ntmps14
      go_wp2
      go_ret
      exact ⟨rfl, (Nb.rfl.al _).al _⟩
  · have d : ((k : Int) == (k' : Int)) = false := by rw [beq_eq_false_iff_ne]; omega
    rw [decide_eq_false hk, Bool.false_and]
    clear hk
    go_enter Tryz.func14, Tryz.ntmps14
    go_wp2
    go_ret
    exact ⟨rfl, (Nb.rfl.al _).al _⟩

/-! Whole frames. -/
theorem ones_10 : ones 10 = [1, 1] ++ ones 8 := rfl
theorem rowS_of {kn : Bool} {x : List Nat} (h : chk x = true) : rowS kn x = staOf (scS kn x) := by rw [rowS, if_pos h]
theorem row_frame {kn : Bool} {f : Hd} {l : List Nat} (h : okF f l = true) (hW : WdX f) (hb : ∀ x ∈ l, x < 256) (hs : scS kn (rawF f l) = .tail true f l []) :
    rowS kn ((wF f l).take (ackF f l)) = slotS ∧ rowS kn (wF f l) = doneS f l := by
  obtain ⟨e1, e2, e3, e4, e5, _, _, hc⟩ := wF_of h hW hb
  obtain ⟨s1, s2, s3, s4⟩ := sc_wire (a := 1) hs (by omega)
  rw [← ones_10, ← e1] at s2 s4
  refine ⟨?_, ?_⟩
  · rw [rowS_of (chk_sub hc (fun x hx => List.mem_of_mem_take hx) (by rw [List.length_take]; omega)), e2]
    exact s2
  · rw [rowS_of hc, ← List.take_append_drop ((rawF f l).length + 9) (wF f l), sc_stay s4]
    rfl

theorem row_alien {f : Hd} {l : List Nat} (h : okF f l = true) (hW : WdX f) (hb : ∀ x ∈ l, x < 256) (h3 : f.K = 3) :
    rowS false (wF f l) = alienS ∧ rowS false ((wF f l).take (arbF f l)) = alienS ∧ rowS false ((wF f l).take (arbF f l - 2)) = moreS ∧ 2 ≤ arbF f l ∧ arbF f l ≤ (wF f l).length := by
  obtain ⟨_, _, _, _, _, _, _, hc⟩ := wF_of h hW hb
  have ho : okX f l = true := by simp [okX, h3, h]
  have h2 : ¬ f.K = 2 := by omega
  have eA : arbF f l = (putL (headX f.I.toNat)).length := by simp only [arbF, if_neg h2, if_pos h3, wArbX, if_pos ho]
  have eW : wF f l = putL (headX f.I.toNat) ++ (startX ++ (fxPut 8 false 1 (bxC f l) ++ (stopX ++ ones 10))) := by simp only [wF, if_neg h2, if_pos h3, wxC, if_pos ho, rwX, List.append_assoc]
  have hsub : ∀ n, chk ((wF f l).take n) = true := fun n => chk_sub hc (fun x hx => List.mem_of_mem_take hx) (by rw [List.length_take]; omega)
  obtain ⟨s1, s2, s3⟩ := sc_alien f.I.toNat (startX ++ (fxPut 8 false 1 (bxC f l) ++ (stopX ++ ones 10)))
  have hp := (putL_len2 (headX f.I.toNat)).2
  rw [headX_len] at hp
  refine ⟨?_, ?_, ?_, by omega, by rw [eA, eW, List.length_append]; omega⟩
  · rw [rowS_of hc, eW, s1]; rfl
  · rw [rowS_of (hsub _), eA, eW, List.take_left, s2]; rfl
  · rw [rowS_of (hsub _), eA, eW, List.take_append_of_le_length (by omega)]
    exact s3
theorem row_both (x : List Nat) : (rowS true x).k ≠ 4 ∧ (rowS false x = rowS true x ∨ rowS false x = alienS) := by
  unfold rowS
  cases chk x with
  | false => exact ⟨by simp [moreS], .inl rfl⟩
  | true =>
    obtain ⟨_, h4, h⟩ := rk_alien x
    refine ⟨h4, ?_⟩
    rcases h with h | h
    · exact .inl (by rw [h])
    · exact .inr (by rw [h]; rfl)

def liveS : Hd := ⟨1, 3, false, false, false, false, false, 0, 0, 0⟩
theorem live_sc : okF liveS [9] = true ∧ okC liveS [9] = true ∧ 40 ≤ (wireC liveS [9]).length := by decide +kernel
theorem live_bad : rowS true [1] = badS 5 := rfl

set_option maxHeartbeats 3200000 in
set_option maxRecDepth 100000 in
theorem alive9_any (w : World) (hb : Both w) : Calls Tryz.prog 8 #[] w fun e w' => e = .returned (.bool true) ∧ Nb w w' := by
  obtain ⟨o1, o2, o3⟩ := live_sc
  have hW : WdX liveS := by simp only [WdX, liveS]; omega
  have h9 : ∀ x ∈ [9], x < 256 := by simp
  obtain ⟨e1, e2, e3, e4, e5, e6, e7, hc⟩ := wF_of o1 hW h9
  obtain ⟨r1, r2⟩ := row_frame o1 hW h9 (e7 (by simp [liveS]))
  have ew : wF liveS [9] = wireC liveS [9] := by simp [wF, liveS]
  have ea : ackF liveS [9] = wAckC liveS [9] := by simp [ackF, liveS]
  have hle : wAckC liveS [9] ≤ (wireC liveS [9]).length := by rw [← ea, ← ew, e1, e2, List.length_append, ones_len]; omega
  rw [ew] at r1 r2 hc
  rw [ea] at r1
  have h1 := fun w' (n : Nb w w') (a' : Option Addr) (c' : Nat) (h : Bs w' a' c' [9]) => wire6_any liveS a' c' [9] w' h (by simp [liveS]) (hb.1.below n) (hb.2.below n)
  rw [show okE liveS [9] = 0 by rw [okE, if_pos o2]] at h1
  have h2 := fun w' (n : Nb w w') (a' : Option Addr) (c' : Nat) (h : Bs w' a' c' [1]) => scan9_any true a' c' [1] w' h (hb.below n)
  rw [live_bad, show chkE [1] = 0 by rfl] at h2
  have hck : chkE (wireC liveS [9]) = 0 := by rw [chkE, if_pos hc]
  have hck2 : chkE ((wireC liveS [9]).take (wAckC liveS [9])) = 0 := by rw [chkE, if_pos (chk_sub hc (fun x hx => List.mem_of_mem_take hx) (by rw [List.length_take]; omega))]
  have htl : ((wireC liveS [9]).take (wAckC liveS [9])).length = wAckC liveS [9] := by rw [List.length_take]; omega
  have h3 := fun w' (n : Nb w w') (a' : Option Addr) (c' : Nat) (h : Bs w' a' c' (wireC liveS [9])) => by
    have := scan9_any false a' c' _ w' (h.head (wAckC liveS [9])) (hb.below n)
    rw [r1, hck2, htl] at this
    exact this
  have h4 := fun w' (n : Nb w w') (a' : Option Addr) (c' : Nat) (h : Bs w' a' c' (wireC liveS [9])) => by
    have := scan9_any false a' c' _ w' h (hb.below n)
    rw [r2, hck] at this
    exact this
  generalize wireC liveS [9] = L at *
  generalize wArbC liveS [9] = N at *
  generalize wAckC liveS [9] = C at *
  have d40 : decide ((L.length : Int) < 40) = false := by simp; omega
  simp only [Hd.cs, liveS, doneS, slotS, badS, noF, staV, AnsT] at h1 h2 h3 h4
  have H1 := Lib.hid h1
  have H2 := Lib.hid h2
  have H3 := Lib.hid h3
  have H4 := Lib.hid h4
  have F1 := Lib.hid (Fresh.lit w [1] #[.int .u8 1] (by simp) 1 (by simp) (by simp) (by simp))
  have HLE := Lib.hid hle
  clear h1 h2 h3 h4 hb o1 o2 o3 hW h9 e1 e2 e3 e4 e5 e6 e7 hc r1 r2 ew ea hck hck2 htl
  go_enter Tryz.func8, Tryz.ntmps8
  go_wp2_with fail
  refine (H2.out _ (Nb.rfl.al _) _ _ F1.out.bs.1).mono ?_
  rintro e w1 ⟨⟨a1, c1, rfl, b1⟩, n1⟩
  have M1 := Lib.hid ((Nb.rfl.al _).tr n1 : Nb w w1)
  clear n1 b1 F1
  obtain ⟨w2, hw2⟩ : ∃ w2, w2 = w1.alloc (.cells #[.int .i64 3, .int .i64 5, .int .i64 0, .int .u32 0, .bool false, .bool false, .bool false, .bool false, .bool false, .int .u8 0, .int .u8 0, .int .u32 0, .slice a1 0 c1] 31) := ⟨_, rfl⟩
  have X2 := Lib.hid (show Blk w2 w1.heap.size _ 31 by rw [hw2]; exact Blk.new _ #[.int .i64 3, .int .i64 5, .int .i64 0, .int .u32 0, .bool false, .bool false, .bool false, .bool false, .bool false, .int .u8 0, .int .u8 0, .int .u32 0, .slice a1 0 c1] _)
  have M2 := Lib.hid (show Nb w w2 by rw [hw2]; exact M1.out.al _)
  have F2 := Lib.hid (Fresh.lit w2 [9] #[.int .u8 9] (by simp) 1 (by simp) (by simp) (by simp))
  have E2 := Lib.hid hw2
  have hs2 : w2.heap.size = w1.heap.size + 1 := by rw [hw2, World.size_alloc]
  have HS2 := Lib.hid hs2
  clear hw2 hs2
  go_wp2_with fail
  rw [← E2.out, ← HS2.out]
  refine (H1.out _ (M2.out.al _) _ _ F2.out.bs.1).mono ?_
  rintro e w3 ⟨⟨a3, c3, rfl, f3⟩, n3⟩
  have M3 := Lib.hid ((M2.out.al _).tr n3)
  have X3 := Lib.hid (X2.out.nb ((Nb.rfl.al _).tr n3))
  have B3 := Lib.hid f3.1.asBs.1
  have lt3 : w1.heap.size < w3.heap.size := X3.out.lt
  clear n3 f3 F2 E2 HS2
  obtain ⟨w4, hw4⟩ : ∃ w4, w4 = w3.alloc (.cells #[.slice a3 L.length c3, .int .i64 N, .int .i64 C] 43) := ⟨_, rfl⟩
  have n34 : Nb w3 w4 := by rw [hw4]; exact Nb.rfl.al _
  have Y4 := Lib.hid (show Blk w4 w3.heap.size #[.slice a3 L.length c3, .int .i64 N, .int .i64 C] 43 by rw [hw4]; exact Blk.new _ _ _)
  have X4 := Lib.hid (X3.out.nb n34)
  have M4 := Lib.hid (M3.out.tr n34)
  have B4 := Lib.hid (B3.out.below n34)
  have E4 := Lib.hid hw4
  have hcut := run_cutH a3 L.length c3 C (by have := B3.out.hcap; omega)
  have hb4 : C ≤ c3 := by have := B3.out.hcap; omega
  have hm4 : c3 ≤ 9223372036854775807 := by have := B3.out.hmax; unfold maxLen at this; omega
  clear hw4 n34
  go_wp2_with fail
  rw [← E4.out]
  refine (H3.out _ M4.out a3 c3 B4.out).mono ?_
  rintro e w5 ⟨⟨a5, c5, rfl, b5⟩, n5⟩
  have Y5 := Lib.hid (Y4.out.nb n5)
  have X5 := Lib.hid (X4.out.nb n5)
  have M5 := Lib.hid (M4.out.tr n5)
  have B5 := Lib.hid (B4.out.below n5)
  have lt5 : w1.heap.size < w5.heap.size := X5.out.lt
  have lt5' : w3.heap.size < w5.heap.size := Y5.out.lt
  clear n5 b5 E4
  obtain ⟨w6, hw6⟩ : ∃ w6, w6 = w5.alloc (.cells #[.int .i64 1, .int .i64 0, .int .i64 0, .int .u32 0, .bool false, .bool false, .bool false, .bool false, .bool false, .int .u8 0, .int .u8 0, .int .u32 0, .slice a5 0 c5] 31) := ⟨_, rfl⟩
  have n56 : Nb w5 w6 := by rw [hw6]; exact Nb.rfl.al _
  have Z6 := Lib.hid (show Blk w6 w5.heap.size #[.int .i64 1, .int .i64 0, .int .i64 0, .int .u32 0, .bool false, .bool false, .bool false, .bool false, .bool false, .int .u8 0, .int .u8 0, .int .u32 0, .slice a5 0 c5] 31 by rw [hw6]; exact Blk.new _ _ _)
  have Y6 := Lib.hid (Y5.out.nb n56)
  have X6 := Lib.hid (X5.out.nb n56)
  have M6 := Lib.hid (M5.out.tr n56)
  have B6 := Lib.hid (B5.out.below n56)
  have E6 := Lib.hid hw6
  obtain ⟨y0, y1, y2⟩ := Y5.out.c3
  clear hw6 n56
  go_wp2_with fail
  rw [← E6.out]
  refine (H4.out _ M6.out a3 c3 B6.out).mono ?_
  rintro e w7 ⟨⟨a7, c7, rfl, b7⟩, n7⟩
  have M7 := Lib.hid (M6.out.tr n7)
  have lt7 : w1.heap.size < w7.heap.size := (X6.out.nb n7).lt
  have lt7' : w5.heap.size < w7.heap.size := (Z6.out.nb n7).lt
  obtain ⟨x0, x1, _⟩ := (X6.out.nb n7).c13
  obtain ⟨z0, _⟩ := (Z6.out.nb n7).c13
  clear n7 b7 E6 y0 y1 y2
  go_wp2
  go_ret
  exact ⟨rfl, M7.out.al _⟩
end Go.Proofs.YtkboncpfddnoaaaGreatDoor
