
/- The document's Same of banks that are one; the document's examples of layer 15. Condition: the table of longer sizes holds what the program's text lays there. -/
import Derived.Test.YtaohmgklhecjbaaDoorFlG
namespace Go.Proofs.YtaohmgklhecjbaaDoor
set_option linter.unusedVariables false
set_option linter.unusedSimpArgs false
open Go.RowKit Go.Sort

set_option maxHeartbeats 1600000 in
set_option maxRecDepth 100000 in
theorem refsame15_any (L : List Rl) (a a' : Option Addr) (c c' : Nat) (el : Bool) (w : World) (h : Rls w a c L) (h' : Rls w a' c' L) :
    Calls Tryd.prog 21 #[.agg #[.slice a L.length c, .bool el], .agg #[.slice a' L.length c', .bool el]] w fun e w' => e = .returned (.bool true) ∧ Nb w w' := by
  have hL := h.len
  have HR := Lib.hid h
  have HS := Lib.hid h'
  obtain ⟨z1, hz1⟩ : ∃ z1, z1 = (w.alloc (.cells #[.slice a L.length c, .bool el] 24)).alloc (.cells #[.slice a' L.length c', .bool el] 24) := ⟨_, rfl⟩
  obtain ⟨B, hB⟩ : ∃ B, B = w.heap.size := ⟨_, rfl⟩
  have NZ := Lib.hid (show Nb w z1 by rw [hz1]; exact (Nb.rfl.al _).al _)
  have BB := Lib.hid (show Blk z1 B #[.slice a L.length c, .bool el] 24 by rw [hz1, hB]; exact (Blk.new w _ _).nb (Nb.rfl.al _))
  have BX := Lib.hid (show Blk z1 (B + 1) #[.slice a' L.length c', .bool el] 24 by
    rw [hz1, hB]
    have := Blk.new (w.alloc (.cells #[.slice a L.length c, .bool el] 24)) #[.slice a' L.length c', .bool el] 24
    rwa [World.size_alloc] at this)
  have q0 : ((L.length : Int) != (L.length : Int)) = false := by simp
  have q1 : (el != el) = false := by simp
  clear h h'
  go_enter Tryd.func21, Tryd.ntmps21
  go_wp2
  rw [← hz1, ← hB]
  clear hz1 hB
  go_loopw [23] (fun ix wr => ∃ k : Nat, k ≤ L.length ∧ ix = .int .i64 k ∧ Nb z1 wr) (fun ix _ => L.length - (intOf ix).toNat)
  case atStart => exact ⟨0, Nat.zero_le _, rfl, Nb.rfl⟩
  case round =>
    obtain ⟨k, hk, rfl, hn⟩ := hrel
    have NI := Lib.hid hn
    have NB := Lib.hid (NZ.out.tr hn)
    obtain ⟨e0, e1⟩ := (BB.out.nb hn).r2
    obtain ⟨f0, f1⟩ := (BX.out.nb hn).r2
    clear hn
    by_cases hlt : k < L.length
    · have hR := HR.out.below NB.out
      have hS := HS.out.below NB.out
      obtain ⟨b, o, rfl⟩ := hR.addr (by omega)
      obtain ⟨b', o', rfl⟩ := hS.addr (by omega)
      obtain ⟨r, hr⟩ : ∃ r, L.getD k dRl = r := ⟨_, rfl⟩
      obtain ⟨c0, c1, c2, c3, c4, c5, c6, c7, c8, c9⟩ := hR.at hlt hr
      obtain ⟨d0, d1, d2, d3, d4, d5, d6, d7, d8, d9⟩ := hS.at hlt hr
      have hq := fun w => equalG r r w
      rw [(eqR_iff r r).2 rfl] at hq
      have hi : (k : Int) < (L.length : Int) := by omega
      clear hR hS hr
      obtain ⟨rK, rI, rIM, rS, rSM, rV, rVM, rA, rAM, rN⟩ := r
      simp only [Rl.ca] at hq c0 c1 c2 c3 c4 c5 c6 c7 c8 c9 d0 d1 d2 d3 d4 d5 d6 d7 d8 d9
      go_wp2_with fail
      go_quiet (fail)
      have NQ := Lib.hid (NI.out.tr (Nb.drewN wr nq))
      go_wp2
      go_roundw
      case rel => exact ⟨k + 1, by omega, by go_num, NQ.out⟩
      case measure => simp [intOf]; omega
    · obtain rfl : k = L.length := by omega
      go_wp2
      go_ret
      exact ⟨rfl, NB.out⟩

abbrev exR : Rl := ⟨1, 16, 2032, 0, 0, 0, 0, 0, 0, true⟩
theorem ex_wd : WdR exR := ⟨by decide +kernel, by decide, by decide, by decide, by decide, by decide, by decide, by decide, by decide⟩
set_option maxHeartbeats 1600000 in
set_option maxRecDepth 100000 in
theorem alive15_any (w : World) (hl : Longer w) : Calls Tryd.prog 9 #[] w fun e w' => e = .returned (.bool true) ∧ Nb w w' := by
  obtain ⟨y, hy⟩ : ∃ y, y = ((w.alloc (.cells #[.int .i64 1, .int .u32 16, .int .u32 2032, .int .u8 0, .int .u8 0, .int .u8 0, .int .u8 0, .int .u32 0, .int .u32 0, .bool true] 44)).alloc (.cells #[.int .i64 1, .int .u32 16, .int .u32 2032, .int .u8 0, .int .u8 0, .int .u8 0, .int .u8 0, .int .u32 0, .int .u32 0, .bool true] 44)).alloc (.cells #[.slice (some ⟨w.heap.size + 1, 0, none⟩) 1 1, .bool false] 32) := ⟨_, rfl⟩
  have NY := Lib.hid (show Nb w y by rw [hy]; exact ((Nb.rfl.al _).al _).al _)
  have hrow : Rls y (some ⟨w.heap.size + 1, 0, none⟩) 1 [exR] := by
    rw [hy]
    have := (Blk.new (w.alloc (.cells exR.ca 44)) exR.ca 44).nb (Nb.rfl.al (.cells #[.slice (some ⟨w.heap.size + 1, 0, none⟩) 1 1, .bool false] 32))
    rw [World.size_alloc] at this
    exact Rls.lit ex_wd this
  have BB := Lib.hid (show Blk y (w.heap.size + 1 + 1) #[.slice (some ⟨w.heap.size + 1, 0, none⟩) 1 1, .bool false] 32 by
    rw [hy]
    have := Blk.new ((w.alloc (.cells exR.ca 44)).alloc (.cells exR.ca 44)) #[.slice (some ⟨w.heap.size + 1, 0, none⟩) 1 1, .bool false] 32
    rwa [World.size_alloc, World.size_alloc] at this)
  have H1 := Lib.hid (fun w' (n : Nb y w') => in15_any ⟨1, 31, false, false, false, false, false, 0, 0, 0⟩ none 0 [] _ 1 [exR] false w' (Bs.nil w') (hrow.below n) (hl.below (NY.out.tr n)))
  have H2 := Lib.hid (fun w' (n : Nb y w') => in15_any ⟨1, 32, false, false, false, false, false, 0, 0, 0⟩ none 0 [] _ 1 [exR] false w' (Bs.nil w') (hrow.below n) (hl.below (NY.out.tr n)))
  have H3 := Lib.hid (fun w' (n : Nb y w') => find15_any ⟨2, 16, false, false, false, false, false, 0, 0, 0⟩ none 0 [] _ 1 [exR] false w' (Bs.nil w') (hrow.below n) (hl.below (NY.out.tr n)))
  rw [show inV ⟨1, 31, false, false, false, false, false, 0, 0, 0⟩ [] [exR] false = true by decide +kernel, show inE ⟨1, 31, false, false, false, false, false, 0, 0, 0⟩ [] [exR] = 0 by decide +kernel] at H1
  rw [show inV ⟨1, 32, false, false, false, false, false, 0, 0, 0⟩ [] [exR] false = false by decide +kernel, show inE ⟨1, 32, false, false, false, false, false, 0, 0, 0⟩ [] [exR] = 0 by decide +kernel] at H2
  rw [show findN ⟨2, 16, false, false, false, false, false, 0, 0, 0⟩ [] [exR] = 0 by decide +kernel, show findE ⟨2, 16, false, false, false, false, false, 0, 0, 0⟩ [] [exR] = 9 by decide +kernel] at H3
  simp only [Hd.cs, List.length_nil, List.length_singleton] at H1 H2 H3
  have HY := Lib.hid hy
  clear hy hrow hl
  go_enter Tryd.func9, Tryd.ntmps9
  go_wp2_with fail
  rw [← HY.out]
  refine (H1.out _ Nb.rfl).mono ?_
  rintro e w1 ⟨rfl, n1⟩
  have N1 := Lib.hid n1
  obtain ⟨c0, c1⟩ := (BB.out.nb n1).r2
  clear n1
  go_wp2_with fail
  refine (H2.out _ N1.out).mono ?_
  rintro e w2 ⟨rfl, n2⟩
  have N2 := Lib.hid (N1.out.tr n2)
  clear c0 c1 n2
  obtain ⟨c0, c1⟩ := (BB.out.nb N2.out).r2
  go_wp2_with fail
  refine (H3.out _ N2.out).mono ?_
  rintro e w3 ⟨rfl, n3⟩
  have N3 := Lib.hid (N2.out.tr n3)
  clear c0 c1 n3
  go_wp2
  go_ret
  exact ⟨rfl, NY.out.tr N3.out⟩
end Go.Proofs.YtaohmgklhecjbaaDoor
