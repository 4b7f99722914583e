
/- Contracts of package frame's fit, sizesOf, Code, Size and Fit. Condition: the table of longer sizes holds what the program's text lays there. -/
import Derived.Test.YtaiplhlcldbnkaaDoorFrmS
import Derived.Laws.EntriesVeiled
namespace Go.Proofs.YtaiplhlcldbnkaaDoor
set_option linter.unusedVariables false
set_option linter.unusedSimpArgs false
open Go.RowKit

theorem Blk.one {w : World} {R : Nat} {u0 : Value} {t : TypeId} (h : Blk w R #[u0] t) : w.cell? ⟨R, 0, none⟩ = some u0 := h.cell 0
theorem Blk.two {w : World} {R : Nat} {u0 u1 : Value} {t : TypeId} (h : Blk w R #[u0, u1] t) : w.cell? ⟨R, 0, none⟩ = some u0 ∧ w.cell? ⟨R, 1, none⟩ = some u1 := ⟨h.cell 0, h.cell 1⟩

set_option maxHeartbeats 1600000 in
set_option maxRecDepth 100000 in
theorem fitlit_any (k s : Int) (c b2 b3 : Nat) (w : World) (hc : c < cntF k) (hl : Longer w)
    (h2 : Blk w b2 #[.int .i64 (cntF k : Nat), ofV k] 83) (h3 : Blk w b3 #[.int .i64 s] 3) :
    Calls Tryd.prog 69 #[.int .i64 c, .pointer (some ⟨b2, 0, none⟩), .pointer (some ⟨b3, 0, none⟩)] w fun e w' => e = .returned (.bool (decide (fitF k s ≤ c))) ∧ Nb w w' := by
  have hd := fit_dec k s c hc
  have hat : ∀ w', Nb w w' → Calls Tryd.prog 51 #[.agg #[.int .i64 (cntF k : Nat), ofV k], .int .i64 c] w' fun e w'' => e = .returned (.int .i64 (atF k c : Nat)) ∧ Nb w' w'' := fun w' hn => at_any k c w' hc (hl.below hn)
  have HD := Lib.hid hd
  have HA := Lib.hid hat
  obtain ⟨c0, c1⟩ := h2.two
  have c2 := h3.one
  have H2 := Lib.hid h2
  have H3 := Lib.hid h3
  generalize ofV k = o at *
  generalize cntF k = n at *
  generalize fitF k s = T at *
  generalize atF k c = y at *
  clear hd hat hl h2 h3
  go_enter Tryd.func69, Tryd.ntmps69
  go_wp2_with fail
  go_region_held3 (fun w' => w'.cell? ⟨b2, 0, none⟩ = some (.int .i64 (n : Nat)) ∧ w'.cell? ⟨b2, 1, none⟩ = some o ∧ w'.cell? ⟨b3, 0, none⟩ = some (.int .i64 s)) (first | go_keep | exact ⟨(H2.out.nb (Nb.tr (Below.drew (Below.refl _ _) : Nb w w.drew) n6)).cell 0, (H2.out.nb (Nb.tr (Below.drew (Below.refl _ _) : Nb w w.drew) n6)).cell 1, (H3.out.nb (Nb.tr (Below.drew (Below.refl _ _) : Nb w w.drew) n6)).cell 0⟩) ((go_at_call 51; refine (HA.out _ (Below.drew (Below.refl _ _) : Nb w w.drew)).mono ?_; rintro e w6 ⟨rfl, n6⟩))
  all_goals go_wp2
  all_goals go_ret
  all_goals exact ⟨by rw [← HD.out]; rfl, Nb.tr (Below.drew (Below.refl _ _) : Nb w w.drew) n6⟩

set_option maxHeartbeats 1600000 in
set_option maxRecDepth 100000 in
theorem fitM_any (k s : Int) (w : World) (hl : Longer w) :
    Calls Tryd.prog 50 #[.agg #[.int .i64 (cntF k : Nat), ofV k], .int .i64 s] w fun e w' => e = .returned (.int .i64 (fitF k s : Nat)) ∧ Nb w w' := by
  obtain ⟨w1, hw1⟩ : ∃ w1, w1 = (w.alloc (.cells #[.int .i64 (cntF k : Nat), ofV k] 83)).alloc (.cells #[.int .i64 s] 3) := ⟨_, rfl⟩
  have nb1 : Nb w w1 := by rw [hw1]; exact (Nb.rfl.al _).al _
  have hb2 : Blk w1 w.heap.size #[.int .i64 (cntF k : Nat), ofV k] 83 := by
    rw [hw1]
    exact (Blk.new w _ _).nb (Nb.rfl.al _)
  have hb3 : Blk w1 (w.heap.size + 1) #[.int .i64 s] 3 := by
    rw [hw1]
    have := Blk.new (w.alloc (.cells #[.int .i64 (cntF k : Nat), ofV k] 83)) #[.int .i64 s] 3
    rwa [World.size_alloc] at this
  have hcf := hcf 69 _ Tryd.func69 (by kernel_rfl) (by kernel_rfl)
  have hS := search_any 69 (.pointer (some ⟨w.heap.size, 0, none⟩)) (.pointer (some ⟨w.heap.size + 1, 0, none⟩)) (cntF k) (fitF k s) w1 (by have := cntF_le k; omega) (fitF_le k s) hcf
    (fun c w' hc hn => fitlit_any k s c _ _ w' hc ((hl.below nb1).below hn) (hb2.nb hn) (hb3.nb hn))
  have HS := Lib.hid hS
  have hmf : ∀ (fn : Fn) (first cap : Array Value) (w : World), (Instr.makeFunc fn first cap).run Tryd.prog w = .ok (.func fn first cap) w := fun _ _ _ _ => rfl
  clear hS hcf hb2 hb3 hl
  generalize ofV k = o at *
  generalize cntF k = n at *
  generalize fitF k s = T at *
  go_enter Tryd.func50, Tryd.ntmps50
  go_wp2_with fail
  rw [← hw1]
  refine HS.out.mono ?_
  rintro e w2 ⟨rfl, n2⟩
  clear hw1
  go_wp2
  go_ret
  exact ⟨rfl, nb1.tr n2⟩

set_option maxHeartbeats 1600000 in
set_option maxRecDepth 100000 in
theorem sizesOf_any (k : Int) (w : World) :
    Calls Tryd.prog 49 #[.int .i64 k] w fun e w' => e = .returned (.agg #[.int .i64 (cntF k : Nat), ofV k]) ∧ Nb w w' := by
  rcases kind_cases k with (rfl | rfl | rfl) | ⟨h1, h2, h3⟩
  · go_enter Tryd.func49, Tryd.ntmps49
    go_wp2
    exact bodyPost_ret (v := .agg #[.int .i64 (cntF 1 : Nat), ofV 1]) (by simp [results, Tryd.results49, go_sem, cntF, ofV]) rfl ⟨rfl, Nb.rfl.al _⟩
  · go_enter Tryd.func49, Tryd.ntmps49
    go_wp2
    exact bodyPost_ret (v := .agg #[.int .i64 (cntF 2 : Nat), ofV 2]) (by simp [results, Tryd.results49, go_sem, cntF, ofV]) rfl ⟨rfl, Nb.rfl.al _⟩
  · go_enter Tryd.func49, Tryd.ntmps49
    go_wp2
    exact bodyPost_ret (v := .agg #[.int .i64 (cntF 3 : Nat), ofV 3]) (by simp [results, Tryd.results49, go_sem, cntF, ofV]) rfl ⟨rfl, Nb.rfl.al _⟩
  · have e1 : cntF k = 0 := by simp [cntF, h1, h2, h3]
    have e2 : ofV k = .nilFunc := by simp [ofV, h1, h2, h3]
    have d1 : (k == 1) = false := by simpa using h1
    have d2 : (k == 2) = false := by simpa using h2
    have d3 : (k == 3) = false := by simpa using h3
    rw [e1, e2]
    clear e1 e2 h1 h2 h3
    go_enter Tryd.func49, Tryd.ntmps49
    go_wp2
    exact bodyPost_ret (v := .agg #[.int .i64 ((0 : Nat) : Int), .nilFunc]) (by simp [results, Tryd.results49, go_sem]) rfl ⟨rfl, Nb.rfl.al _⟩
theorem ofV_one (k : Int) : (ofV k).oneCell' = true := by
  unfold ofV
  (repeat' split) <;> rfl

set_option maxHeartbeats 1600000 in
set_option maxRecDepth 100000 in
theorem code_any (k s : Int) (w : World) (hl : Longer w) :
    Calls Tryd.prog 33 #[.int .i64 k, .int .i64 s] w fun e w' => e = .returned (.tuple #[.int .i64 (codeV k s : Nat), .int .i64 (codeE k s : Nat)]) ∧ Nb w w' := by
  have ho : ∀ a m w, (store a (ofV k) m).run Tryd.prog w = stored Tryd.prog w a (ofV k) m := fun a m w => run_store _ _ _ _ _ (ofV_one k)
  have HL := Lib.hid hl
  have hle := fitF_le k s
  have hSz := Lib.hid (sizesOf_any k)
  have hFit := Lib.hid (fun w' (h : Nb w w') => fitM_any k s w' (hl.below h))
  clear hl
  by_cases hc : fitF k s < cntF k
  · have d1 : (((fitF k s : Nat) : Int) == ((cntF k : Nat) : Int)) = false := by rw [beq_eq_false_iff_ne]; omega
    have hAt := Lib.hid (fun w' (h : Nb w w') => at_any k (fitF k s) w' hc (HL.out.below h))
    by_cases hs : ((atF k (fitF k s) : Nat) : Int) = s
    · have hh : hasF k s = true := (hasF_iff k s).2 ⟨hc, hs⟩
      have d2 : (((atF k (fitF k s) : Nat) : Int) != s) = false := by simpa using hs
      rw [show codeV k s = fitF k s by simp [codeV, hh], show codeE k s = 0 by simp [codeE, hh]]
      clear hc hh hs
      generalize ofV k = o at *
      generalize cntF k = n at *
      generalize fitF k s = T at *
      generalize atF k T = y at *
      go_enter Tryd.func33, Tryd.ntmps33
      go_wp2_with fail
      refine (hSz.out _).mono ?_
      rintro e w1 ⟨rfl, n1⟩
      go_wp2_with fail
      refine (hFit.out _ (n1.al _)).mono ?_
      rintro e w2 ⟨rfl, n2⟩
      have hq := (Blk.new w1 #[.int .i64 n, o] 83).nb n2
      obtain ⟨c0, c1⟩ := hq.two
      have m2 : Nb w w2 := (n1.al _).tr n2
      clear hq
      go_wp2_with fail
      refine (hAt.out _ m2).mono ?_
      rintro e w3 ⟨rfl, n3⟩
      go_wp2
      go_ret2
      exact ⟨rfl, m2.tr n3⟩
    · have hh : hasF k s = false := by
        cases h : hasF k s with
        | false => rfl
        | true => exact absurd ((hasF_iff k s).1 h).2 hs
      have d2 : (((atF k (fitF k s) : Nat) : Int) != s) = true := by simpa using hs
      rw [show codeV k s = 0 by simp [codeV, hh], show codeE k s = 2 by simp [codeE, hh]]
      clear hc hh hs
      generalize ofV k = o at *
      generalize cntF k = n at *
      generalize fitF k s = T at *
      generalize atF k T = y at *
      go_enter Tryd.func33, Tryd.ntmps33
      go_wp2_with fail
      refine (hSz.out _).mono ?_
      rintro e w1 ⟨rfl, n1⟩
      go_wp2_with fail
      refine (hFit.out _ (n1.al _)).mono ?_
      rintro e w2 ⟨rfl, n2⟩
      have hq := (Blk.new w1 #[.int .i64 n, o] 83).nb n2
      obtain ⟨c0, c1⟩ := hq.two
      have m2 : Nb w w2 := (n1.al _).tr n2
      clear hq
      go_wp2_with fail
      refine (hAt.out _ m2).mono ?_
      rintro e w3 ⟨rfl, n3⟩
      go_wp2
      go_ret2
      exact ⟨rfl, m2.tr n3⟩
  · have hT : fitF k s = cntF k := by omega
    have hh : hasF k s = false := by
      cases h : hasF k s with
      | false => rfl
      | true => exact absurd ((hasF_iff k s).1 h).1 hc
    rw [show codeV k s = 0 by simp [codeV, hh], show codeE k s = 2 by simp [codeE, hh]]
    rw [hT] at hFit
    clear hc hh hT hle
    generalize ofV k = o at *
    generalize cntF k = n at *
    go_enter Tryd.func33, Tryd.ntmps33
    go_wp2_with fail
    refine (hSz.out _).mono ?_
    rintro e w1 ⟨rfl, n1⟩
    go_wp2_with fail
    refine (hFit.out _ (n1.al _)).mono ?_
    rintro e w2 ⟨rfl, n2⟩
    have hq := (Blk.new w1 #[.int .i64 n, o] 83).nb n2
    obtain ⟨c0, c1⟩ := hq.two
    have m2 : Nb w w2 := (n1.al _).tr n2
    clear hq
    go_wp2
    go_ret2
    exact ⟨rfl, m2⟩

end Go.Proofs.YtaiplhlcldbnkaaDoor
