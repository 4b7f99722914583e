
/- The landed package fault: Mode, Next. No conditions. -/
import Derived.Test.YtahemoakehbchaaFaD
namespace Go.Proofs.Ytahemoakehbchaa
set_option linter.unusedVariables false
set_option linter.unusedSimpArgs false
open Go.RowKit

set_option maxHeartbeats 800000 in
set_option maxRecDepth 100000 in
theorem fmode11_any (s : Fa) (w : World) : Calls Try.prog 9 #[.agg s.cs] w fun e w' => e = .returned (.tuple #[.int .i64 (if okFa s then isFa s else 0 : Nat), .int .i64 (errFa s : Nat)]) ∧ Nb w w' := by
  have HC := Lib.hid (fun w' => fchk11_any s w')
  have HI := Lib.hid (fun w' => fis11_any s w')
  unfold errFa at HC ⊢
  have Q := Lib.hid (Blk.new w s.cs 25)
  generalize isFa s = m at *
  generalize okFa s = ok at *
  obtain ⟨T, R, O⟩ := s
  simp only [Fa.cs] at HC HI Q ⊢
  cases ok
  all_goals simp only [Bool.false_eq_true, if_false, if_true] at HC ⊢
  · go_enter Try.func9, Try.ntmps9
    go_wp2_with fail
    refine (HC.out _).mono ?_
    rintro e w1 ⟨rfl, n1⟩
    go_wp2
    go_ret2
    exact ⟨rfl, (Nb.rfl.al _).tr n1⟩
  · go_enter Try.func9, Try.ntmps9
    go_wp2_with fail
    refine (HC.out _).mono ?_
    rintro e w1 ⟨rfl, n1⟩
    have q := Q.out.nb n1
    have c0 : w1.cell? ⟨w.heap.size, 0, none⟩ = some (.int .i64 T) := q.cell 0
    have c1 : w1.cell? ⟨w.heap.size, 1, none⟩ = some (.int .i64 R) := q.cell 1
    have c2 : w1.cell? ⟨w.heap.size, 2, none⟩ = some (.bool O) := q.cell 2
    have M1 := Lib.hid ((Nb.rfl.al _).tr n1 : Nb w w1)
    clear q n1
    go_wp2_with fail
    refine (HI.out _).mono ?_
    rintro e w2 ⟨rfl, n2⟩
    go_wp2
    go_ret2
    exact ⟨rfl, M1.out.tr n2⟩

set_option maxHeartbeats 1600000 in
set_option maxRecDepth 100000 in
theorem fnext11_any (s : Fa) (e : Int) (w : World) : Calls Try.prog 11 #[.agg s.cs, .int .i64 e] w fun en w' => en = .returned (.tuple #[.agg (nxFa s e).cs, .int .i64 (nxE s e : Nat)]) ∧ Nb w w' := by
  have HC := Lib.hid (fun w' => fchk11_any s w')
  have HZ0 := Lib.hid (Blk.new (w.alloc (.cells s.cs 25)) #[.int .i64 0, .int .i64 0, .bool false] 25)
  have HQ0 := Lib.hid (Blk.new w s.cs 25)
  cases hok : okFa s with
  | false =>
    rw [show errFa s = 2 by simp [errFa, hok]] at HC
    rw [show nxFa s e = Fa.zero by simp [nxFa, hok], show nxE s e = 2 by simp [nxE, hok]]
    clear hok
    obtain ⟨T, R, O⟩ := s
    simp only [Fa.cs, Fa.zero] at HC HZ0 HQ0 ⊢
    go_enter Try.func11, Try.ntmps11
    go_wp2_with fail
    refine (HC.out _).mono ?_
    rintro en w1 ⟨rfl, n1⟩
    have hz := HZ0.out.nb n1
    rw [World.size_alloc] at hz
    have hq := (HQ0.out.nb (Nb.rfl.al _)).nb n1
    have y0 := hz.frozen 0
    have y1 := hz.frozen 1
    have y2 := hz.frozen 2
    have x0 : w1.cell? ⟨w.heap.size + 1, 0, none⟩ = some (.int .i64 0) := hz.cell 0
    have x1 : w1.cell? ⟨w.heap.size + 1, 1, none⟩ = some (.int .i64 0) := hz.cell 1
    have x2 : w1.cell? ⟨w.heap.size + 1, 2, none⟩ = some (.bool false) := hz.cell 2
    have c0 : w1.cell? ⟨w.heap.size, 0, none⟩ = some (.int .i64 T) := hq.cell 0
    have c1 : w1.cell? ⟨w.heap.size, 1, none⟩ = some (.int .i64 R) := hq.cell 1
    have c2 : w1.cell? ⟨w.heap.size, 2, none⟩ = some (.bool O) := hq.cell 2
    have M1 := Lib.hid (((Nb.rfl.al _).al _).tr n1 : Nb w w1)
    have HZ1 := Lib.hid hz
    clear hz hq n1 HZ0 HQ0
    have hb3 := HZ1.out
    have nb3 := M1.out
    obtain ⟨e0, e1, e2⟩ := p3_cells (.int .i64 0) (.int .i64 0) (.bool false) hb3
    have nf := p3_nb nb3 (b := w.heap.size + 1) (by omega) (.int .i64 0) (.int .i64 0) (.bool false)
    go_wp2
    change bodyPost _ _ _ _ _ (p3 w1 (w.heap.size + 1) (.int .i64 0) (.int .i64 0) (.bool false))
    generalize p3 w1 (w.heap.size + 1) (.int .i64 0) (.int .i64 0) (.bool false) = WW at e0 e1 e2 nf ⊢
    exact bodyPost_ret (v := .tuple #[.agg #[.int .i64 0, .int .i64 0, .bool false], .int .i64 2]) (by simp [results, Try.results11, go_sem, e0, e1, e2]) rfl ⟨rfl, nf⟩
  | true =>
    rw [show errFa s = 0 by simp [errFa, hok]] at HC
    cases hev : evOk e with
    | false =>
      rw [show nxFa s e = Fa.zero by simp [nxFa, hev], show nxE s e = 2 by simp [nxE, hev]]
      have hbad : e < 1 ∨ 6 < e := by
        have h0 : ¬ (1 ≤ e ∧ e ≤ 6) := fun h1 => by rw [(evOk_iff e).2 h1] at hev; cases hev
        omega
      clear hok hev
      obtain ⟨T, R, O⟩ := s
      simp only [Fa.cs, Fa.zero] at HC HZ0 HQ0 ⊢
      go_enter Try.func11, Try.ntmps11
      go_wp2_with fail
      refine (HC.out _).mono ?_
      rintro en w1 ⟨rfl, n1⟩
      have hz := HZ0.out.nb n1
      rw [World.size_alloc] at hz
      have hq := (HQ0.out.nb (Nb.rfl.al _)).nb n1
      have y0 := hz.frozen 0
      have y1 := hz.frozen 1
      have y2 := hz.frozen 2
      have x0 : w1.cell? ⟨w.heap.size + 1, 0, none⟩ = some (.int .i64 0) := hz.cell 0
      have x1 : w1.cell? ⟨w.heap.size + 1, 1, none⟩ = some (.int .i64 0) := hz.cell 1
      have x2 : w1.cell? ⟨w.heap.size + 1, 2, none⟩ = some (.bool false) := hz.cell 2
      have c0 : w1.cell? ⟨w.heap.size, 0, none⟩ = some (.int .i64 T) := hq.cell 0
      have c1 : w1.cell? ⟨w.heap.size, 1, none⟩ = some (.int .i64 R) := hq.cell 1
      have c2 : w1.cell? ⟨w.heap.size, 2, none⟩ = some (.bool O) := hq.cell 2
      have M1 := Lib.hid (((Nb.rfl.al _).al _).tr n1 : Nb w w1)
      have HZ1 := Lib.hid hz
      clear hz hq n1 HZ0 HQ0
      by_cases h1 : e < 1
      · have d1 : decide (e < 1) = true := decide_eq_true h1
        clear h1 hbad
        have hb3 := HZ1.out
        have nb3 := M1.out
        obtain ⟨e0, e1, e2⟩ := p3_cells (.int .i64 0) (.int .i64 0) (.bool false) hb3
        have nf := p3_nb nb3 (b := w.heap.size + 1) (by omega) (.int .i64 0) (.int .i64 0) (.bool false)
        go_wp2
        change bodyPost _ _ _ _ _ (p3 w1 (w.heap.size + 1) (.int .i64 0) (.int .i64 0) (.bool false))
        generalize p3 w1 (w.heap.size + 1) (.int .i64 0) (.int .i64 0) (.bool false) = WW at e0 e1 e2 nf ⊢
        exact bodyPost_ret (v := .tuple #[.agg #[.int .i64 0, .int .i64 0, .bool false], .int .i64 2]) (by simp [results, Try.results11, go_sem, e0, e1, e2]) rfl ⟨rfl, nf⟩
      · have d1 : decide (e < 1) = false := decide_eq_false h1
        have d2 : decide (6 < e) = true := decide_eq_true (by omega)
        clear h1 hbad
        have hb3 := HZ1.out
        have nb3 := M1.out
        obtain ⟨e0, e1, e2⟩ := p3_cells (.int .i64 0) (.int .i64 0) (.bool false) hb3
        have nf := p3_nb nb3 (b := w.heap.size + 1) (by omega) (.int .i64 0) (.int .i64 0) (.bool false)
        go_wp2
        change bodyPost _ _ _ _ _ (p3 w1 (w.heap.size + 1) (.int .i64 0) (.int .i64 0) (.bool false))
        generalize p3 w1 (w.heap.size + 1) (.int .i64 0) (.int .i64 0) (.bool false) = WW at e0 e1 e2 nf ⊢
        exact bodyPost_ret (v := .tuple #[.agg #[.int .i64 0, .int .i64 0, .bool false], .int .i64 2]) (by simp [results, Try.results11, go_sem, e0, e1, e2]) rfl ⟨rfl, nf⟩
    | true =>
      rw [show nxFa s e = doFa s e by simp [nxFa, hok, hev], show nxE s e = 0 by simp [nxE, hok, hev]]
      have HDo := Lib.hid (fun w' => fbehind_any s e w' hok hev)
      obtain ⟨v1, v2⟩ := (evOk_iff e).1 hev
      have d1 : decide (e < 1) = false := decide_eq_false (by omega)
      have d2 : decide (6 < e) = false := decide_eq_false (by omega)
      clear hok hev v1 v2
      generalize doFa s e = s' at *
      obtain ⟨T, R, O⟩ := s
      obtain ⟨T', R', O'⟩ := s'
      simp only [Fa.cs] at HC HZ0 HQ0 HDo ⊢
      go_enter Try.func11, Try.ntmps11
      go_wp2_with fail
      refine (HC.out _).mono ?_
      rintro en w1 ⟨rfl, n1⟩
      have hz := HZ0.out.nb n1
      rw [World.size_alloc] at hz
      have hq := (HQ0.out.nb (Nb.rfl.al _)).nb n1
      have y0 := hz.frozen 0
      have y1 := hz.frozen 1
      have y2 := hz.frozen 2
      have x0 : w1.cell? ⟨w.heap.size + 1, 0, none⟩ = some (.int .i64 0) := hz.cell 0
      have x1 : w1.cell? ⟨w.heap.size + 1, 1, none⟩ = some (.int .i64 0) := hz.cell 1
      have x2 : w1.cell? ⟨w.heap.size + 1, 2, none⟩ = some (.bool false) := hz.cell 2
      have c0 : w1.cell? ⟨w.heap.size, 0, none⟩ = some (.int .i64 T) := hq.cell 0
      have c1 : w1.cell? ⟨w.heap.size, 1, none⟩ = some (.int .i64 R) := hq.cell 1
      have c2 : w1.cell? ⟨w.heap.size, 2, none⟩ = some (.bool O) := hq.cell 2
      have M1 := Lib.hid (((Nb.rfl.al _).al _).tr n1 : Nb w w1)
      have HZ1 := Lib.hid hz
      clear hz hq n1 HZ0 HQ0
      go_wp2_with fail
      refine (HDo.out _).mono ?_
      rintro en w2 ⟨rfl, n2⟩
      have hz := HZ1.out.nb n2
      clear y0 y1 y2 x0 x1 x2 c0 c1 c2
      have y0 := hz.frozen 0
      have y1 := hz.frozen 1
      have y2 := hz.frozen 2
      have x0 : w2.cell? ⟨w.heap.size + 1, 0, none⟩ = some (.int .i64 0) := hz.cell 0
      have x1 : w2.cell? ⟨w.heap.size + 1, 1, none⟩ = some (.int .i64 0) := hz.cell 1
      have x2 : w2.cell? ⟨w.heap.size + 1, 2, none⟩ = some (.bool false) := hz.cell 2
      have M2 := Lib.hid (M1.out.tr n2)
      have HZ2 := Lib.hid hz
      clear hz n2
      have hb3 := HZ2.out
      have nb3 := M2.out
      obtain ⟨e0, e1, e2⟩ := p3_cells (.int .i64 T') (.int .i64 R') (.bool O') hb3
      have nf := p3_nb nb3 (b := w.heap.size + 1) (by omega) (.int .i64 T') (.int .i64 R') (.bool O')
      go_wp2
      change bodyPost _ _ _ _ _ (p3 w2 (w.heap.size + 1) (.int .i64 T') (.int .i64 R') (.bool O'))
      generalize p3 w2 (w.heap.size + 1) (.int .i64 T') (.int .i64 R') (.bool O') = WW at e0 e1 e2 nf ⊢
      exact bodyPost_ret (v := .tuple #[.agg #[.int .i64 T', .int .i64 R', .bool O'], .int .i64 0]) (by simp [results, Try.results11, go_sem, e0, e1, e2]) rfl ⟨rfl, nf⟩
end Go.Proofs.Ytahemoakehbchaa
