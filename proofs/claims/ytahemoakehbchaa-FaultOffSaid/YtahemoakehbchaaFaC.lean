
/- The landed package fault: what an event does. Conditions: a state that may be, an event that there is. -/
import Derived.Test.YtahemoakehbchaaFaR
import Derived.Deep.RegionWith
namespace Go.Proofs.Ytahemoakehbchaa
set_option linter.unusedVariables false
set_option linter.unusedSimpArgs false
open Go.RowKit

/-- A state's block: its cells, and that they can be written. -/
theorem blk3 {w : World} {R : Nat} {u0 u1 u2 : Value} {t : TypeId} (h : Blk w R #[u0, u1, u2] t) : R < w.heap.size ∧ w.cell? ⟨R, 0, none⟩ = some u0 ∧ w.cell? ⟨R, 1, none⟩ = some u1 ∧ w.cell? ⟨R, 2, none⟩ = some u2 ∧ w.frozen? ⟨R, 0, none⟩ = false ∧ w.frozen? ⟨R, 1, none⟩ = false ∧ w.frozen? ⟨R, 2, none⟩ = false :=
  ⟨h.lt, h.cell 0, h.cell 1, h.cell 2, h.frozen 0, h.frozen 1, h.frozen 2⟩

set_option maxHeartbeats 800000 in
theorem within11_any (n m : Int) (w : World) : Calls Try.prog 20 #[.int .i64 n, .int .i64 m] w fun e w' => e = .returned (.bool (decide (0 ≤ n) && decide (n ≤ m))) ∧ w' = w := by
  by_cases h : 0 ≤ n
  · have d : decide (0 ≤ n) = true := decide_eq_true h
    clear h
    go_enter Try.func20, Try.ntmps20
    go_wp2
    go_ret
    exact ⟨by simp [d], rfl⟩
  · have d : decide (0 ≤ n) = false := decide_eq_false h
    clear h
    go_enter Try.func20, Try.ntmps20
    go_wp2
    go_ret
    exact ⟨by simp [d], rfl⟩

set_option maxHeartbeats 1600000 in
set_option maxRecDepth 100000 in
theorem fchk11_any (s : Fa) (w : World) : Calls Try.prog 13 #[.agg s.cs] w fun e w' => e = .returned (.int .i64 (errFa s : Nat)) ∧ Nb w w' := by
  obtain ⟨T, R, O⟩ := s
  have HT := Lib.hid (fun w' => within11_any T 263 w')
  have HR := Lib.hid (fun w' => within11_any R 255 w')
  have he : errFa ⟨T, R, O⟩ = if (decide (0 ≤ T) && decide (T ≤ 263)) && ((decide (0 ≤ R) && decide (R ≤ 255)) && (O == decide (255 < T))) then 0 else 2 := by
    simp [errFa, okFa, Bool.and_assoc, and_assoc]
  rw [he]
  clear he
  generalize (decide (0 ≤ T) && decide (T ≤ 263)) = bT at *
  generalize (decide (0 ≤ R) && decide (R ≤ 255)) = bR at *
  obtain ⟨d, hd⟩ : ∃ d, decide (255 < T) = d := ⟨_, rfl⟩
  rw [hd]
  simp only [Fa.cs]
  cases bT
  · go_enter Try.func13, Try.ntmps13
    go_wp2_with fail
    refine (HT.out _).mono ?_
    rintro e w1 ⟨rfl, rfl⟩
    go_wp2
    go_ret
    exact ⟨rfl, Nb.rfl.al _⟩
  cases bR
  · go_enter Try.func13, Try.ntmps13
    go_wp2_with fail
    refine (HT.out _).mono ?_
    rintro e w1 ⟨rfl, rfl⟩
    go_wp2_with fail
    refine (HR.out _).mono ?_
    rintro e w1 ⟨rfl, rfl⟩
    go_wp2
    go_ret
    exact ⟨rfl, Nb.rfl.al _⟩
  cases O <;> cases d
  all_goals go_enter Try.func13, Try.ntmps13
  all_goals go_wp2_with fail
  all_goals refine (HT.out _).mono ?_
  all_goals rintro e w1 ⟨rfl, rfl⟩
  all_goals go_wp2_with fail
  all_goals refine (HR.out _).mono ?_
  all_goals rintro e w1 ⟨rfl, rfl⟩
  all_goals go_wp2
  all_goals go_ret
  all_goals exact ⟨rfl, Nb.rfl.al _⟩

set_option maxHeartbeats 800000 in
set_option maxRecDepth 100000 in
theorem fis11_any (s : Fa) (w : World) : Calls Try.prog 16 #[.agg s.cs] w fun e w' => e = .returned (.int .i64 (isFa s : Nat)) ∧ Nb w w' := by
  obtain ⟨T, R, O⟩ := s
  simp only [Fa.cs]
  cases O
  all_goals go_enter Try.func16, Try.ntmps16
  all_goals go_wp2
  all_goals go_ret
  all_goals refine ⟨?_, Nb.rfl.al _⟩
  all_goals first
    | rfl
    | (simp only [isFa, Bool.false_eq_true, if_false]; first | (rw [if_pos (by omega)]; rfl) | (rw [if_neg (by omega)]; rfl))

/-! What each event does. -/
set_option maxHeartbeats 800000 in
set_option maxRecDepth 100000 in
theorem fsent_any (T R : Int) (O : Bool) (w : World) (h1 : 0 ≤ T) (h2 : T ≤ 263) : Calls Try.prog 22 #[.agg #[.int .i64 T, .int .i64 R, .bool O]] w fun e w' => e = .returned (.agg #[.int .i64 (max (T - 1) 0), .int .i64 R, .bool O]) ∧ Nb w w' := by
  have hmax := run_max2'
  go_enter Try.func22, Try.ntmps22
  go_wp2
  exact bodyPost_ret (v := .agg #[.int .i64 (max (T - 1) 0), .int .i64 R, .bool O]) (by simp [results, Try.results22, go_sem]) rfl ⟨rfl, (Nb.rfl.al _).al _⟩

set_option maxHeartbeats 800000 in
set_option maxRecDepth 100000 in
theorem fgot_any (T R : Int) (O : Bool) (w : World) (h1 : 0 ≤ R) (h2 : R ≤ 255) : Calls Try.prog 23 #[.agg #[.int .i64 T, .int .i64 R, .bool O]] w fun e w' => e = .returned (.agg #[.int .i64 T, .int .i64 (if 127 < R then 120 else max (R - 1) 0), .bool O]) ∧ Nb w w' := by
  have hmax := run_max2'
  by_cases hr : 127 < R
  · have dr : decide (127 < R) = true := decide_eq_true hr
    rw [if_pos hr]
    clear hr
    go_enter Try.func23, Try.ntmps23
    go_wp2
    exact bodyPost_ret (v := .agg #[.int .i64 T, .int .i64 120, .bool O]) (by simp [results, Try.results23, go_sem]) rfl ⟨rfl, (Nb.rfl.al _).al _⟩
  · have dr : decide (127 < R) = false := decide_eq_false hr
    rw [if_neg hr]
    clear hr
    go_enter Try.func23, Try.ntmps23
    go_wp2
    exact bodyPost_ret (v := .agg #[.int .i64 T, .int .i64 (max (R - 1) 0), .bool O]) (by simp [results, Try.results23, go_sem]) rfl ⟨rfl, (Nb.rfl.al _).al _⟩

set_option maxHeartbeats 800000 in
set_option maxRecDepth 100000 in
theorem fsendError_any (T R : Int) (O : Bool) (w : World) (h1 : 0 ≤ T) (h2 : T ≤ 263) : Calls Try.prog 24 #[.agg #[.int .i64 T, .int .i64 R, .bool O]] w fun e w' => e = .returned (.agg #[.int .i64 (T + 8), .int .i64 R, .bool (decide (255 < T + 8))]) ∧ Nb w w' := by
  go_enter Try.func24, Try.ntmps24
  go_wp2
  exact bodyPost_ret (v := .agg #[.int .i64 (T + 8), .int .i64 R, .bool (decide (255 < T + 8))]) (by simp [results, Try.results24, go_sem]) rfl ⟨rfl, (Nb.rfl.al _).al _⟩

set_option maxHeartbeats 800000 in
set_option maxRecDepth 100000 in
theorem fgetError_any (T R : Int) (O : Bool) (w : World) (h1 : 0 ≤ R) (h2 : R ≤ 255) : Calls Try.prog 25 #[.agg #[.int .i64 T, .int .i64 R, .bool O]] w fun e w' => e = .returned (.agg #[.int .i64 T, .int .i64 (min (R + 1) 255), .bool O]) ∧ Nb w w' := by
  have hmin := run_min2
  go_enter Try.func25, Try.ntmps25
  go_wp2
  exact bodyPost_ret (v := .agg #[.int .i64 T, .int .i64 (min (R + 1) 255), .bool O]) (by simp [results, Try.results25, go_sem]) rfl ⟨rfl, (Nb.rfl.al _).al _⟩

set_option maxHeartbeats 800000 in
set_option maxRecDepth 100000 in
theorem frestart_any (T R : Int) (O : Bool) (w : World) : Calls Try.prog 27 #[.agg #[.int .i64 T, .int .i64 R, .bool O]] w fun e w' => e = .returned (.agg (if O then #[.int .i64 0, .int .i64 0, .bool false] else #[.int .i64 T, .int .i64 R, .bool O])) ∧ Nb w w' := by
  cases O
  · go_enter Try.func27, Try.ntmps27
    go_wp2
    exact bodyPost_ret (v := .agg #[.int .i64 T, .int .i64 R, .bool false]) (by simp [results, Try.results27, go_sem]) rfl ⟨rfl, (Nb.rfl.al _).al _⟩
  · go_enter Try.func27, Try.ntmps27
    go_wp2
    exact bodyPost_ret (v := .agg #[.int .i64 0, .int .i64 0, .bool false]) (by simp [results, Try.results27, go_sem]) rfl ⟨rfl, (Nb.rfl.al _).al _⟩

set_option maxHeartbeats 1600000 in
set_option maxRecDepth 100000 in
theorem funheard_any (T R : Int) (w : World) (h1 : 0 ≤ T) (h2 : T ≤ 255) : Calls Try.prog 26 #[.agg #[.int .i64 T, .int .i64 R, .bool false]] w fun e w' => e = .returned (.agg (doFa ⟨T, R, false⟩ 5).cs) ∧ Nb w w' := by
  have HI := Lib.hid (fun w' => fis11_any ⟨T, R, false⟩ w')
  simp only [Fa.cs] at HI
  have HS := Lib.hid (fun w' => fsendError_any T R false w' h1 (by omega))
  have HQ := Lib.hid (Blk.new w #[.int .i64 T, .int .i64 R, .bool false] 25)
  have HZ := Lib.hid (Blk.new (w.alloc (.cells #[.int .i64 T, .int .i64 R, .bool false] 25)) #[.int .i64 0, .int .i64 0, .bool false] 25)
  by_cases hp : 127 < T ∨ 127 < R
  · rw [show doFa ⟨T, R, false⟩ 5 = ⟨T, R, false⟩ by simp [doFa, isFa, hp]]
    rw [show isFa ⟨T, R, false⟩ = 1 by simp [isFa, hp]] at HI
    simp only [Fa.cs]
    clear hp HS
    go_enter Try.func26, Try.ntmps26
    go_wp2_with fail
    refine (HI.out _).mono ?_
    rintro e w1 ⟨rfl, n1⟩
    have hq := (HQ.out.nb (Nb.rfl.al _)).nb n1
    have hz := HZ.out.nb n1
    rw [World.size_alloc] at hz
    obtain ⟨l0, c0, c1, c2, _, _, _⟩ := blk3 hq
    obtain ⟨l1, x0, x1, x2, y0, y1, y2⟩ := blk3 hz
    have M1 := Lib.hid (((Nb.rfl.al _).al _).tr n1 : Nb w w1)
    have HZ1 := Lib.hid hz
    clear hq hz n1 HQ HZ
    go_wp2
    obtain ⟨e0, e1, e2⟩ := p3_cells (.int .i64 T) (.int .i64 R) (.bool false) HZ1.out
    have nf := p3_nb M1.out (b := w.heap.size + 1) (by omega) (.int .i64 T) (.int .i64 R) (.bool false)
    change bodyPost _ _ _ _ _ (p3 w1 (w.heap.size + 1) (.int .i64 T) (.int .i64 R) (.bool false))
    generalize p3 w1 (w.heap.size + 1) (.int .i64 T) (.int .i64 R) (.bool false) = WW at e0 e1 e2 nf ⊢
    exact bodyPost_ret (v := .agg #[.int .i64 T, .int .i64 R, .bool false]) (by simp [results, Try.results26, go_sem, e0, e1, e2]) rfl ⟨rfl, nf⟩
  · rw [show doFa ⟨T, R, false⟩ 5 = ⟨T + 8, R, decide (255 < T + 8)⟩ by simp [doFa, isFa, hp]]
    rw [show isFa ⟨T, R, false⟩ = 0 by simp [isFa, hp]] at HI
    simp only [Fa.cs]
    clear hp
    generalize decide (255 < T + 8) = d at *
    generalize T + 8 = T' at *
    go_enter Try.func26, Try.ntmps26
    go_wp2_with fail
    refine (HI.out _).mono ?_
    rintro e w1 ⟨rfl, n1⟩
    have hq := (HQ.out.nb (Nb.rfl.al _)).nb n1
    have hz := HZ.out.nb n1
    rw [World.size_alloc] at hz
    obtain ⟨l0, c0, c1, c2, _, _, _⟩ := blk3 hq
    have M1 := Lib.hid (((Nb.rfl.al _).al _).tr n1 : Nb w w1)
    have HZ1 := Lib.hid hz
    clear hq hz n1 HQ HZ
    go_wp2_with fail
    refine (HS.out _).mono ?_
    rintro e w2 ⟨rfl, n2⟩
    have hz := HZ1.out.nb n2
    obtain ⟨l1, x0, x1, x2, y0, y1, y2⟩ := blk3 hz
    have M2 := Lib.hid (M1.out.tr n2)
    have HZ2 := Lib.hid hz
    clear hz n2 c0 c1 c2
    go_wp2
    obtain ⟨e0, e1, e2⟩ := p3_cells (.int .i64 T') (.int .i64 R) (.bool d) HZ2.out
    have nf := p3_nb M2.out (b := w.heap.size + 1) (by omega) (.int .i64 T') (.int .i64 R) (.bool d)
    change bodyPost _ _ _ _ _ (p3 w2 (w.heap.size + 1) (.int .i64 T') (.int .i64 R) (.bool d))
    generalize p3 w2 (w.heap.size + 1) (.int .i64 T') (.int .i64 R) (.bool d) = WW at e0 e1 e2 nf ⊢
    exact bodyPost_ret (v := .agg #[.int .i64 T', .int .i64 R, .bool d]) (by simp [results, Try.results26, go_sem, e0, e1, e2]) rfl ⟨rfl, nf⟩
end Go.Proofs.Ytahemoakehbchaa
