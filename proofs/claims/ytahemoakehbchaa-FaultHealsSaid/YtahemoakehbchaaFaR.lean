
/- The document's own answers of layer 11: Check, Is, Does, Mode, Next. Conditions: a state that may be where it is counted. -/
import Derived.Test.YtahemoakehbchaaFaP
import Derived.Test.YtahemoakehbchaaFre
namespace Go.Proofs.Ytahemoakehbchaa
set_option linter.unusedVariables false
set_option linter.unusedSimpArgs false
open Go.RowKit

set_option maxHeartbeats 1600000 in
set_option maxRecDepth 100000 in
theorem refchk11_any (s : Fa) (w : World) : Calls Try.prog 14 #[.agg s.cs] w fun e w' => e = .returned (.int .i64 (errFa s : Nat)) ∧ Nb w w' := by
  obtain ⟨T, R, O⟩ := s
  simp only [Fa.cs]
  go_enter Try.func14, Try.ntmps14
  go_wp2
  all_goals go_ret
  all_goals refine ⟨?_, Nb.rfl.al _⟩
  all_goals first
    | (have h : okFa ⟨T, R, O⟩ = false := by (cases O <;> simp_all [okFa] <;> omega)
       simp [errFa, h])
    | (have h : okFa ⟨T, R, O⟩ = true := by (cases O <;> simp_all [okFa] <;> omega)
       simp [errFa, h])

set_option maxHeartbeats 800000 in
set_option maxRecDepth 100000 in
theorem refis11_any (s : Fa) (w : World) : Calls Try.prog 17 #[.agg s.cs] w fun e w' => e = .returned (.int .i64 (isFa s : Nat)) ∧ Nb w w' := by
  obtain ⟨T, R, O⟩ := s
  simp only [Fa.cs]
  cases O
  all_goals go_enter Try.func17, Try.ntmps17
  all_goals go_wp2
  all_goals go_ret
  all_goals refine ⟨?_, Nb.rfl.al _⟩
  all_goals first
    | rfl
    | (simp only [isFa, Bool.false_eq_true, if_false]; first | (rw [if_pos (by omega)]; rfl) | (rw [if_neg (by omega)]; rfl))
theorem run_max2' (w : World) (ts : Array TypeId) (t : TypeId) (k k' : IntKind) (x y : Int) :
    (Builtin.max_ ts t #[.int k x, .int k' y]).run Try.prog w = .ok (.int k (max x y)) w := by
  have e : (if x < y then y else x) = max x y := by
    rw [Int.max_def]
    split <;> split <;> omega
  simp [Builtin.max_, Builtin.max2, e]

/-- A state laid into a block, cell by cell. -/
def p3 (w : World) (b : Nat) (v0 v1 v2 : Value) : World := ((w.setCell ⟨b, 0, none⟩ v0).setCell ⟨b, 1, none⟩ v1).setCell ⟨b, 2, none⟩ v2
theorem p3_blk {w : World} {b : Nat} {u0 u1 u2 : Value} {t : TypeId} (v0 v1 v2 : Value) (h : Blk w b #[u0, u1, u2] t) : Blk (p3 w b v0 v1 v2) b #[v0, v1, v2] t := by
  have := ((h.set 0 v0).set 1 v1).set 2 v2
  simpa [p3] using this
theorem p3_nb {w w1 : World} {b : Nat} (h : Nb w w1) (hb : w.heap.size ≤ b) (v0 v1 v2 : Value) : Nb w (p3 w1 b v0 v1 v2) := Nb.st (Nb.st (Nb.st h hb _) hb _) hb _
theorem p3_cells {w : World} {b : Nat} {u0 u1 u2 : Value} {t : TypeId} (v0 v1 v2 : Value) (h : Blk w b #[u0, u1, u2] t) :
    (p3 w b v0 v1 v2).cell? ⟨b, 0, none⟩ = some v0 ∧ (p3 w b v0 v1 v2).cell? ⟨b, 1, none⟩ = some v1 ∧ (p3 w b v0 v1 v2).cell? ⟨b, 2, none⟩ = some v2 := by
  have h := p3_blk v0 v1 v2 h
  exact ⟨h.cell 0, h.cell 1, h.cell 2⟩

set_option maxHeartbeats 3200000 in
set_option maxRecDepth 100000 in
theorem refdo11_any (s : Fa) (e : Int) (w : World) (h : okFa s = true) (he : evOk e = true) : Calls Try.prog 19 #[.agg s.cs, .int .i64 e] w fun en w' => en = .returned (.agg (doFa s e).cs) ∧ Nb w w' := by
  obtain ⟨h1, h2, h3, h4, h5⟩ := (okFa_iff s).1 h
  obtain ⟨g1, g2⟩ := (evOk_iff e).1 he
  have HI := Lib.hid (fun w' => refis11_any s w')
  have hmax := run_max2'
  have hmin := run_min2
  obtain ⟨T, R, O⟩ := s
  simp only at h1 h2 h3 h4 h5
  cases O with
  | true =>
    clear h5 HI h he
    by_cases h6 : e = 6
    · subst h6
      rw [show doFa ⟨T, R, true⟩ 6 = ⟨0, 0, false⟩ by simp [doFa, Fa.zero]]
      simp only [Fa.cs]
      go_enter Try.func19, Try.ntmps19
      go_wp2
      exact bodyPost_ret (v := .agg #[.int .i64 0, .int .i64 0, .bool false]) (by simp [results, Try.results19, go_sem]) rfl ⟨rfl, (Nb.rfl.al _).al _⟩
    · rw [show doFa ⟨T, R, true⟩ e = ⟨T, R, true⟩ by simp [doFa, h6]]
      have d6 : (e == 6) = false := by rw [beq_eq_false_iff_ne]; exact h6
      simp only [Fa.cs]
      clear h6
      go_enter Try.func19, Try.ntmps19
      go_wp2
      exact bodyPost_ret (v := .agg #[.int .i64 T, .int .i64 R, .bool true]) (by simp [results, Try.results19, go_sem]) rfl ⟨rfl, (Nb.rfl.al _).al _⟩
  | false =>
    have hT : T ≤ 255 := by have : ¬ 255 < T := by simpa using h5.symm
                            omega
    clear h5 he h
    rcases (by omega : e = 1 ∨ e = 2 ∨ e = 3 ∨ e = 4 ∨ e = 5 ∨ e = 6) with rfl | rfl | rfl | rfl | rfl | rfl
    · rw [show doFa ⟨T, R, false⟩ 1 = ⟨max 0 (T - 1), R, false⟩ by simp [doFa]]
      have dd : decide (255 < max 0 (T - 1)) = false := decide_eq_false (by omega)
      simp only [Fa.cs]
      clear HI
      go_enter Try.func19, Try.ntmps19
      go_wp2
      exact bodyPost_ret (v := .agg #[.int .i64 (max 0 (T - 1)), .int .i64 R, .bool false]) (by simp [results, Try.results19, go_sem]) rfl ⟨rfl, (Nb.rfl.al _).al _⟩
    · by_cases hr : 127 < R
      · rw [show doFa ⟨T, R, false⟩ 2 = ⟨T, 120, false⟩ by simp [doFa, hr]]
        have dr : decide (127 < R) = true := decide_eq_true hr
        have dd : decide (255 < T) = false := decide_eq_false (by omega)
        simp only [Fa.cs]
        clear HI hr
        go_enter Try.func19, Try.ntmps19
        go_wp2
        exact bodyPost_ret (v := .agg #[.int .i64 T, .int .i64 120, .bool false]) (by simp [results, Try.results19, go_sem]) rfl ⟨rfl, (Nb.rfl.al _).al _⟩
      · rw [show doFa ⟨T, R, false⟩ 2 = ⟨T, max 0 (R - 1), false⟩ by simp [doFa, hr]]
        have dr : decide (127 < R) = false := decide_eq_false hr
        have dd : decide (255 < T) = false := decide_eq_false (by omega)
        simp only [Fa.cs]
        clear HI hr
        go_enter Try.func19, Try.ntmps19
        go_wp2
        exact bodyPost_ret (v := .agg #[.int .i64 T, .int .i64 (max 0 (R - 1)), .bool false]) (by simp [results, Try.results19, go_sem]) rfl ⟨rfl, (Nb.rfl.al _).al _⟩
    · rw [show doFa ⟨T, R, false⟩ 3 = ⟨T + 8, R, decide (255 < T + 8)⟩ by simp [doFa]]
      simp only [Fa.cs]
      clear HI
      go_enter Try.func19, Try.ntmps19
      go_wp2
      exact bodyPost_ret (v := .agg #[.int .i64 (T + 8), .int .i64 R, .bool (decide (255 < T + 8))]) (by simp [results, Try.results19, go_sem]) rfl ⟨rfl, (Nb.rfl.al _).al _⟩
    · rw [show doFa ⟨T, R, false⟩ 4 = ⟨T, min 255 (R + 1), false⟩ by simp [doFa]]
      have dd : decide (255 < T) = false := decide_eq_false (by omega)
      simp only [Fa.cs]
      clear HI
      go_enter Try.func19, Try.ntmps19
      go_wp2
      exact bodyPost_ret (v := .agg #[.int .i64 T, .int .i64 (min 255 (R + 1)), .bool false]) (by simp [results, Try.results19, go_sem]) rfl ⟨rfl, (Nb.rfl.al _).al _⟩
    · have HQ := Lib.hid (Blk.new w #[.int .i64 T, .int .i64 R, .bool false] 23)
      have HZ := Lib.hid (Blk.new (w.alloc (.cells #[.int .i64 T, .int .i64 R, .bool false] 23)) #[.int .i64 0, .int .i64 0, .bool false] 23)
      simp only [Fa.cs] at HI
      have dd : decide (255 < T) = false := decide_eq_false (by omega)
      by_cases hp : 127 < T ∨ 127 < R
      · rw [show doFa ⟨T, R, false⟩ 5 = ⟨T, R, false⟩ by simp [doFa, isFa, hp]]
        rw [show isFa ⟨T, R, false⟩ = 1 by simp [isFa, hp]] at HI
        simp only [Fa.cs]
        clear hp
        go_enter Try.func19, Try.ntmps19
        go_wp2_with fail
        refine (HI.out _).mono ?_
        rintro e w1 ⟨rfl, n1⟩
        have hq := (HQ.out.nb (Nb.rfl.al _)).nb n1
        have hz := HZ.out.nb n1
        rw [World.size_alloc] at hz
        have c0 : w1.cell? ⟨w.heap.size, 0, none⟩ = some (.int .i64 T) := hq.cell 0
        have c1 : w1.cell? ⟨w.heap.size, 1, none⟩ = some (.int .i64 R) := hq.cell 1
        have c2 : w1.cell? ⟨w.heap.size, 2, none⟩ = some (.bool false) := hq.cell 2
        have f0 := hq.frozen 0
        have f2 := hq.frozen 2
        have x0 : w1.cell? ⟨w.heap.size + 1, 0, none⟩ = some (.int .i64 0) := hz.cell 0
        have x1 : w1.cell? ⟨w.heap.size + 1, 1, none⟩ = some (.int .i64 0) := hz.cell 1
        have x2 : w1.cell? ⟨w.heap.size + 1, 2, none⟩ = some (.bool false) := hz.cell 2
        have y0 := hz.frozen 0
        have y1 := hz.frozen 1
        have y2 := hz.frozen 2
        have M1 := Lib.hid (((Nb.rfl.al _).al _).tr n1 : Nb w w1)
        have HQ1 := Lib.hid hq
        have HZ1 := Lib.hid hz
        clear hq hz n1 HQ HZ
        go_wp2
        have hb3 := HZ1.out.other (p := ⟨w.heap.size, 2, none⟩) (by simp) (.bool false)
        have nb3 := Nb.st M1.out (p := ⟨w.heap.size, 2, none⟩) (Nat.le_refl _) (.bool false)
        obtain ⟨e0, e1, e2⟩ := p3_cells (.int .i64 T) (.int .i64 R) (.bool false) hb3
        have nf := p3_nb nb3 (b := w.heap.size + 1) (by omega) (.int .i64 T) (.int .i64 R) (.bool false)
        change bodyPost _ _ _ _ _ (p3 (w1.setCell ⟨w.heap.size, 2, none⟩ (.bool false)) (w.heap.size + 1) (.int .i64 T) (.int .i64 R) (.bool false))
        generalize p3 (w1.setCell ⟨w.heap.size, 2, none⟩ (.bool false)) (w.heap.size + 1) (.int .i64 T) (.int .i64 R) (.bool false) = WW at e0 e1 e2 nf ⊢
        exact bodyPost_ret (v := .agg #[.int .i64 T, .int .i64 R, .bool false]) (by simp [results, Try.results19, go_sem, e0, e1, e2]) rfl ⟨rfl, nf⟩
      · rw [show doFa ⟨T, R, false⟩ 5 = ⟨T + 8, R, decide (255 < T + 8)⟩ by simp [doFa, isFa, hp]]
        rw [show isFa ⟨T, R, false⟩ = 0 by simp [isFa, hp]] at HI
        simp only [Fa.cs]
        clear hp
        go_enter Try.func19, Try.ntmps19
        go_wp2_with fail
        refine (HI.out _).mono ?_
        rintro e w1 ⟨rfl, n1⟩
        have hq := (HQ.out.nb (Nb.rfl.al _)).nb n1
        have hz := HZ.out.nb n1
        rw [World.size_alloc] at hz
        have c0 : w1.cell? ⟨w.heap.size, 0, none⟩ = some (.int .i64 T) := hq.cell 0
        have c1 : w1.cell? ⟨w.heap.size, 1, none⟩ = some (.int .i64 R) := hq.cell 1
        have c2 : w1.cell? ⟨w.heap.size, 2, none⟩ = some (.bool false) := hq.cell 2
        have f0 := hq.frozen 0
        have f2 := hq.frozen 2
        have x0 : w1.cell? ⟨w.heap.size + 1, 0, none⟩ = some (.int .i64 0) := hz.cell 0
        have x1 : w1.cell? ⟨w.heap.size + 1, 1, none⟩ = some (.int .i64 0) := hz.cell 1
        have x2 : w1.cell? ⟨w.heap.size + 1, 2, none⟩ = some (.bool false) := hz.cell 2
        have y0 := hz.frozen 0
        have y1 := hz.frozen 1
        have y2 := hz.frozen 2
        have M1 := Lib.hid (((Nb.rfl.al _).al _).tr n1 : Nb w w1)
        have HQ1 := Lib.hid hq
        have HZ1 := Lib.hid hz
        clear hq hz n1 HQ HZ
        go_wp2
        have hb3 := (HZ1.out.other (p := ⟨w.heap.size, 0, none⟩) (by simp) (.int .i64 (T + 8))).other (p := ⟨w.heap.size, 2, none⟩) (by simp) (.bool (decide (255 < T + 8)))
        have nb3 := Nb.st (Nb.st M1.out (p := ⟨w.heap.size, 0, none⟩) (Nat.le_refl _) (.int .i64 (T + 8))) (p := ⟨w.heap.size, 2, none⟩) (Nat.le_refl _) (.bool (decide (255 < T + 8)))
        obtain ⟨e0, e1, e2⟩ := p3_cells (.int .i64 (T + 8)) (.int .i64 R) (.bool (decide (255 < T + 8))) hb3
        have nf := p3_nb nb3 (b := w.heap.size + 1) (by omega) (.int .i64 (T + 8)) (.int .i64 R) (.bool (decide (255 < T + 8)))
        change bodyPost _ _ _ _ _ (p3 ((w1.setCell ⟨w.heap.size, 0, none⟩ (.int .i64 (T + 8))).setCell ⟨w.heap.size, 2, none⟩ (.bool (decide (255 < T + 8)))) (w.heap.size + 1) (.int .i64 (T + 8)) (.int .i64 R) (.bool (decide (255 < T + 8))))
        generalize p3 ((w1.setCell ⟨w.heap.size, 0, none⟩ (.int .i64 (T + 8))).setCell ⟨w.heap.size, 2, none⟩ (.bool (decide (255 < T + 8)))) (w.heap.size + 1) (.int .i64 (T + 8)) (.int .i64 R) (.bool (decide (255 < T + 8))) = WW at e0 e1 e2 nf ⊢
        exact bodyPost_ret (v := .agg #[.int .i64 (T + 8), .int .i64 R, .bool (decide (255 < T + 8))]) (by simp [results, Try.results19, go_sem, e0, e1, e2]) rfl ⟨rfl, nf⟩
    · rw [show doFa ⟨T, R, false⟩ 6 = ⟨T, R, false⟩ by simp [doFa]]
      have dd : decide (255 < T) = false := decide_eq_false (by omega)
      simp only [Fa.cs]
      clear HI
      go_enter Try.func19, Try.ntmps19
      go_wp2
      exact bodyPost_ret (v := .agg #[.int .i64 T, .int .i64 R, .bool false]) (by simp [results, Try.results19, go_sem]) rfl ⟨rfl, (Nb.rfl.al _).al _⟩

set_option maxHeartbeats 800000 in
set_option maxRecDepth 100000 in
theorem refmode11_any (s : Fa) (w : World) : Calls Try.prog 10 #[.agg s.cs] w fun e w' => e = .returned (.tuple #[.int .i64 (if okFa s then isFa s else 0 : Nat), .int .i64 (errFa s : Nat)]) ∧ Nb w w' := by
  have HC := Lib.hid (fun w' => refchk11_any s w')
  have HI := Lib.hid (fun w' => refis11_any s w')
  unfold errFa at HC ⊢
  have Q := Lib.hid (Blk.new w s.cs 23)
  generalize isFa s = m at *
  generalize okFa s = ok at *
  obtain ⟨T, R, O⟩ := s
  simp only [Fa.cs] at HC HI Q ⊢
  cases ok
  all_goals simp only [Bool.false_eq_true, if_false, if_true] at HC ⊢
  · go_enter Try.func10, Try.ntmps10
    go_wp2_with fail
    refine (HC.out _).mono ?_
    rintro e w1 ⟨rfl, n1⟩
    go_wp2
    go_ret2
    exact ⟨rfl, (Nb.rfl.al _).tr n1⟩
  · go_enter Try.func10, Try.ntmps10
    go_wp2_with fail
    refine (HC.out _).mono ?_
    rintro e w1 ⟨rfl, n1⟩
    have q := Q.out.nb n1
    have c0 : w1.cell? ⟨w.heap.size, 0, none⟩ = some (.int .i64 T) := q.cell 0
    have c1 : w1.cell? ⟨w.heap.size, 1, none⟩ = some (.int .i64 R) := q.cell 1
    have c2 : w1.cell? ⟨w.heap.size, 2, none⟩ = some (.bool O) := q.cell 2
    have M1 := Lib.hid ((Nb.rfl.al _).tr n1 : Nb w w1)
    clear q n1
    go_wp2_with fail
    refine (HI.out _).mono ?_
    rintro e w2 ⟨rfl, n2⟩
    go_wp2
    go_ret2
    exact ⟨rfl, M1.out.tr n2⟩

set_option maxHeartbeats 1600000 in
set_option maxRecDepth 100000 in
theorem refnext11_any (s : Fa) (e : Int) (w : World) : Calls Try.prog 12 #[.agg s.cs, .int .i64 e] w fun en w' => en = .returned (.tuple #[.agg (nxFa s e).cs, .int .i64 (nxE s e : Nat)]) ∧ Nb w w' := by
  have HC := Lib.hid (fun w' => refchk11_any s w')
  have HZ0 := Lib.hid (Blk.new (w.alloc (.cells s.cs 23)) #[.int .i64 0, .int .i64 0, .bool false] 23)
  have HQ0 := Lib.hid (Blk.new w s.cs 23)
  cases hok : okFa s with
  | false =>
    rw [show errFa s = 2 by simp [errFa, hok]] at HC
    rw [show nxFa s e = Fa.zero by simp [nxFa, hok], show nxE s e = 2 by simp [nxE, hok]]
    clear hok
    obtain ⟨T, R, O⟩ := s
    simp only [Fa.cs, Fa.zero] at HC HZ0 HQ0 ⊢
    go_enter Try.func12, Try.ntmps12
    go_wp2_with fail
    refine (HC.out _).mono ?_
    rintro en w1 ⟨rfl, n1⟩
    have hz := HZ0.out.nb n1
    rw [World.size_alloc] at hz
    have hq := (HQ0.out.nb (Nb.rfl.al _)).nb n1
    have y0 := hz.frozen 0
    have y1 := hz.frozen 1
    have y2 := hz.frozen 2
    have x0 : w1.cell? ⟨w.heap.size + 1, 0, none⟩ = some (.int .i64 0) := hz.cell 0
    have x1 : w1.cell? ⟨w.heap.size + 1, 1, none⟩ = some (.int .i64 0) := hz.cell 1
    have x2 : w1.cell? ⟨w.heap.size + 1, 2, none⟩ = some (.bool false) := hz.cell 2
    have c0 : w1.cell? ⟨w.heap.size, 0, none⟩ = some (.int .i64 T) := hq.cell 0
    have c1 : w1.cell? ⟨w.heap.size, 1, none⟩ = some (.int .i64 R) := hq.cell 1
    have c2 : w1.cell? ⟨w.heap.size, 2, none⟩ = some (.bool O) := hq.cell 2
    have M1 := Lib.hid (((Nb.rfl.al _).al _).tr n1 : Nb w w1)
    have HZ1 := Lib.hid hz
    clear hz hq n1 HZ0 HQ0
    have hb3 := HZ1.out
    have nb3 := M1.out
    obtain ⟨e0, e1, e2⟩ := p3_cells (.int .i64 0) (.int .i64 0) (.bool false) hb3
    have nf := p3_nb nb3 (b := w.heap.size + 1) (by omega) (.int .i64 0) (.int .i64 0) (.bool false)
    go_wp2
    change bodyPost _ _ _ _ _ (p3 w1 (w.heap.size + 1) (.int .i64 0) (.int .i64 0) (.bool false))
    generalize p3 w1 (w.heap.size + 1) (.int .i64 0) (.int .i64 0) (.bool false) = WW at e0 e1 e2 nf ⊢
    exact bodyPost_ret (v := .tuple #[.agg #[.int .i64 0, .int .i64 0, .bool false], .int .i64 2]) (by simp [results, Try.results12, go_sem, e0, e1, e2]) rfl ⟨rfl, nf⟩
  | true =>
    rw [show errFa s = 0 by simp [errFa, hok]] at HC
    cases hev : evOk e with
    | false =>
      rw [show nxFa s e = Fa.zero by simp [nxFa, hev], show nxE s e = 2 by simp [nxE, hev]]
      have hbad : e < 1 ∨ 6 < e := by
        have h0 : ¬ (1 ≤ e ∧ e ≤ 6) := fun h1 => by rw [(evOk_iff e).2 h1] at hev; cases hev
        omega
      clear hok hev
      obtain ⟨T, R, O⟩ := s
      simp only [Fa.cs, Fa.zero] at HC HZ0 HQ0 ⊢
      go_enter Try.func12, Try.ntmps12
      go_wp2_with fail
      refine (HC.out _).mono ?_
      rintro en w1 ⟨rfl, n1⟩
      have hz := HZ0.out.nb n1
      rw [World.size_alloc] at hz
      have hq := (HQ0.out.nb (Nb.rfl.al _)).nb n1
      have y0 := hz.frozen 0
      have y1 := hz.frozen 1
      have y2 := hz.frozen 2
      have x0 : w1.cell? ⟨w.heap.size + 1, 0, none⟩ = some (.int .i64 0) := hz.cell 0
      have x1 : w1.cell? ⟨w.heap.size + 1, 1, none⟩ = some (.int .i64 0) := hz.cell 1
      have x2 : w1.cell? ⟨w.heap.size + 1, 2, none⟩ = some (.bool false) := hz.cell 2
      have c0 : w1.cell? ⟨w.heap.size, 0, none⟩ = some (.int .i64 T) := hq.cell 0
      have c1 : w1.cell? ⟨w.heap.size, 1, none⟩ = some (.int .i64 R) := hq.cell 1
      have c2 : w1.cell? ⟨w.heap.size, 2, none⟩ = some (.bool O) := hq.cell 2
      have M1 := Lib.hid (((Nb.rfl.al _).al _).tr n1 : Nb w w1)
      have HZ1 := Lib.hid hz
      clear hz hq n1 HZ0 HQ0
      by_cases h1 : e < 1
      · have d1 : decide (e < 1) = true := decide_eq_true h1
        clear h1 hbad
        have hb3 := HZ1.out
        have nb3 := M1.out
        obtain ⟨e0, e1, e2⟩ := p3_cells (.int .i64 0) (.int .i64 0) (.bool false) hb3
        have nf := p3_nb nb3 (b := w.heap.size + 1) (by omega) (.int .i64 0) (.int .i64 0) (.bool false)
        go_wp2
        change bodyPost _ _ _ _ _ (p3 w1 (w.heap.size + 1) (.int .i64 0) (.int .i64 0) (.bool false))
        generalize p3 w1 (w.heap.size + 1) (.int .i64 0) (.int .i64 0) (.bool false) = WW at e0 e1 e2 nf ⊢
        exact bodyPost_ret (v := .tuple #[.agg #[.int .i64 0, .int .i64 0, .bool false], .int .i64 2]) (by simp [results, Try.results12, go_sem, e0, e1, e2]) rfl ⟨rfl, nf⟩
      · have d1 : decide (e < 1) = false := decide_eq_false h1
        have d2 : decide (6 < e) = true := decide_eq_true (by omega)
        clear h1 hbad
        have hb3 := HZ1.out
        have nb3 := M1.out
        obtain ⟨e0, e1, e2⟩ := p3_cells (.int .i64 0) (.int .i64 0) (.bool false) hb3
        have nf := p3_nb nb3 (b := w.heap.size + 1) (by omega) (.int .i64 0) (.int .i64 0) (.bool false)
        go_wp2
        change bodyPost _ _ _ _ _ (p3 w1 (w.heap.size + 1) (.int .i64 0) (.int .i64 0) (.bool false))
        generalize p3 w1 (w.heap.size + 1) (.int .i64 0) (.int .i64 0) (.bool false) = WW at e0 e1 e2 nf ⊢
        exact bodyPost_ret (v := .tuple #[.agg #[.int .i64 0, .int .i64 0, .bool false], .int .i64 2]) (by simp [results, Try.results12, go_sem, e0, e1, e2]) rfl ⟨rfl, nf⟩
    | true =>
      rw [show nxFa s e = doFa s e by simp [nxFa, hok, hev], show nxE s e = 0 by simp [nxE, hok, hev]]
      have HDo := Lib.hid (fun w' => refdo11_any s e w' hok hev)
      obtain ⟨v1, v2⟩ := (evOk_iff e).1 hev
      have d1 : decide (e < 1) = false := decide_eq_false (by omega)
      have d2 : decide (6 < e) = false := decide_eq_false (by omega)
      clear hok hev v1 v2
      generalize doFa s e = s' at *
      obtain ⟨T, R, O⟩ := s
      obtain ⟨T', R', O'⟩ := s'
      simp only [Fa.cs] at HC HZ0 HQ0 HDo ⊢
      go_enter Try.func12, Try.ntmps12
      go_wp2_with fail
      refine (HC.out _).mono ?_
      rintro en w1 ⟨rfl, n1⟩
      have hz := HZ0.out.nb n1
      rw [World.size_alloc] at hz
      have hq := (HQ0.out.nb (Nb.rfl.al _)).nb n1
      have y0 := hz.frozen 0
      have y1 := hz.frozen 1
      have y2 := hz.frozen 2
      have x0 : w1.cell? ⟨w.heap.size + 1, 0, none⟩ = some (.int .i64 0) := hz.cell 0
      have x1 : w1.cell? ⟨w.heap.size + 1, 1, none⟩ = some (.int .i64 0) := hz.cell 1
      have x2 : w1.cell? ⟨w.heap.size + 1, 2, none⟩ = some (.bool false) := hz.cell 2
      have c0 : w1.cell? ⟨w.heap.size, 0, none⟩ = some (.int .i64 T) := hq.cell 0
      have c1 : w1.cell? ⟨w.heap.size, 1, none⟩ = some (.int .i64 R) := hq.cell 1
      have c2 : w1.cell? ⟨w.heap.size, 2, none⟩ = some (.bool O) := hq.cell 2
      have M1 := Lib.hid (((Nb.rfl.al _).al _).tr n1 : Nb w w1)
      have HZ1 := Lib.hid hz
      clear hz hq n1 HZ0 HQ0
      go_wp2_with fail
      refine (HDo.out _).mono ?_
      rintro en w2 ⟨rfl, n2⟩
      have hz := HZ1.out.nb n2
      clear y0 y1 y2 x0 x1 x2 c0 c1 c2
      have y0 := hz.frozen 0
      have y1 := hz.frozen 1
      have y2 := hz.frozen 2
      have x0 : w2.cell? ⟨w.heap.size + 1, 0, none⟩ = some (.int .i64 0) := hz.cell 0
      have x1 : w2.cell? ⟨w.heap.size + 1, 1, none⟩ = some (.int .i64 0) := hz.cell 1
      have x2 : w2.cell? ⟨w.heap.size + 1, 2, none⟩ = some (.bool false) := hz.cell 2
      have M2 := Lib.hid (M1.out.tr n2)
      have HZ2 := Lib.hid hz
      clear hz n2
      have hb3 := HZ2.out
      have nb3 := M2.out
      obtain ⟨e0, e1, e2⟩ := p3_cells (.int .i64 T') (.int .i64 R') (.bool O') hb3
      have nf := p3_nb nb3 (b := w.heap.size + 1) (by omega) (.int .i64 T') (.int .i64 R') (.bool O')
      go_wp2
      change bodyPost _ _ _ _ _ (p3 w2 (w.heap.size + 1) (.int .i64 T') (.int .i64 R') (.bool O'))
      generalize p3 w2 (w.heap.size + 1) (.int .i64 T') (.int .i64 R') (.bool O') = WW at e0 e1 e2 nf ⊢
      exact bodyPost_ret (v := .tuple #[.agg #[.int .i64 T', .int .i64 R', .bool O'], .int .i64 0]) (by simp [results, Try.results12, go_sem, e0, e1, e2]) rfl ⟨rfl, nf⟩
end Go.Proofs.Ytahemoakehbchaa
