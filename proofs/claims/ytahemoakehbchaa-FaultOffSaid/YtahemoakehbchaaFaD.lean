
/- The landed package fault: what an event does, by the array of what events do. Conditions: a state that may be, an event that there is. -/
import Derived.Test.YtahemoakehbchaaFaC
import Derived.Laws.EntriesVeiled
namespace Go.Proofs.Ytahemoakehbchaa
set_option linter.unusedVariables false
set_option linter.unusedSimpArgs false
open Go.RowKit

/-- What events do, at their numbers. -/
def doV : Value := .agg #[Value.nilFunc, Value.func (Fn.func 22) #[] #[], Value.func (Fn.func 23) #[] #[], Value.func (Fn.func 24) #[] #[], Value.func (Fn.func 25) #[] #[], Value.func (Fn.func 26) #[] #[], Value.func (Fn.func 27) #[] #[]]
set_option maxHeartbeats 800000 in
set_option maxRecDepth 100000 in
theorem doings_any (w : World) : Calls Try.prog 21 #[] w fun e w' => e = .returned doV ∧ Nb w w' := by
  unfold doV
  go_enter Try.func21, Try.ntmps21
  go_wp2
  exact bodyPost_ret (v := .agg #[Value.nilFunc, Value.func (Fn.func 22) #[] #[], Value.func (Fn.func 23) #[] #[], Value.func (Fn.func 24) #[] #[], Value.func (Fn.func 25) #[] #[], Value.func (Fn.func 26) #[] #[], Value.func (Fn.func 27) #[] #[]]) (by simp [results, Try.results21, go_sem]) rfl ⟨rfl, Nb.rfl.al _⟩

theorem index_do1 (w : World) : (Instr.index 49 doV (.int .i64 1)).run Try.prog w = .ok (Value.func (Fn.func 22) #[] #[]) w := by kernel_rfl
theorem cf_sent : ∀ args w, (callFunc 22 args).run Try.prog w = .ok (.enter 22 args) w := hcf _ _ Try.func22 (by rfl) (by decide +kernel)
set_option maxHeartbeats 2000000 in
set_option maxRecDepth 100000 in
theorem fbehind1 (T R : Int) (O : Bool) (T' R' : Int) (O' : Bool) (w : World) (hO : O = true → (1 : Int) = 6)
    (hF : ∀ w', Calls Try.prog 22 #[.agg #[.int .i64 T, .int .i64 R, .bool O]] w' fun e w'' => e = .returned (.agg #[.int .i64 T', .int .i64 R', .bool O']) ∧ Nb w' w'') :
    Calls Try.prog 18 #[.agg #[.int .i64 T, .int .i64 R, .bool O], .int .i64 1] w fun e w' => e = .returned (.agg #[.int .i64 T', .int .i64 R', .bool O']) ∧ Nb w w' := by
  have HF := Lib.hid hF
  have HD := Lib.hid doings_any
  have hix := index_do1
  have hcf := cf_sent
  clear hF
  obtain ⟨w0, hw0⟩ : ∃ w0, w0 = (w.alloc (.cells #[.int .i64 T, .int .i64 R, .bool O] 25)).alloc (.cells #[.int .i64 0, .int .i64 0, .bool false] 25) := ⟨_, rfl⟩
  have HQ := Lib.hid (show Blk w0 w.heap.size #[.int .i64 T, .int .i64 R, .bool O] 25 by rw [hw0]; exact (Blk.new _ _ _).nb (Nb.rfl.al _))
  have HZ := Lib.hid (show Blk w0 (w.heap.size + 1) #[.int .i64 0, .int .i64 0, .bool false] 25 by
    rw [hw0]
    have := Blk.new (w.alloc (.cells #[.int .i64 T, .int .i64 R, .bool O] 25)) #[.int .i64 0, .int .i64 0, .bool false] 25
    rw [World.size_alloc] at this
    exact this)
  have N0 := Lib.hid (show Nb w w0 by rw [hw0]; exact (Nb.rfl.al _).al _)
  have HW := Lib.hid hw0
  clear hw0
  cases O
  all_goals first | (exfalso; have := hO rfl; omega) | skip
  all_goals clear hO
  all_goals go_enter Try.func18, Try.ntmps18
  all_goals go_wp2_with fail
  all_goals rw [← HW.out]
  all_goals obtain ⟨l0, c0, c1, c2, _, _, _⟩ := blk3 HQ.out
  all_goals obtain ⟨l1, x0, x1, x2, y0, y1, y2⟩ := blk3 HZ.out
  all_goals have NB : Hid (Nb w0 w0.drew) := Lib.hid (Nb.drewN w0 1)
  all_goals go_region_with (first
    | (go_at_call 21
       refine (HD.out _).mono ?_
       rintro e w1 ⟨rfl, n1⟩
       have NB := Lib.hid (NB.out.tr n1)
       obtain ⟨l0, c0, c1, c2, _, _, _⟩ := blk3 (HQ.out.nb NB.out)
       obtain ⟨l1, x0, x1, x2, y0, y1, y2⟩ := blk3 (HZ.out.nb NB.out)
       clear n1)
    | (go_at_call 22
       refine (HF.out _).mono ?_
       rintro e w2 ⟨rfl, n2⟩
       have NB := Lib.hid (NB.out.tr n2)
       obtain ⟨l1, x0, x1, x2, y0, y1, y2⟩ := blk3 (HZ.out.nb NB.out)
       clear n2))
  all_goals
    obtain ⟨e0, e1, e2⟩ := p3_cells (.int .i64 T') (.int .i64 R') (.bool O') (HZ.out.nb NB.out)
    have nf := p3_nb (N0.out.tr NB.out) (b := w.heap.size + 1) (by omega) (.int .i64 T') (.int .i64 R') (.bool O')
    go_wp2
    change bodyPost _ _ _ _ _ (p3 w2 (w.heap.size + 1) (.int .i64 T') (.int .i64 R') (.bool O'))
    generalize p3 w2 (w.heap.size + 1) (.int .i64 T') (.int .i64 R') (.bool O') = WW at e0 e1 e2 nf ⊢
    exact bodyPost_ret (v := .agg #[.int .i64 T', .int .i64 R', .bool O']) (by simp [results, Try.results18, go_sem, e0, e1, e2]) rfl ⟨rfl, nf⟩
theorem index_do2 (w : World) : (Instr.index 49 doV (.int .i64 2)).run Try.prog w = .ok (Value.func (Fn.func 23) #[] #[]) w := by kernel_rfl
theorem cf_got : ∀ args w, (callFunc 23 args).run Try.prog w = .ok (.enter 23 args) w := hcf _ _ Try.func23 (by rfl) (by decide +kernel)
set_option maxHeartbeats 2000000 in
set_option maxRecDepth 100000 in
theorem fbehind2 (T R : Int) (O : Bool) (T' R' : Int) (O' : Bool) (w : World) (hO : O = true → (2 : Int) = 6)
    (hF : ∀ w', Calls Try.prog 23 #[.agg #[.int .i64 T, .int .i64 R, .bool O]] w' fun e w'' => e = .returned (.agg #[.int .i64 T', .int .i64 R', .bool O']) ∧ Nb w' w'') :
    Calls Try.prog 18 #[.agg #[.int .i64 T, .int .i64 R, .bool O], .int .i64 2] w fun e w' => e = .returned (.agg #[.int .i64 T', .int .i64 R', .bool O']) ∧ Nb w w' := by
  have HF := Lib.hid hF
  have HD := Lib.hid doings_any
  have hix := index_do2
  have hcf := cf_got
  clear hF
  obtain ⟨w0, hw0⟩ : ∃ w0, w0 = (w.alloc (.cells #[.int .i64 T, .int .i64 R, .bool O] 25)).alloc (.cells #[.int .i64 0, .int .i64 0, .bool false] 25) := ⟨_, rfl⟩
  have HQ := Lib.hid (show Blk w0 w.heap.size #[.int .i64 T, .int .i64 R, .bool O] 25 by rw [hw0]; exact (Blk.new _ _ _).nb (Nb.rfl.al _))
  have HZ := Lib.hid (show Blk w0 (w.heap.size + 1) #[.int .i64 0, .int .i64 0, .bool false] 25 by
    rw [hw0]
    have := Blk.new (w.alloc (.cells #[.int .i64 T, .int .i64 R, .bool O] 25)) #[.int .i64 0, .int .i64 0, .bool false] 25
    rw [World.size_alloc] at this
    exact this)
  have N0 := Lib.hid (show Nb w w0 by rw [hw0]; exact (Nb.rfl.al _).al _)
  have HW := Lib.hid hw0
  clear hw0
  cases O
  all_goals first | (exfalso; have := hO rfl; omega) | skip
  all_goals clear hO
  all_goals go_enter Try.func18, Try.ntmps18
  all_goals go_wp2_with fail
  all_goals rw [← HW.out]
  all_goals obtain ⟨l0, c0, c1, c2, _, _, _⟩ := blk3 HQ.out
  all_goals obtain ⟨l1, x0, x1, x2, y0, y1, y2⟩ := blk3 HZ.out
  all_goals have NB : Hid (Nb w0 w0.drew) := Lib.hid (Nb.drewN w0 1)
  all_goals go_region_with (first
    | (go_at_call 21
       refine (HD.out _).mono ?_
       rintro e w1 ⟨rfl, n1⟩
       have NB := Lib.hid (NB.out.tr n1)
       obtain ⟨l0, c0, c1, c2, _, _, _⟩ := blk3 (HQ.out.nb NB.out)
       obtain ⟨l1, x0, x1, x2, y0, y1, y2⟩ := blk3 (HZ.out.nb NB.out)
       clear n1)
    | (go_at_call 23
       refine (HF.out _).mono ?_
       rintro e w2 ⟨rfl, n2⟩
       have NB := Lib.hid (NB.out.tr n2)
       obtain ⟨l1, x0, x1, x2, y0, y1, y2⟩ := blk3 (HZ.out.nb NB.out)
       clear n2))
  all_goals
    obtain ⟨e0, e1, e2⟩ := p3_cells (.int .i64 T') (.int .i64 R') (.bool O') (HZ.out.nb NB.out)
    have nf := p3_nb (N0.out.tr NB.out) (b := w.heap.size + 1) (by omega) (.int .i64 T') (.int .i64 R') (.bool O')
    go_wp2
    change bodyPost _ _ _ _ _ (p3 w2 (w.heap.size + 1) (.int .i64 T') (.int .i64 R') (.bool O'))
    generalize p3 w2 (w.heap.size + 1) (.int .i64 T') (.int .i64 R') (.bool O') = WW at e0 e1 e2 nf ⊢
    exact bodyPost_ret (v := .agg #[.int .i64 T', .int .i64 R', .bool O']) (by simp [results, Try.results18, go_sem, e0, e1, e2]) rfl ⟨rfl, nf⟩
theorem index_do3 (w : World) : (Instr.index 49 doV (.int .i64 3)).run Try.prog w = .ok (Value.func (Fn.func 24) #[] #[]) w := by kernel_rfl
theorem cf_sendError : ∀ args w, (callFunc 24 args).run Try.prog w = .ok (.enter 24 args) w := hcf _ _ Try.func24 (by rfl) (by decide +kernel)
set_option maxHeartbeats 2000000 in
set_option maxRecDepth 100000 in
theorem fbehind3 (T R : Int) (O : Bool) (T' R' : Int) (O' : Bool) (w : World) (hO : O = true → (3 : Int) = 6)
    (hF : ∀ w', Calls Try.prog 24 #[.agg #[.int .i64 T, .int .i64 R, .bool O]] w' fun e w'' => e = .returned (.agg #[.int .i64 T', .int .i64 R', .bool O']) ∧ Nb w' w'') :
    Calls Try.prog 18 #[.agg #[.int .i64 T, .int .i64 R, .bool O], .int .i64 3] w fun e w' => e = .returned (.agg #[.int .i64 T', .int .i64 R', .bool O']) ∧ Nb w w' := by
  have HF := Lib.hid hF
  have HD := Lib.hid doings_any
  have hix := index_do3
  have hcf := cf_sendError
  clear hF
  obtain ⟨w0, hw0⟩ : ∃ w0, w0 = (w.alloc (.cells #[.int .i64 T, .int .i64 R, .bool O] 25)).alloc (.cells #[.int .i64 0, .int .i64 0, .bool false] 25) := ⟨_, rfl⟩
  have HQ := Lib.hid (show Blk w0 w.heap.size #[.int .i64 T, .int .i64 R, .bool O] 25 by rw [hw0]; exact (Blk.new _ _ _).nb (Nb.rfl.al _))
  have HZ := Lib.hid (show Blk w0 (w.heap.size + 1) #[.int .i64 0, .int .i64 0, .bool false] 25 by
    rw [hw0]
    have := Blk.new (w.alloc (.cells #[.int .i64 T, .int .i64 R, .bool O] 25)) #[.int .i64 0, .int .i64 0, .bool false] 25
    rw [World.size_alloc] at this
    exact this)
  have N0 := Lib.hid (show Nb w w0 by rw [hw0]; exact (Nb.rfl.al _).al _)
  have HW := Lib.hid hw0
  clear hw0
  cases O
  all_goals first | (exfalso; have := hO rfl; omega) | skip
  all_goals clear hO
  all_goals go_enter Try.func18, Try.ntmps18
  all_goals go_wp2_with fail
  all_goals rw [← HW.out]
  all_goals obtain ⟨l0, c0, c1, c2, _, _, _⟩ := blk3 HQ.out
  all_goals obtain ⟨l1, x0, x1, x2, y0, y1, y2⟩ := blk3 HZ.out
  all_goals have NB : Hid (Nb w0 w0.drew) := Lib.hid (Nb.drewN w0 1)
  all_goals go_region_with (first
    | (go_at_call 21
       refine (HD.out _).mono ?_
       rintro e w1 ⟨rfl, n1⟩
       have NB := Lib.hid (NB.out.tr n1)
       obtain ⟨l0, c0, c1, c2, _, _, _⟩ := blk3 (HQ.out.nb NB.out)
       obtain ⟨l1, x0, x1, x2, y0, y1, y2⟩ := blk3 (HZ.out.nb NB.out)
       clear n1)
    | (go_at_call 24
       refine (HF.out _).mono ?_
       rintro e w2 ⟨rfl, n2⟩
       have NB := Lib.hid (NB.out.tr n2)
       obtain ⟨l1, x0, x1, x2, y0, y1, y2⟩ := blk3 (HZ.out.nb NB.out)
       clear n2))
  all_goals
    obtain ⟨e0, e1, e2⟩ := p3_cells (.int .i64 T') (.int .i64 R') (.bool O') (HZ.out.nb NB.out)
    have nf := p3_nb (N0.out.tr NB.out) (b := w.heap.size + 1) (by omega) (.int .i64 T') (.int .i64 R') (.bool O')
    go_wp2
    change bodyPost _ _ _ _ _ (p3 w2 (w.heap.size + 1) (.int .i64 T') (.int .i64 R') (.bool O'))
    generalize p3 w2 (w.heap.size + 1) (.int .i64 T') (.int .i64 R') (.bool O') = WW at e0 e1 e2 nf ⊢
    exact bodyPost_ret (v := .agg #[.int .i64 T', .int .i64 R', .bool O']) (by simp [results, Try.results18, go_sem, e0, e1, e2]) rfl ⟨rfl, nf⟩
theorem index_do4 (w : World) : (Instr.index 49 doV (.int .i64 4)).run Try.prog w = .ok (Value.func (Fn.func 25) #[] #[]) w := by kernel_rfl
theorem cf_getError : ∀ args w, (callFunc 25 args).run Try.prog w = .ok (.enter 25 args) w := hcf _ _ Try.func25 (by rfl) (by decide +kernel)
set_option maxHeartbeats 2000000 in
set_option maxRecDepth 100000 in
theorem fbehind4 (T R : Int) (O : Bool) (T' R' : Int) (O' : Bool) (w : World) (hO : O = true → (4 : Int) = 6)
    (hF : ∀ w', Calls Try.prog 25 #[.agg #[.int .i64 T, .int .i64 R, .bool O]] w' fun e w'' => e = .returned (.agg #[.int .i64 T', .int .i64 R', .bool O']) ∧ Nb w' w'') :
    Calls Try.prog 18 #[.agg #[.int .i64 T, .int .i64 R, .bool O], .int .i64 4] w fun e w' => e = .returned (.agg #[.int .i64 T', .int .i64 R', .bool O']) ∧ Nb w w' := by
  have HF := Lib.hid hF
  have HD := Lib.hid doings_any
  have hix := index_do4
  have hcf := cf_getError
  clear hF
  obtain ⟨w0, hw0⟩ : ∃ w0, w0 = (w.alloc (.cells #[.int .i64 T, .int .i64 R, .bool O] 25)).alloc (.cells #[.int .i64 0, .int .i64 0, .bool false] 25) := ⟨_, rfl⟩
  have HQ := Lib.hid (show Blk w0 w.heap.size #[.int .i64 T, .int .i64 R, .bool O] 25 by rw [hw0]; exact (Blk.new _ _ _).nb (Nb.rfl.al _))
  have HZ := Lib.hid (show Blk w0 (w.heap.size + 1) #[.int .i64 0, .int .i64 0, .bool false] 25 by
    rw [hw0]
    have := Blk.new (w.alloc (.cells #[.int .i64 T, .int .i64 R, .bool O] 25)) #[.int .i64 0, .int .i64 0, .bool false] 25
    rw [World.size_alloc] at this
    exact this)
  have N0 := Lib.hid (show Nb w w0 by rw [hw0]; exact (Nb.rfl.al _).al _)
  have HW := Lib.hid hw0
  clear hw0
  cases O
  all_goals first | (exfalso; have := hO rfl; omega) | skip
  all_goals clear hO
  all_goals go_enter Try.func18, Try.ntmps18
  all_goals go_wp2_with fail
  all_goals rw [← HW.out]
  all_goals obtain ⟨l0, c0, c1, c2, _, _, _⟩ := blk3 HQ.out
  all_goals obtain ⟨l1, x0, x1, x2, y0, y1, y2⟩ := blk3 HZ.out
  all_goals have NB : Hid (Nb w0 w0.drew) := Lib.hid (Nb.drewN w0 1)
  all_goals go_region_with (first
    | (go_at_call 21
       refine (HD.out _).mono ?_
       rintro e w1 ⟨rfl, n1⟩
       have NB := Lib.hid (NB.out.tr n1)
       obtain ⟨l0, c0, c1, c2, _, _, _⟩ := blk3 (HQ.out.nb NB.out)
       obtain ⟨l1, x0, x1, x2, y0, y1, y2⟩ := blk3 (HZ.out.nb NB.out)
       clear n1)
    | (go_at_call 25
       refine (HF.out _).mono ?_
       rintro e w2 ⟨rfl, n2⟩
       have NB := Lib.hid (NB.out.tr n2)
       obtain ⟨l1, x0, x1, x2, y0, y1, y2⟩ := blk3 (HZ.out.nb NB.out)
       clear n2))
  all_goals
    obtain ⟨e0, e1, e2⟩ := p3_cells (.int .i64 T') (.int .i64 R') (.bool O') (HZ.out.nb NB.out)
    have nf := p3_nb (N0.out.tr NB.out) (b := w.heap.size + 1) (by omega) (.int .i64 T') (.int .i64 R') (.bool O')
    go_wp2
    change bodyPost _ _ _ _ _ (p3 w2 (w.heap.size + 1) (.int .i64 T') (.int .i64 R') (.bool O'))
    generalize p3 w2 (w.heap.size + 1) (.int .i64 T') (.int .i64 R') (.bool O') = WW at e0 e1 e2 nf ⊢
    exact bodyPost_ret (v := .agg #[.int .i64 T', .int .i64 R', .bool O']) (by simp [results, Try.results18, go_sem, e0, e1, e2]) rfl ⟨rfl, nf⟩
theorem index_do5 (w : World) : (Instr.index 49 doV (.int .i64 5)).run Try.prog w = .ok (Value.func (Fn.func 26) #[] #[]) w := by kernel_rfl
theorem cf_unheard : ∀ args w, (callFunc 26 args).run Try.prog w = .ok (.enter 26 args) w := hcf _ _ Try.func26 (by rfl) (by decide +kernel)
set_option maxHeartbeats 2000000 in
set_option maxRecDepth 100000 in
theorem fbehind5 (T R : Int) (O : Bool) (T' R' : Int) (O' : Bool) (w : World) (hO : O = true → (5 : Int) = 6)
    (hF : ∀ w', Calls Try.prog 26 #[.agg #[.int .i64 T, .int .i64 R, .bool O]] w' fun e w'' => e = .returned (.agg #[.int .i64 T', .int .i64 R', .bool O']) ∧ Nb w' w'') :
    Calls Try.prog 18 #[.agg #[.int .i64 T, .int .i64 R, .bool O], .int .i64 5] w fun e w' => e = .returned (.agg #[.int .i64 T', .int .i64 R', .bool O']) ∧ Nb w w' := by
  have HF := Lib.hid hF
  have HD := Lib.hid doings_any
  have hix := index_do5
  have hcf := cf_unheard
  clear hF
  obtain ⟨w0, hw0⟩ : ∃ w0, w0 = (w.alloc (.cells #[.int .i64 T, .int .i64 R, .bool O] 25)).alloc (.cells #[.int .i64 0, .int .i64 0, .bool false] 25) := ⟨_, rfl⟩
  have HQ := Lib.hid (show Blk w0 w.heap.size #[.int .i64 T, .int .i64 R, .bool O] 25 by rw [hw0]; exact (Blk.new _ _ _).nb (Nb.rfl.al _))
  have HZ := Lib.hid (show Blk w0 (w.heap.size + 1) #[.int .i64 0, .int .i64 0, .bool false] 25 by
    rw [hw0]
    have := Blk.new (w.alloc (.cells #[.int .i64 T, .int .i64 R, .bool O] 25)) #[.int .i64 0, .int .i64 0, .bool false] 25
    rw [World.size_alloc] at this
    exact this)
  have N0 := Lib.hid (show Nb w w0 by rw [hw0]; exact (Nb.rfl.al _).al _)
  have HW := Lib.hid hw0
  clear hw0
  cases O
  all_goals first | (exfalso; have := hO rfl; omega) | skip
  all_goals clear hO
  all_goals go_enter Try.func18, Try.ntmps18
  all_goals go_wp2_with fail
  all_goals rw [← HW.out]
  all_goals obtain ⟨l0, c0, c1, c2, _, _, _⟩ := blk3 HQ.out
  all_goals obtain ⟨l1, x0, x1, x2, y0, y1, y2⟩ := blk3 HZ.out
  all_goals have NB : Hid (Nb w0 w0.drew) := Lib.hid (Nb.drewN w0 1)
  all_goals go_region_with (first
    | (go_at_call 21
       refine (HD.out _).mono ?_
       rintro e w1 ⟨rfl, n1⟩
       have NB := Lib.hid (NB.out.tr n1)
       obtain ⟨l0, c0, c1, c2, _, _, _⟩ := blk3 (HQ.out.nb NB.out)
       obtain ⟨l1, x0, x1, x2, y0, y1, y2⟩ := blk3 (HZ.out.nb NB.out)
       clear n1)
    | (go_at_call 26
       refine (HF.out _).mono ?_
       rintro e w2 ⟨rfl, n2⟩
       have NB := Lib.hid (NB.out.tr n2)
       obtain ⟨l1, x0, x1, x2, y0, y1, y2⟩ := blk3 (HZ.out.nb NB.out)
       clear n2))
  all_goals
    obtain ⟨e0, e1, e2⟩ := p3_cells (.int .i64 T') (.int .i64 R') (.bool O') (HZ.out.nb NB.out)
    have nf := p3_nb (N0.out.tr NB.out) (b := w.heap.size + 1) (by omega) (.int .i64 T') (.int .i64 R') (.bool O')
    go_wp2
    change bodyPost _ _ _ _ _ (p3 w2 (w.heap.size + 1) (.int .i64 T') (.int .i64 R') (.bool O'))
    generalize p3 w2 (w.heap.size + 1) (.int .i64 T') (.int .i64 R') (.bool O') = WW at e0 e1 e2 nf ⊢
    exact bodyPost_ret (v := .agg #[.int .i64 T', .int .i64 R', .bool O']) (by simp [results, Try.results18, go_sem, e0, e1, e2]) rfl ⟨rfl, nf⟩
theorem index_do6 (w : World) : (Instr.index 49 doV (.int .i64 6)).run Try.prog w = .ok (Value.func (Fn.func 27) #[] #[]) w := by kernel_rfl
theorem cf_restart : ∀ args w, (callFunc 27 args).run Try.prog w = .ok (.enter 27 args) w := hcf _ _ Try.func27 (by rfl) (by decide +kernel)
set_option maxHeartbeats 2000000 in
set_option maxRecDepth 100000 in
theorem fbehind6 (T R : Int) (O : Bool) (T' R' : Int) (O' : Bool) (w : World) (hO : O = true → (6 : Int) = 6)
    (hF : ∀ w', Calls Try.prog 27 #[.agg #[.int .i64 T, .int .i64 R, .bool O]] w' fun e w'' => e = .returned (.agg #[.int .i64 T', .int .i64 R', .bool O']) ∧ Nb w' w'') :
    Calls Try.prog 18 #[.agg #[.int .i64 T, .int .i64 R, .bool O], .int .i64 6] w fun e w' => e = .returned (.agg #[.int .i64 T', .int .i64 R', .bool O']) ∧ Nb w w' := by
  have HF := Lib.hid hF
  have HD := Lib.hid doings_any
  have hix := index_do6
  have hcf := cf_restart
  clear hF
  obtain ⟨w0, hw0⟩ : ∃ w0, w0 = (w.alloc (.cells #[.int .i64 T, .int .i64 R, .bool O] 25)).alloc (.cells #[.int .i64 0, .int .i64 0, .bool false] 25) := ⟨_, rfl⟩
  have HQ := Lib.hid (show Blk w0 w.heap.size #[.int .i64 T, .int .i64 R, .bool O] 25 by rw [hw0]; exact (Blk.new _ _ _).nb (Nb.rfl.al _))
  have HZ := Lib.hid (show Blk w0 (w.heap.size + 1) #[.int .i64 0, .int .i64 0, .bool false] 25 by
    rw [hw0]
    have := Blk.new (w.alloc (.cells #[.int .i64 T, .int .i64 R, .bool O] 25)) #[.int .i64 0, .int .i64 0, .bool false] 25
    rw [World.size_alloc] at this
    exact this)
  have N0 := Lib.hid (show Nb w w0 by rw [hw0]; exact (Nb.rfl.al _).al _)
  have HW := Lib.hid hw0
  clear hw0
  cases O
  all_goals first | (exfalso; have := hO rfl; omega) | skip
  all_goals clear hO
  all_goals go_enter Try.func18, Try.ntmps18
  all_goals go_wp2_with fail
  all_goals rw [← HW.out]
  all_goals obtain ⟨l0, c0, c1, c2, _, _, _⟩ := blk3 HQ.out
  all_goals obtain ⟨l1, x0, x1, x2, y0, y1, y2⟩ := blk3 HZ.out
  all_goals have NB : Hid (Nb w0 w0.drew) := Lib.hid (Nb.drewN w0 1)
  all_goals go_region_with (first
    | (go_at_call 21
       refine (HD.out _).mono ?_
       rintro e w1 ⟨rfl, n1⟩
       have NB := Lib.hid (NB.out.tr n1)
       obtain ⟨l0, c0, c1, c2, _, _, _⟩ := blk3 (HQ.out.nb NB.out)
       obtain ⟨l1, x0, x1, x2, y0, y1, y2⟩ := blk3 (HZ.out.nb NB.out)
       clear n1)
    | (go_at_call 27
       refine (HF.out _).mono ?_
       rintro e w2 ⟨rfl, n2⟩
       have NB := Lib.hid (NB.out.tr n2)
       obtain ⟨l1, x0, x1, x2, y0, y1, y2⟩ := blk3 (HZ.out.nb NB.out)
       clear n2))
  all_goals
    obtain ⟨e0, e1, e2⟩ := p3_cells (.int .i64 T') (.int .i64 R') (.bool O') (HZ.out.nb NB.out)
    have nf := p3_nb (N0.out.tr NB.out) (b := w.heap.size + 1) (by omega) (.int .i64 T') (.int .i64 R') (.bool O')
    go_wp2
    change bodyPost _ _ _ _ _ (p3 w2 (w.heap.size + 1) (.int .i64 T') (.int .i64 R') (.bool O'))
    generalize p3 w2 (w.heap.size + 1) (.int .i64 T') (.int .i64 R') (.bool O') = WW at e0 e1 e2 nf ⊢
    exact bodyPost_ret (v := .agg #[.int .i64 T', .int .i64 R', .bool O']) (by simp [results, Try.results18, go_sem, e0, e1, e2]) rfl ⟨rfl, nf⟩
set_option maxHeartbeats 800000 in
set_option maxRecDepth 100000 in
theorem fbehind0 (T R : Int) (e : Int) (w : World) (he : e ≠ 6) : Calls Try.prog 18 #[.agg #[.int .i64 T, .int .i64 R, .bool true], .int .i64 e] w fun en w' => en = .returned (.agg #[.int .i64 T, .int .i64 R, .bool true]) ∧ Nb w w' := by
  have d6 : (e == 6) = false := by rw [beq_eq_false_iff_ne]; exact he
  have d6' : (e != 6) = true := by rw [bne_iff_ne]; exact he
  clear he
  go_enter Try.func18, Try.ntmps18
  go_wp2
  exact bodyPost_ret (v := .agg #[.int .i64 T, .int .i64 R, .bool true]) (by simp [results, Try.results18, go_sem]) rfl ⟨rfl, (Nb.rfl.al _).al _⟩

theorem fbehind_any (s : Fa) (e : Int) (w : World) (h : okFa s = true) (he : evOk e = true) : Calls Try.prog 18 #[.agg s.cs, .int .i64 e] w fun en w' => en = .returned (.agg (doFa s e).cs) ∧ Nb w w' := by
  obtain ⟨h1, h2, h3, h4, h5⟩ := (okFa_iff s).1 h
  obtain ⟨g1, g2⟩ := (evOk_iff e).1 he
  obtain ⟨T, R, O⟩ := s
  simp only at h1 h2 h3 h4 h5
  by_cases h6 : e = 6
  · subst h6
    have hF := fun w' => frestart_any T R O w'
    cases O
    · rw [show doFa ⟨T, R, false⟩ 6 = ⟨T, R, false⟩ by simp [doFa]]
      exact fbehind6 T R false T R false w (fun _ => rfl) hF
    · rw [show doFa ⟨T, R, true⟩ 6 = ⟨0, 0, false⟩ by simp [doFa, Fa.zero]]
      exact fbehind6 T R true 0 0 false w (fun _ => rfl) hF
  cases O with
  | true =>
    rw [show doFa ⟨T, R, true⟩ e = ⟨T, R, true⟩ by simp [doFa, h6]]
    exact fbehind0 T R e w h6
  | false =>
    have hT : T ≤ 255 := by
      have : ¬ 255 < T := by simpa using h5.symm
      omega
    have hO : (false : Bool) = true → (e : Int) = 6 := fun h => by cases h
    rcases (by omega : e = 1 ∨ e = 2 ∨ e = 3 ∨ e = 4 ∨ e = 5) with rfl | rfl | rfl | rfl | rfl
    · rw [show doFa ⟨T, R, false⟩ 1 = ⟨max (T - 1) 0, R, false⟩ by simp [doFa, Int.max_comm]]
      exact fbehind1 T R false _ _ _ w hO (fun w' => fsent_any T R false w' h1 h2)
    · rw [show doFa ⟨T, R, false⟩ 2 = ⟨T, if 127 < R then 120 else max (R - 1) 0, false⟩ by simp [doFa, Int.max_comm]]
      exact fbehind2 T R false _ _ _ w hO (fun w' => fgot_any T R false w' h3 h4)
    · rw [show doFa ⟨T, R, false⟩ 3 = ⟨T + 8, R, decide (255 < T + 8)⟩ by simp [doFa]]
      exact fbehind3 T R false _ _ _ w hO (fun w' => fsendError_any T R false w' h1 h2)
    · rw [show doFa ⟨T, R, false⟩ 4 = ⟨T, min (R + 1) 255, false⟩ by simp [doFa, Int.min_comm]]
      exact fbehind4 T R false _ _ _ w hO (fun w' => fgetError_any T R false w' h3 h4)
    · exact fbehind5 T R false _ _ _ w hO (fun w' => funheard_any T R w' h1 hT)
end Go.Proofs.Ytahemoakehbchaa
