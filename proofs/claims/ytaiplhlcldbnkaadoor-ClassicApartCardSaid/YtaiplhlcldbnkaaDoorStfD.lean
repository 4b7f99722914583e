
/- Contracts of package stuff's read and readAll. Condition: at most 65,536 bits are wanted, or as many as the row has. -/
import Derived.Test.YtaiplhlcldbnkaaDoorStfR
namespace Go.Proofs.YtaiplhlcldbnkaaDoor
set_option linter.unusedVariables false
set_option linter.unusedSimpArgs false
open Go.RowKit

/-- A reader's value. -/
def rdV (pre : List Nat) (n : Nat) (v : Value) (st : Bool) : Value := .agg #[.int .u8 (runS pre).1, .int .i64 (runS pre).2, .int .i64 n, v, .bool st, .bool false]
def rdZ : Value := .agg #[.int .u8 0, .int .i64 0, .int .i64 0, .slice none 0 0, .bool false, .bool false]

theorem RdStep.foot {w0 w w' : World} {R n : Nat} {v : Value} {pre : List Nat} {st wr : Bool} (h : RdStep w R n v pre st wr w') (hnb : Nb w0 w) (hf : ∀ j, (j = R ∨ v.ownBlock = some j) → w0.heap.size ≤ j) :
    (∃ v', RdAt w' R n v' pre st wr ∧ ∀ j, (j = R ∨ v'.ownBlock = some j) → w0.heap.size ≤ j) ∧ Nb w0 w' := by
  obtain ⟨v', ha, hk, hf'⟩ := h
  refine ⟨⟨v', ha, fun j hj => ?_⟩, hnb.trans (hk.toBelow hnb.size hf)⟩
  rcases hf' j hj with h1 | h1
  · exact hf j h1
  · exact Nat.le_trans hnb.size h1

/-- Six cells of a block stored. -/
def put6 (w : World) (b : Nat) (v0 v1 v2 v3 v4 v5 : Value) : World := (((((w.setCell ⟨b, 0, none⟩ v0).setCell ⟨b, 1, none⟩ v1).setCell ⟨b, 2, none⟩ v2).setCell ⟨b, 3, none⟩ v3).setCell ⟨b, 4, none⟩ v4).setCell ⟨b, 5, none⟩ v5
theorem put6_blk {w : World} {b : Nat} {u0 u1 u2 u3 u4 u5 v0 v1 v2 v3 v4 v5 : Value} {t : TypeId} (h : Blk w b #[u0, u1, u2, u3, u4, u5] t) : Blk (put6 w b v0 v1 v2 v3 v4 v5) b #[v0, v1, v2, v3, v4, v5] t := by
  have := (((((h.set 0 v0).set 1 v1).set 2 v2).set 3 v3).set 4 v4).set 5 v5
  simpa [put6] using this
theorem put6_kp (w : World) (b : Nat) (v0 v1 v2 v3 v4 v5 : Value) : Kp (fun x => x = b) w (put6 w b v0 v1 v2 v3 v4 v5) := by
  unfold put6
  iterate 6 refine Kp.tr (F' := fun x => x = b) ?_ (Kp.set rfl) (fun k h => .inl h)
  exact Kp.rfl
theorem put6_nb {w0 w : World} {b : Nat} (h : Nb w0 w) (hb : w0.heap.size ≤ b) (v0 v1 v2 v3 v4 v5 : Value) : Nb w0 (put6 w b v0 v1 v2 v3 v4 v5) :=
  h.trans ((put6_kp w b v0 v1 v2 v3 v4 v5).toBelow h.size (fun k hk => by omega))

/-- What the reader is while the row is gone through. -/
def RdI (w0 : World) (R n : Nat) (l : List Nat) (k : Nat) (w : World) : Prop :=
  ((∃ v, RdAt w R n v (l.take k) (lastS (l.take k)) false ∧ ∀ j, (j = R ∨ v.ownBlock = some j) → w0.heap.size ≤ j) ∧ Nb w0 w) ∧ readG n [] l = readG n (l.take k) (l.drop k) ∧ okS (l.take k) = true
def RdJ (w0 : World) (R n : Nat) (l : List Nat) (k : Nat) (w : World) : Prop :=
  (((∃ v, RdAt w R n v (l.take k) (lastS (l.take k)) false ∧ ∀ j, (j = R ∨ v.ownBlock = some j) → w0.heap.size ≤ j) ∧ Nb w0 w) ∧ readG n [] l = (l.take k, false)) ∨
  (((∃ v, RdAt w R n v (l.take k) true true ∧ ∀ j, (j = R ∨ v.ownBlock = some j) → w0.heap.size ≤ j) ∧ Nb w0 w) ∧ readG n [] l = (l.take k, true))

theorem rd_round (w0 : World) (R n : Nat) (l : List Nat) (hbit : ∀ x ∈ l, x ≤ 1) (hlen : l.length ≤ 65536) (k x : Nat) (w : World) (h : RdI w0 R n l k w) (hx : l[k]? = some x) :
    Calls Tryd.prog 60 #[.pointer (some ⟨R, 0, none⟩), .int .u8 (x : Int)] w fun e w' => (e = .returned (.bool true) ∧ RdI w0 R n l (k + 1) w') ∨ (e = .returned (.bool false) ∧ RdJ w0 R n l k w') := by
  obtain ⟨⟨⟨v, ha, hf⟩, hnb⟩, hG, hok⟩ := h
  have hk : k < l.length := (List.getElem?_eq_some_iff.1 hx).1
  have hbT : ∀ y ∈ l.take k, y ≤ 1 := fun y hy => hbit y (List.mem_of_mem_take hy)
  have hx1 := hbit x (List.mem_of_getElem? hx)
  have hlT : (l.take k).length < 70368744170000 := by rw [List.length_take]; omega
  have hr := okS_run hok
  have hdr : l.drop k = x :: l.drop (k + 1) := by
    rw [List.drop_eq_getElem_cons hk]
    congr 1
    rw [List.getElem?_eq_getElem hk] at hx
    exact Option.some.inj hx
  have htk := take_snoc' hx
  rw [hdr] at hG
  by_cases he : (tell (l.take k)).length = n
  · rw [readG, if_pos he] at hG
    refine (rdtake_end R n v _ _ _ x w ha hx1 hlT he).mono ?_
    rintro e w' ⟨rfl, hs⟩
    exact .inr ⟨rfl, .inl ⟨hs.foot hnb hf, hG⟩⟩
  · rw [readG, if_neg he] at hG
    cases hfl : full (l.take k) with
    | false =>
      rw [hfl, Bool.false_and, if_neg (by simp)] at hG
      refine (rdtake_plain R n v _ _ x w ha hx1 hr hlT he hfl).mono ?_
      rintro e w' ⟨rfl, hs⟩
      refine .inl ⟨rfl, ?_, ?_, ?_⟩
      · rw [htk, lastS_snoc, hfl]
        exact hs.foot hnb hf
      · rw [htk]; exact hG
      · rw [htk, okS_snoc, hok, hfl]; rfl
    | true =>
      by_cases hxl : x = lastB (l.take k)
      · rw [hfl, Bool.true_and, if_pos (by rw [beq_iff_eq]; exact hxl)] at hG
        refine (rdtake_bad R n v _ _ x w ha hx1 hr hlT he hfl hxl).mono ?_
        rintro e w' ⟨rfl, hs⟩
        exact .inr ⟨rfl, .inr ⟨hs.foot hnb hf, hG⟩⟩
      · have hb : (x == lastB (l.take k)) = false := by rw [beq_eq_false_iff_ne]; exact hxl
        rw [hfl, Bool.true_and, hb, if_neg (by simp)] at hG
        refine (rdtake_stuff R n v _ _ x w ha hx1 hr hlT he hfl hxl).mono ?_
        rintro e w' ⟨rfl, hs⟩
        refine .inl ⟨rfl, ?_, ?_, ?_⟩
        · rw [htk, lastS_snoc, hfl]
          exact hs.foot hnb hf
        · rw [htk]; exact hG
        · rw [htk, okS_snoc, hok, hfl, hb]; rfl

set_option maxHeartbeats 1600000 in
set_option maxRecDepth 100000 in
theorem read_bad (a : Option Addr) (cap : Nat) (l : List Nat) (n : Nat) (w : World) (h : Bs w a cap l) (hc : chk l = false) :
    Calls Tryd.prog 41 #[.slice a l.length cap, .int .i64 n] w fun e w' => e = .returned (.tuple #[rdZ, .int .i64 0, .int .i64 2]) ∧ Nb w w' := by
  have HC := Lib.hid hc
  have H := Lib.hid h
  clear h hc
  go_enter Tryd.func41, Tryd.ntmps41
  go_wp2_with fail
  refine (check_bad a cap l _ (H.out.below (Nb.rfl.al _)) HC.out).mono ?_
  rintro e w' ⟨rfl, rfl⟩
  go_wp2
  refine bodyPost_ret (v := .tuple #[rdZ, .int .i64 0, .int .i64 2]) (by simp [results, Tryd.results41, go_sem, rdZ]) rfl ⟨rfl, Nb.rfl.al _⟩

set_option maxHeartbeats 1600000 in
set_option maxRecDepth 100000 in
theorem read_wrong (a : Option Addr) (cap : Nat) (l : List Nat) (n : Nat) (w : World) (h : Bs w a cap l) (hc : chk l = true) (hn : n ≤ 65536) (hG : (readG n [] l).2 = true) :
    Calls Tryd.prog 41 #[.slice a l.length cap, .int .i64 n] w fun e w' => e = .returned (.tuple #[rdZ, .int .i64 0, .int .i64 4]) ∧ Nb w w' := by
  have hL := h.len
  have hlen := chk_len hc
  have hbit := Lib.hid (chk_bit hc)
  have HC := Lib.hid hc
  have H := Lib.hid h
  have HG := Lib.hid hG
  obtain ⟨M, hM⟩ : ∃ M, M = min n l.length := ⟨_, rfl⟩
  have hM2 : M ≤ 65536 := by omega
  have hmin : ∀ ts t w, (Builtin.min_ ts t #[.int .i64 n, .int .i64 l.length]).run Tryd.prog w = .ok (.int .i64 M) w := fun ts t w => by
    rw [run_min2, show min (n : Int) (l.length : Int) = (M : Int) from by omega]
  have hmf : ∀ (fn : Fn) (first cap : Array Value) (w : World), (Instr.makeFunc fn first cap).run Tryd.prog w = .ok (.func fn first cap) w := fun _ _ _ _ => rfl
  have hm : ∀ w, (Instr.makeSlice 23 (.int .i64 0) (.int .i64 (M : Int))).run Tryd.prog w = .ok (.slice (some ⟨w.heap.size, 0, none⟩) 0 M) (w.alloc (.cells (madeCells #[.int .u8 0] M) 5)) := fun w => run_makeB w _ (by omega)
  obtain ⟨w1, hw1⟩ : ∃ w1, w1 = w.alloc (.cells #[.int .u8 0, .int .i64 0, .int .i64 0, .slice none 0 0, .bool false, .bool false] 68) := ⟨_, rfl⟩
  have hs1 : w1.heap.size = w.heap.size + 1 := by rw [hw1]; simp
  have nb1 : Nb w w1 := by rw [hw1]; exact Nb.rfl.al _
  have hZ : Blk w1 w.heap.size #[.int .u8 0, .int .i64 0, .int .i64 0, .slice none 0 0, .bool false, .bool false] 68 := by rw [hw1]; exact Blk.new _ _ _
  have hmade := OwnB.made w1 M (by omega)
  have hs2 : (w1.alloc (.cells (madeCells #[.int .u8 0] M) 5)).heap.size = w.heap.size + 1 + 1 := by simp [hs1]
  have hat0 : RdI w1 (w.heap.size + 1 + 1) n l 0 ((w1.alloc (.cells (madeCells #[.int .u8 0] M) 5)).alloc (.cells #[.int .u8 0, .int .i64 0, .int .i64 n, .slice (some ⟨w.heap.size + 1, 0, none⟩) 0 M, .bool false, .bool false] 68)) := by
    refine ⟨⟨⟨.slice (some ⟨w.heap.size + 1, 0, none⟩) 0 M, ⟨?_, ?_, by simp [Value.ownBlock]⟩, ?_⟩, (Nb.rfl.al _).al _⟩, rfl, rfl⟩
    · have := Blk.new (w1.alloc (.cells (madeCells #[.int .u8 0] M) 5)) #[.int .u8 0, .int .i64 0, .int .i64 n, .slice (some ⟨w.heap.size + 1, 0, none⟩) 0 M, .bool false, .bool false] 68
      rw [hs2] at this
      exact this
    · rw [hs1] at hmade
      exact hmade.keep (Kp.alloc (F := fun _ => False)) (by simp)
    · rintro j (rfl | hj)
      · omega
      · simp [Value.ownBlock] at hj
        omega
  have HI := Lib.hid hat0
  have HZ := Lib.hid hZ
  clear h hc hG hM hat0 hmade hZ
  go_enter Tryd.func41, Tryd.ntmps41
  go_wp2_with fail
  refine (check_ok a cap l _ (H.out.below (Nb.rfl.al _)) HC.out).mono ?_
  rintro e w' ⟨rfl, rfl⟩
  go_wp2_with fail
  rw [← hw1]
  refine (steach_any 60 (.pointer (some ⟨w.heap.size + 1 + 1, 0, none⟩)) a cap l (RdI w1 (w.heap.size + 1 + 1) n l) (RdJ w1 (w.heap.size + 1 + 1) n l) _ hL HI.out (fun k wr hI => (H.out.below nb1).below hI.1.2) (hcf _ _ Tryd.func60 (by rfl) (by decide +kernel)) (fun k x wr hI hx => rd_round w1 _ n l hbit.out hlen k x wr hI hx)).mono ?_
  rintro e w2 ⟨k, rfl, hJ⟩
  have hR : ((∃ v, RdAt w2 (w.heap.size + 1 + 1) n v (l.take k) true true ∧ ∀ j, (j = w.heap.size + 1 + 1 ∨ v.ownBlock = some j) → w1.heap.size ≤ j) ∧ Nb w1 w2) := by
    have hg := HG.out
    rcases hJ with ⟨rfl, _, h2, _⟩ | ⟨_, ⟨_, h2⟩ | ⟨h1, _⟩⟩
    · rw [h2, List.drop_of_length_le (Nat.le_refl _), readG] at hg
      cases hg
    · rw [h2] at hg
      cases hg
    · exact h1
  obtain ⟨⟨v, ha, _⟩, hnb⟩ := hR
  have c5 : w2.cell? ⟨w.heap.size + 1 + 1, 5, none⟩ = some (.bool true) := ha.blk.cell 5
  have hZ2 := HZ.out.nb hnb
  have z0 : w2.cell? ⟨w.heap.size, 0, none⟩ = some (.int .u8 0) := hZ2.cell 0
  have z1 : w2.cell? ⟨w.heap.size, 1, none⟩ = some (.int .i64 0) := hZ2.cell 1
  have z2 : w2.cell? ⟨w.heap.size, 2, none⟩ = some (.int .i64 0) := hZ2.cell 2
  have z3 : w2.cell? ⟨w.heap.size, 3, none⟩ = some (.slice none 0 0) := hZ2.cell 3
  have z4 : w2.cell? ⟨w.heap.size, 4, none⟩ = some (.bool false) := hZ2.cell 4
  have z5 : w2.cell? ⟨w.heap.size, 5, none⟩ = some (.bool false) := hZ2.cell 5
  have y0 := hZ2.frozen 0
  have y1 := hZ2.frozen 1
  have y2 := hZ2.frozen 2
  have y3 := hZ2.frozen 3
  have y4 := hZ2.frozen 4
  have y5 := hZ2.frozen 5
  have nb2 := nb1.tr hnb
  clear hJ ha hw1 HI HZ hs1 hs2 hnb nb1
  have hB := put6_blk (v0 := .int .u8 0) (v1 := .int .i64 0) (v2 := .int .i64 0) (v3 := .slice none 0 0) (v4 := .bool false) (v5 := .bool false) hZ2
  have hnbW := put6_nb (b := w.heap.size) nb2 (Nat.le_refl _) (.int .u8 0) (.int .i64 0) (.int .i64 0) (.slice none 0 0) (.bool false) (.bool false)
  have HB := Lib.hid hB
  have HW := Lib.hid hnbW
  clear hB hnbW hZ2
  go_wp2
  change bodyPost _ _ _ _ _ (put6 w2 w.heap.size (.int .u8 0) (.int .i64 0) (.int .i64 0) (.slice none 0 0) (.bool false) (.bool false))
  generalize put6 w2 w.heap.size (.int .u8 0) (.int .i64 0) (.int .i64 0) (.slice none 0 0) (.bool false) (.bool false) = W at *
  have e0 : W.cell? ⟨w.heap.size, 0, none⟩ = _ := HB.out.cell 0
  have e1 : W.cell? ⟨w.heap.size, 1, none⟩ = _ := HB.out.cell 1
  have e2 : W.cell? ⟨w.heap.size, 2, none⟩ = _ := HB.out.cell 2
  have e3 : W.cell? ⟨w.heap.size, 3, none⟩ = _ := HB.out.cell 3
  have e4 : W.cell? ⟨w.heap.size, 4, none⟩ = _ := HB.out.cell 4
  have e5 : W.cell? ⟨w.heap.size, 5, none⟩ = _ := HB.out.cell 5
  exact bodyPost_ret (v := .tuple #[rdZ, .int .i64 0, .int .i64 4]) (by simp [results, Tryd.results41, go_sem, rdZ, e0, e1, e2, e3, e4, e5]) rfl ⟨rfl, HW.out⟩

set_option maxHeartbeats 1600000 in
set_option maxRecDepth 100000 in
theorem read_good (a : Option Addr) (cap : Nat) (l : List Nat) (n : Nat) (w : World) (h : Bs w a cap l) (hc : chk l = true) (hn : n ≤ 65536) (pre : List Nat) (hG : readG n [] l = (pre, false)) :
    Calls Tryd.prog 41 #[.slice a l.length cap, .int .i64 n] w fun e w' => (∃ a c, e = .returned (.tuple #[rdV pre n (.slice a (tell pre).length c) (lastS pre), .int .i64 pre.length, .int .i64 0]) ∧ Fresh w w' (.slice a (tell pre).length c) (tell pre)) ∧ Nb w w' := by
  have hL := h.len
  have hlen := chk_len hc
  have hbit := Lib.hid (chk_bit hc)
  have HC := Lib.hid hc
  have H := Lib.hid h
  have HG := Lib.hid hG
  obtain ⟨M, hM⟩ : ∃ M, M = min n l.length := ⟨_, rfl⟩
  have hM2 : M ≤ 65536 := by omega
  have hmin : ∀ ts t w, (Builtin.min_ ts t #[.int .i64 n, .int .i64 l.length]).run Tryd.prog w = .ok (.int .i64 M) w := fun ts t w => by
    rw [run_min2, show min (n : Int) (l.length : Int) = (M : Int) from by omega]
  have hmf : ∀ (fn : Fn) (first cap : Array Value) (w : World), (Instr.makeFunc fn first cap).run Tryd.prog w = .ok (.func fn first cap) w := fun _ _ _ _ => rfl
  have hm : ∀ w, (Instr.makeSlice 23 (.int .i64 0) (.int .i64 (M : Int))).run Tryd.prog w = .ok (.slice (some ⟨w.heap.size, 0, none⟩) 0 M) (w.alloc (.cells (madeCells #[.int .u8 0] M) 5)) := fun w => run_makeB w _ (by omega)
  obtain ⟨w1, hw1⟩ : ∃ w1, w1 = w.alloc (.cells #[.int .u8 0, .int .i64 0, .int .i64 0, .slice none 0 0, .bool false, .bool false] 68) := ⟨_, rfl⟩
  have hs1 : w1.heap.size = w.heap.size + 1 := by rw [hw1]; simp
  have nb1 : Nb w w1 := by rw [hw1]; exact Nb.rfl.al _
  have hZ : Blk w1 w.heap.size #[.int .u8 0, .int .i64 0, .int .i64 0, .slice none 0 0, .bool false, .bool false] 68 := by rw [hw1]; exact Blk.new _ _ _
  have hmade := OwnB.made w1 M (by omega)
  have hs2 : (w1.alloc (.cells (madeCells #[.int .u8 0] M) 5)).heap.size = w.heap.size + 1 + 1 := by simp [hs1]
  have hat0 : RdI w1 (w.heap.size + 1 + 1) n l 0 ((w1.alloc (.cells (madeCells #[.int .u8 0] M) 5)).alloc (.cells #[.int .u8 0, .int .i64 0, .int .i64 n, .slice (some ⟨w.heap.size + 1, 0, none⟩) 0 M, .bool false, .bool false] 68)) := by
    refine ⟨⟨⟨.slice (some ⟨w.heap.size + 1, 0, none⟩) 0 M, ⟨?_, ?_, by simp [Value.ownBlock]⟩, ?_⟩, (Nb.rfl.al _).al _⟩, rfl, rfl⟩
    · have := Blk.new (w1.alloc (.cells (madeCells #[.int .u8 0] M) 5)) #[.int .u8 0, .int .i64 0, .int .i64 n, .slice (some ⟨w.heap.size + 1, 0, none⟩) 0 M, .bool false, .bool false] 68
      rw [hs2] at this
      exact this
    · rw [hs1] at hmade
      exact hmade.keep (Kp.alloc (F := fun _ => False)) (by simp)
    · rintro j (rfl | hj)
      · omega
      · simp [Value.ownBlock] at hj
        omega
  have HI := Lib.hid hat0
  have HZ := Lib.hid hZ
  clear h hc hG hM hat0 hmade hZ
  go_enter Tryd.func41, Tryd.ntmps41
  go_wp2_with fail
  refine (check_ok a cap l _ (H.out.below (Nb.rfl.al _)) HC.out).mono ?_
  rintro e w' ⟨rfl, rfl⟩
  go_wp2_with fail
  rw [← hw1]
  refine (steach_any 60 (.pointer (some ⟨w.heap.size + 1 + 1, 0, none⟩)) a cap l (RdI w1 (w.heap.size + 1 + 1) n l) (RdJ w1 (w.heap.size + 1 + 1) n l) _ hL HI.out (fun k wr hI => (H.out.below nb1).below hI.1.2) (hcf _ _ Tryd.func60 (by rfl) (by decide +kernel)) (fun k x wr hI hx => rd_round w1 _ n l hbit.out hlen k x wr hI hx)).mono ?_
  rintro e w2 ⟨k, rfl, hJ⟩
  have hR : ((∃ v, RdAt w2 (w.heap.size + 1 + 1) n v pre (lastS pre) false ∧ ∀ j, (j = w.heap.size + 1 + 1 ∨ v.ownBlock = some j) → w1.heap.size ≤ j) ∧ Nb w1 w2) ∧ pre.length = k := by
    have hg := HG.out
    rcases hJ with ⟨rfl, h1, h2, _⟩ | ⟨hk, ⟨h1, h2⟩ | ⟨_, h2⟩⟩
    · rw [h2, List.drop_of_length_le (Nat.le_refl _), readG] at hg
      simp only [Prod.mk.injEq, and_true] at hg
      rw [hg] at h1
      refine ⟨h1, ?_⟩
      rw [← hg, List.length_take]
      omega
    · rw [h2] at hg
      simp only [Prod.mk.injEq, and_true] at hg
      rw [hg] at h1
      refine ⟨h1, ?_⟩
      rw [← hg, List.length_take]
      omega
    · rw [h2] at hg
      simp only [Prod.mk.injEq] at hg
      exact absurd hg.2 (by simp)
  obtain ⟨⟨⟨v, ha, hfo⟩, hnb⟩, hpl⟩ := hR
  have c0 : w2.cell? ⟨w.heap.size + 1 + 1, 0, none⟩ = some (.int .u8 (runS pre).1) := ha.blk.cell 0
  have c1 : w2.cell? ⟨w.heap.size + 1 + 1, 1, none⟩ = some (.int .i64 (runS pre).2) := ha.blk.cell 1
  have c2 : w2.cell? ⟨w.heap.size + 1 + 1, 2, none⟩ = some (.int .i64 n) := ha.blk.cell 2
  have c3 : w2.cell? ⟨w.heap.size + 1 + 1, 3, none⟩ = some v := ha.blk.cell 3
  have c4 : w2.cell? ⟨w.heap.size + 1 + 1, 4, none⟩ = some (.bool (lastS pre)) := ha.blk.cell 4
  have c5 : w2.cell? ⟨w.heap.size + 1 + 1, 5, none⟩ = some (.bool false) := ha.blk.cell 5
  have hZ2 := HZ.out.nb hnb
  have z0 : w2.cell? ⟨w.heap.size, 0, none⟩ = some (.int .u8 0) := hZ2.cell 0
  have z1 : w2.cell? ⟨w.heap.size, 1, none⟩ = some (.int .i64 0) := hZ2.cell 1
  have z2 : w2.cell? ⟨w.heap.size, 2, none⟩ = some (.int .i64 0) := hZ2.cell 2
  have z3 : w2.cell? ⟨w.heap.size, 3, none⟩ = some (.slice none 0 0) := hZ2.cell 3
  have z4 : w2.cell? ⟨w.heap.size, 4, none⟩ = some (.bool false) := hZ2.cell 4
  have z5 : w2.cell? ⟨w.heap.size, 5, none⟩ = some (.bool false) := hZ2.cell 5
  have y0 := hZ2.frozen 0
  have y1 := hZ2.frozen 1
  have y2 := hZ2.frozen 2
  have y3 := hZ2.frozen 3
  have y4 := hZ2.frozen 4
  have y5 := hZ2.frozen 5
  have nb2 := nb1.tr hnb
  have hown := ha.own
  obtain ⟨a', c', rfl, _, _⟩ := hown.bs
  have hfr : ∀ w', Kp (fun x => x = w.heap.size) w2 w' → Fresh w w' (.slice a' (tell pre).length c') (tell pre) := fun w' hk =>
    ⟨hown.keep hk (fun g hg e => by have := hfo g (.inr hg); omega), fun g hg => by have := hfo g (.inr hg); omega⟩
  have HFr := Lib.hid hfr
  subst hpl
  clear hJ ha hw1 HI HZ hs1 hs2 hnb nb1 hown hfr hfo
  have hB := put6_blk (v0 := .int .u8 (runS pre).1) (v1 := .int .i64 (runS pre).2) (v2 := .int .i64 n) (v3 := .slice a' (tell pre).length c') (v4 := .bool (lastS pre)) (v5 := .bool false) hZ2
  have hnbW := put6_nb (b := w.heap.size) nb2 (Nat.le_refl _) (.int .u8 (runS pre).1) (.int .i64 (runS pre).2) (.int .i64 n) (.slice a' (tell pre).length c') (.bool (lastS pre)) (.bool false)
  have hkW := HFr.out _ (put6_kp w2 w.heap.size (.int .u8 (runS pre).1) (.int .i64 (runS pre).2) (.int .i64 n) (.slice a' (tell pre).length c') (.bool (lastS pre)) (.bool false))
  have HB := Lib.hid hB
  have HW := Lib.hid hnbW
  have HK := Lib.hid hkW
  clear hB hnbW hZ2 hkW HFr
  go_wp2
  change bodyPost _ _ _ _ _ (put6 w2 w.heap.size (.int .u8 (runS pre).1) (.int .i64 (runS pre).2) (.int .i64 n) (.slice a' (tell pre).length c') (.bool (lastS pre)) (.bool false))
  generalize put6 w2 w.heap.size (.int .u8 (runS pre).1) (.int .i64 (runS pre).2) (.int .i64 n) (.slice a' (tell pre).length c') (.bool (lastS pre)) (.bool false) = W at *
  have e0 : W.cell? ⟨w.heap.size, 0, none⟩ = _ := HB.out.cell 0
  have e1 : W.cell? ⟨w.heap.size, 1, none⟩ = _ := HB.out.cell 1
  have e2 : W.cell? ⟨w.heap.size, 2, none⟩ = _ := HB.out.cell 2
  have e3 : W.cell? ⟨w.heap.size, 3, none⟩ = _ := HB.out.cell 3
  have e4 : W.cell? ⟨w.heap.size, 4, none⟩ = _ := HB.out.cell 4
  have e5 : W.cell? ⟨w.heap.size, 5, none⟩ = _ := HB.out.cell 5
  exact bodyPost_ret (v := .tuple #[rdV pre n (.slice a' (tell pre).length c') (lastS pre), .int .i64 pre.length, .int .i64 0]) (by simp [results, Tryd.results41, go_sem, rdV, e0, e1, e2, e3, e4, e5]) rfl ⟨⟨_, _, rfl, HK.out⟩, HW.out⟩
end Go.Proofs.YtaiplhlcldbnkaaDoor
