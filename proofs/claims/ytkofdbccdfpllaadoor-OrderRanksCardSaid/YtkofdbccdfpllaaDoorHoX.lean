
/- Package heaps: the first one, and it taken. Condition: at most a thousand. -/
import Derived.Test.YtkofdbccdfpllaaDoorHoW
namespace Go.Proofs.YtkofdbccdfpllaaDoor
set_option linter.unusedVariables false
set_option linter.unusedSimpArgs false
open Go.RowKit Go.Sort

theorem Blk.rowH {w : World} {R : Nat} {cs : Array Value} {t : TypeId} (h : Blk w R cs t) (cs' : Array Value) : Blk (w.setRow R cs') R cs' t := setRow_heap w R cs cs' t (0, 0) h
theorem Kp.rowH (w : World) (R : Nat) (cs' : Array Value) : Kp (fun b => b = R) w (w.setRow R cs') :=
  ⟨setRow_os w R cs', setRow_tape w R cs', setRow_output w R cs', by rw [setRow_size]; exact Nat.le_refl _, fun k _ hn => setRow_other w R k cs' hn⟩

set_option maxHeartbeats 800000 in
theorem wfirstP_none (R : Nat) (v : Value) (w : World) (h : HeP w R v []) :
    Calls Tryd.prog 20 #[.pointer (some ⟨R, 0, none⟩)] w fun e w' => e = .returned (.tuple #[.agg #[.int .u64 0, .int .i64 0], .bool false]) ∧ Nb w w' := by
  have HL := Lib.hid (fun w' (n : Nb w w') => wlenP_any R v [] w' (h.nb n))
  clear h
  simp only [List.length_nil] at HL
  go_enter Tryd.func20, Tryd.ntmps20
  go_wp2_with fail
  refine (HL.out _ (Nb.rfl.al _)).mono ?_
  rintro e w1 ⟨rfl, rfl⟩
  go_wp2
  refine bodyPost_ret (v := .tuple #[.agg #[.int .u64 0, .int .i64 0], .bool false]) (by simp [results, Tryd.results20, go_sem]) rfl ?_
  exact ⟨rfl, (Nb.rfl.al _).al _⟩

set_option maxHeartbeats 1600000 in
set_option maxRecDepth 100000 in
theorem wfirstP_some (R : Nat) (v : Value) (l : List (Nat × Nat)) (n : Nat) (w : World) (h : HeP w R v l) (hn : l.length = n + 1) (hl : l.length ≤ 1000) :
    Calls Tryd.prog 20 #[.pointer (some ⟨R, 0, none⟩)] w fun e w' => e = .returned (.tuple #[.agg (enP (l.getD 0 d0)).toArray, .bool true]) ∧ Nb w w' := by
  have HL := Lib.hid (fun w' (n : Nb w w') => wlenP_any R v l w' (h.nb n))
  obtain ⟨g, cap, rfl, hr, hgR, hn1, hn2⟩ := h.row (by omega)
  have mc := h.blk.cell 0
  simp only [List.getElem?_toArray, List.getElem?_cons_zero, List.getElem?_cons_succ] at mc
  have hRl := h.blk.lt
  have hgl := hr.lt
  obtain ⟨p, hp⟩ : ∃ q, l.getD 0 d0 = q := ⟨_, rfl⟩
  rw [hp]
  obtain ⟨xk, xn⟩ := p
  obtain ⟨⟨ma0, ma1⟩, -⟩ := hr.at (by omega) hp
  simp only [enP]
  simp only [Nat.zero_mul, Nat.zero_add] at ma0 ma1
  rw [hn] at HL mc
  clear h hr hp hn1
  rw [hn] at hl
  go_enter Tryd.func20, Tryd.ntmps20
  go_wp2_with fail
  refine (HL.out _ (Nb.rfl.al _)).mono ?_
  rintro e w1 ⟨rfl, rfl⟩
  have d1 : (((n + 1 : Nat) : Int) == 0) = false := by simp; omega
  go_wp2
  refine bodyPost_ret (v := .tuple #[.agg #[(.int .u64 ((xk : Nat) : Int)), (.int .i64 ((xn : Nat) : Int))], .bool true]) (by simp [results, Tryd.results20, go_sem]) rfl ?_
  exact ⟨rfl, Nb.rfl.al _⟩

set_option maxHeartbeats 800000 in
theorem wtakeP_none (R : Nat) (v : Value) (w : World) (h : HeP w R v []) :
    Calls Tryd.prog 13 #[.pointer (some ⟨R, 0, none⟩)] w fun e w' => e = .returned (.tuple #[.agg #[.int .u64 0, .int .i64 0], .bool false]) ∧ Nb w w' := by
  have HL := Lib.hid (fun w' (n : Nb w w') => wfirstP_none R v w' (h.nb n))
  clear h
  obtain ⟨y, hy⟩ : ∃ y, y = w.alloc (.cells #[.int .u64 0, .int .i64 0] 48) := ⟨_, rfl⟩
  have X0 := Lib.hid (show Blk y w.heap.size #[.int .u64 0, .int .i64 0] 48 by rw [hy]; exact Blk.new _ _ _)
  have NY := Lib.hid (show Nb w y by rw [hy]; exact Nb.rfl.al _)
  have HY := Lib.hid hy
  clear hy
  go_enter Tryd.func13, Tryd.ntmps13
  go_wp2_with fail
  rw [← HY.out]
  refine (HL.out _ NY.out).mono ?_
  rintro e w1 ⟨rfl, n1⟩
  have X2 := Lib.hid ((X0.out.nb n1).nb (Nb.rfl.al (.cells #[.int .u64 0, .int .i64 0] 48)))
  have N1 := Lib.hid ((NY.out.tr n1).al (.cells #[.int .u64 0, .int .i64 0] 48))
  clear n1
  go_wp2_with (refine wpList_store_row (by rfl) _ _ _ (by rfl) _ _ (by rfl) (by rfl) _ _ X2.out (by kernel_rfl) (by rfl) (by simp [Value.oneCell']) ?_)
  have hb := Blk.rowH X2.out #[.int .u64 0, .int .i64 0]
  have kq := Kp.rowH (w1.alloc (.cells #[.int .u64 0, .int .i64 0] 48)) w.heap.size #[.int .u64 0, .int .i64 0]
  change bodyPost _ _ _ _ _ (World.setRow (w1.alloc (.cells #[.int .u64 0, .int .i64 0] 48)) w.heap.size #[.int .u64 0, .int .i64 0])
  generalize World.setRow (w1.alloc (.cells #[.int .u64 0, .int .i64 0] 48)) w.heap.size #[.int .u64 0, .int .i64 0] = WW at hb kq ⊢
  obtain ⟨e0, e1⟩ : WW.cell? ⟨w.heap.size, 0, none⟩ = some (.int .u64 0) ∧ WW.cell? ⟨w.heap.size, 1, none⟩ = some (.int .i64 0) := ⟨hb.cell 0, hb.cell 1⟩
  exact bodyPost_ret (v := .tuple #[.agg #[.int .u64 0, .int .i64 0], .bool false]) (by simp [results, Tryd.results13, go_sem, e0, e1]) rfl ⟨rfl, N1.out.trans (kq.toBelow N1.out.size (fun k hk => by omega))⟩

set_option maxHeartbeats 1600000 in
set_option maxRecDepth 100000 in
theorem wtakeP_some (R : Nat) (v : Value) (l : List (Nat × Nat)) (n : Nat) (w : World) (h : HeP w R v l) (hn : l.length = n + 1) (hl : l.length ≤ 1000) (hh : HeQ d0 id allQ l l.length) :
    Calls Tryd.prog 13 #[.pointer (some ⟨R, 0, none⟩)] w fun e w' => e = .returned (.tuple #[.agg (enP (l.getD 0 d0)).toArray, .bool true]) ∧ ∃ v' l', TookP w w' R v l (l.getD 0 d0) n v' l' := by
  have HF := Lib.hid (fun w' (m : Nb w w') => wfirstP_some R v l n w' (h.nb m) hn hl)
  have HP := Lib.hid (fun w' (m : Nb w w') => hhpopP_any R v l n w' (h.nb m) hn hl hh)
  have hRl := h.blk.lt
  have hgl := fun g (e : v.ownBlock = some g) => h.own.lt e
  have NR := Lib.hid (show ∀ k, (k = R ∨ v.ownBlock = some k) → k < w.heap.size from fun k e => e.elim (fun e => by rw [e]; exact hRl) (hgl k))
  have TK := Lib.hid (show ∀ w1 w2 v' l', Nb w w1 → TookP w1 w2 R v l (l.getD 0 d0) n v' l' → ∀ w3, Kp (fun k => k = w.heap.size) w2 w3 → TookP w w3 R v l (l.getD 0 d0) n v' l' from fun w1 w2 v' l' m t w3 k => by
    have ho : ∀ g, v'.ownBlock = some g → g < w.heap.size := fun g e => NR.out g (.inr (by rw [← t.own]; exact e))
    refine ⟨t.at'.keep k (fun e => by omega) (fun g e q => by have := ho g e; omega), t.len, t.perm, t.heap, t.own, ?_⟩
    exact ((Kp.ofNb m).tr t.kp (fun k e => .inl e)).tr k (fun k e => .inr (by omega)))
  clear h hRl hgl
  obtain ⟨p, hp⟩ : ∃ q, l.getD 0 d0 = q := ⟨_, rfl⟩
  rw [hp] at HF HP TK ⊢
  clear hp
  obtain ⟨xk, xn⟩ := p
  simp only [enP] at HF HP ⊢
  obtain ⟨y, hy⟩ : ∃ y, y = w.alloc (.cells #[.int .u64 0, .int .i64 0] 48) := ⟨_, rfl⟩
  have X0 := Lib.hid (show Blk y w.heap.size #[.int .u64 0, .int .i64 0] 48 by rw [hy]; exact Blk.new _ _ _)
  have NY := Lib.hid (show Nb w y by rw [hy]; exact Nb.rfl.al _)
  have HY := Lib.hid hy
  have SY := Lib.hid (show y.heap.size = w.heap.size + 1 by rw [hy, World.size_alloc])
  clear hy
  go_enter Tryd.func13, Tryd.ntmps13
  go_wp2_with fail
  rw [← HY.out]
  refine (HF.out _ NY.out).mono ?_
  rintro e w1 ⟨rfl, n1⟩
  go_wp2_with fail
  obtain ⟨y1, hy1⟩ : ∃ y1, y1 = w1.alloc (.cells #[(.int .u64 ((xk : Nat) : Int)), (.int .i64 ((xn : Nat) : Int))] 48) := ⟨_, rfl⟩
  have X1 := Lib.hid (show Blk y1 w1.heap.size #[(.int .u64 ((xk : Nat) : Int)), (.int .i64 ((xn : Nat) : Int))] 48 by rw [hy1]; exact Blk.new _ _ _)
  have N1 := Lib.hid (show Nb y y1 by rw [hy1]; exact n1.al _)
  have S1 := Lib.hid (show w.heap.size + 1 ≤ w1.heap.size by rw [← SY.out]; exact n1.size)
  rw [← hy1]
  clear hy1 n1
  refine (HP.out _ (NY.out.tr N1.out)).mono ?_
  rintro e w2 ⟨rfl, v2, l2, t2⟩
  have T2 := Lib.hid t2
  have X2 := Lib.hid ((X0.out.nb N1.out).keep t2.kp (fun e => by have := NR.out _ e; omega))
  have X3 := Lib.hid (X1.out.keep t2.kp (fun e => by have := NR.out _ e; have := S1.out; omega))
  clear t2
  obtain ⟨b0, b1⟩ : w2.cell? ⟨w1.heap.size, 0, none⟩ = some (.int .u64 ((xk : Nat) : Int)) ∧ w2.cell? ⟨w1.heap.size, 1, none⟩ = some (.int .i64 ((xn : Nat) : Int)) := ⟨X3.out.cell 0, X3.out.cell 1⟩
  go_wp2_with (refine wpList_store_row (by rfl) _ _ _ (by rfl) _ _ (by rfl) (by rfl) _ _ X2.out (by kernel_rfl) (by rfl) (by simp [Value.oneCell']) ?_)
  clear b0 b1
  have hb := Blk.rowH X2.out #[(.int .u64 ((xk : Nat) : Int)), (.int .i64 ((xn : Nat) : Int))]
  have kq := Kp.rowH w2 w.heap.size #[(.int .u64 ((xk : Nat) : Int)), (.int .i64 ((xn : Nat) : Int))]
  change bodyPost _ _ _ _ _ (World.setRow w2 w.heap.size #[(.int .u64 ((xk : Nat) : Int)), (.int .i64 ((xn : Nat) : Int))])
  generalize World.setRow w2 w.heap.size #[(.int .u64 ((xk : Nat) : Int)), (.int .i64 ((xn : Nat) : Int))] = WW at hb kq ⊢
  obtain ⟨e0, e1⟩ : WW.cell? ⟨w.heap.size, 0, none⟩ = some (.int .u64 ((xk : Nat) : Int)) ∧ WW.cell? ⟨w.heap.size, 1, none⟩ = some (.int .i64 ((xn : Nat) : Int)) := ⟨hb.cell 0, hb.cell 1⟩
  exact bodyPost_ret (v := .tuple #[.agg #[(.int .u64 ((xk : Nat) : Int)), (.int .i64 ((xn : Nat) : Int))], .bool true]) (by simp [results, Tryd.results13, go_sem, e0, e1]) rfl ⟨rfl, v2, l2, TK.out _ _ _ _ (NY.out.tr N1.out) T2.out _ kq⟩
end Go.Proofs.YtkofdbccdfpllaaDoor
