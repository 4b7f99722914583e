
/- The law's own Wire of layer 9: any frame on the wire by the program's own packages. Condition: the tables of kinds and of longer sizes hold what the program's text lays there. -/
import Derived.Test.YtfcmoamooafomaaDoorScV
import Derived.Test.YtfcmoamooafomaaDoorXlX
import Derived.Test.YtfcmoamooafomaaDoorFdX
import Derived.Test.YtfcmoamooafomaaDoorClaW
namespace Go.Proofs.YtfcmoamooafomaaDoor
set_option linter.unusedVariables false
set_option linter.unusedSimpArgs false
open Go.RowKit

set_option maxHeartbeats 1600000 in
set_option maxRecDepth 100000 in
theorem wire9_two (f : Hd) (a : Option Addr) (cap : Nat) (l : List Nat) (w : World) (h : Bs w a cap l) (hW : WdX f) (hk : Kinds w) (hl : Longer w) (hK : f.K = 2) :
    Calls Tryd.prog 20 #[.agg (f.cs (.slice a l.length cap))] w fun e w' => AnsW w (wdC f l) (wArbD f l) (wAckD f l) (okDE f l) e w' ∧ Nb w w' := by
  have hL := h.len
  have hp := fun w' (n : Nb w w') => wire7_any f a cap l w' (h.below n) (hW.1) (hk.below n) (hl.below n)
  generalize wdC f l = Z at *
  generalize wArbD f l = N at *
  generalize wAckD f l = C at *
  generalize okDE f l = ER at *
  obtain ⟨K, I, X, R, B, E, S, D, V, A⟩ := f
  simp only at hK
  subst hK
  simp only [Hd.cs] at hp ⊢
  have HP := Lib.hid hp
  clear hp h hk hl hW
  go_enter Tryd.func20, Tryd.ntmps20
  go_wp2_with fail
  refine (HP.out _ ((Nb.rfl.al _).al _)).mono ?_
  rintro e w1 ⟨⟨a1, c1, rfl, f1⟩, n1⟩
  have m1 : Nb w w1 := ((Nb.rfl.al _).al _).tr n1
  have hx := (Blk.new (w.alloc (.cells #[.int .i64 2, .int .u32 I, .bool X, .bool R, .bool B, .bool E, .bool S, .int .u8 D, .int .u8 V, .int .u32 A, .slice a l.length cap] 25)) #[.slice none 0 0, .int .i64 0, .int .i64 0] 43).nb n1
  rw [World.size_alloc] at hx
  obtain ⟨d0, d1, d2⟩ := hx.c3
  obtain ⟨g0, g1, g2⟩ := hx.f3
  have HB := Lib.hid (put3_blk (v0 := .slice a1 Z.length c1) (v1 := .int .i64 N) (v2 := .int .i64 C) hx)
  have HW := Lib.hid (put3_nb m1 (b := w.heap.size + 1) (by omega) (.slice a1 Z.length c1) (.int .i64 N) (.int .i64 C))
  have hfr : ∀ g, (Value.slice a1 Z.length c1).ownBlock = some g → w.heap.size + 2 ≤ g := fun g hg => by have := f1.2 g hg; simpa using this
  have HF := Lib.hid (show Fresh w (put3 w1 (w.heap.size + 1) (.slice a1 Z.length c1) (.int .i64 N) (.int .i64 C)) (.slice a1 Z.length c1) Z from ⟨f1.1.put3 (fun g hg => by have := hfr g hg; omega) _ _ _, fun g hg => by have := hfr g hg; omega⟩)
  clear f1 n1 hx m1 hfr
  go_wp2
  change bodyPost _ _ _ _ _ (put3 w1 (w.heap.size + 1) (.slice a1 Z.length c1) (.int .i64 N) (.int .i64 C))
  generalize put3 w1 (w.heap.size + 1) (.slice a1 Z.length c1) (.int .i64 N) (.int .i64 C) = W at *
  obtain ⟨e0, e1, e2⟩ := HB.out.c3
  exact bodyPost_ret (v := .tuple #[.agg #[.slice a1 Z.length c1, .int .i64 N, .int .i64 C], .int .i64 ER]) (by simp [results, Tryd.results20, go_sem, e0, e1, e2]) rfl ⟨⟨a1, c1, rfl, HF.out⟩, HW.out⟩

set_option maxHeartbeats 1600000 in
set_option maxRecDepth 100000 in
theorem wire9_three (f : Hd) (a : Option Addr) (cap : Nat) (l : List Nat) (w : World) (h : Bs w a cap l) (hW : WdX f) (hk : Kinds w) (hl : Longer w) (hK : f.K = 3) :
    Calls Tryd.prog 20 #[.agg (f.cs (.slice a l.length cap))] w fun e w' => AnsW w (wxC f l) (wArbX f l) (wAckX f l) (okXE f l) e w' ∧ Nb w w' := by
  have hL := h.len
  have hp := fun w' (n : Nb w w') => wire8_any f a cap l w' (h.below n) hW (hk.below n) (hl.below n)
  generalize wxC f l = Z at *
  generalize wArbX f l = N at *
  generalize wAckX f l = C at *
  generalize okXE f l = ER at *
  obtain ⟨K, I, X, R, B, E, S, D, V, A⟩ := f
  simp only at hK
  subst hK
  simp only [Hd.cs] at hp ⊢
  have HP := Lib.hid hp
  clear hp h hk hl hW
  go_enter Tryd.func20, Tryd.ntmps20
  go_wp2_with fail
  refine (HP.out _ ((Nb.rfl.al _).al _)).mono ?_
  rintro e w1 ⟨⟨a1, c1, rfl, f1⟩, n1⟩
  have m1 : Nb w w1 := ((Nb.rfl.al _).al _).tr n1
  have hx := (Blk.new (w.alloc (.cells #[.int .i64 3, .int .u32 I, .bool X, .bool R, .bool B, .bool E, .bool S, .int .u8 D, .int .u8 V, .int .u32 A, .slice a l.length cap] 25)) #[.slice none 0 0, .int .i64 0, .int .i64 0] 43).nb n1
  rw [World.size_alloc] at hx
  obtain ⟨d0, d1, d2⟩ := hx.c3
  obtain ⟨g0, g1, g2⟩ := hx.f3
  have HB := Lib.hid (put3_blk (v0 := .slice a1 Z.length c1) (v1 := .int .i64 N) (v2 := .int .i64 C) hx)
  have HW := Lib.hid (put3_nb m1 (b := w.heap.size + 1) (by omega) (.slice a1 Z.length c1) (.int .i64 N) (.int .i64 C))
  have hfr : ∀ g, (Value.slice a1 Z.length c1).ownBlock = some g → w.heap.size + 2 ≤ g := fun g hg => by have := f1.2 g hg; simpa using this
  have HF := Lib.hid (show Fresh w (put3 w1 (w.heap.size + 1) (.slice a1 Z.length c1) (.int .i64 N) (.int .i64 C)) (.slice a1 Z.length c1) Z from ⟨f1.1.put3 (fun g hg => by have := hfr g hg; omega) _ _ _, fun g hg => by have := hfr g hg; omega⟩)
  clear f1 n1 hx m1 hfr
  go_wp2
  change bodyPost _ _ _ _ _ (put3 w1 (w.heap.size + 1) (.slice a1 Z.length c1) (.int .i64 N) (.int .i64 C))
  generalize put3 w1 (w.heap.size + 1) (.slice a1 Z.length c1) (.int .i64 N) (.int .i64 C) = W at *
  obtain ⟨e0, e1, e2⟩ := HB.out.c3
  exact bodyPost_ret (v := .tuple #[.agg #[.slice a1 Z.length c1, .int .i64 N, .int .i64 C], .int .i64 ER]) (by simp [results, Tryd.results20, go_sem, e0, e1, e2]) rfl ⟨⟨a1, c1, rfl, HF.out⟩, HW.out⟩

set_option maxHeartbeats 1600000 in
set_option maxRecDepth 100000 in
theorem wire9_one (f : Hd) (a : Option Addr) (cap : Nat) (l : List Nat) (w : World) (h : Bs w a cap l) (hW : WdX f) (hk : Kinds w) (hl : Longer w) (h2 : ¬ f.K = 2) (h3 : ¬ f.K = 3) :
    Calls Tryd.prog 20 #[.agg (f.cs (.slice a l.length cap))] w fun e w' => AnsW w (wireC f l) (wArbC f l) (wAckC f l) (okE f l) e w' ∧ Nb w w' := by
  have hL := h.len
  have hp := fun w' (n : Nb w w') => wire6_any f a cap l w' (h.below n) hW.1 (hk.below n) (hl.below n)
  generalize wireC f l = Z at *
  generalize wArbC f l = N at *
  generalize wAckC f l = C at *
  generalize okE f l = ER at *
  obtain ⟨K, I, X, R, B, E, S, D, V, A⟩ := f
  simp only at h2 h3
  have d2 : (K == 2) = false := by simpa using h2
  have d3 : (K == 3) = false := by simpa using h3
  simp only [Hd.cs] at hp ⊢
  have HP := Lib.hid hp
  clear hp h hk hl hW h2 h3
  go_enter Tryd.func20, Tryd.ntmps20
  go_wp2_with fail
  refine (HP.out _ ((Nb.rfl.al _).al _)).mono ?_
  rintro e w1 ⟨⟨a1, c1, rfl, f1⟩, n1⟩
  have m1 : Nb w w1 := ((Nb.rfl.al _).al _).tr n1
  have hx := (Blk.new (w.alloc (.cells #[.int .i64 K, .int .u32 I, .bool X, .bool R, .bool B, .bool E, .bool S, .int .u8 D, .int .u8 V, .int .u32 A, .slice a l.length cap] 25)) #[.slice none 0 0, .int .i64 0, .int .i64 0] 43).nb n1
  rw [World.size_alloc] at hx
  obtain ⟨d0, d1, d2'⟩ := hx.c3
  obtain ⟨g0, g1, g2⟩ := hx.f3
  have HB := Lib.hid (put3_blk (v0 := .slice a1 Z.length c1) (v1 := .int .i64 N) (v2 := .int .i64 C) hx)
  have HW := Lib.hid (put3_nb m1 (b := w.heap.size + 1) (by omega) (.slice a1 Z.length c1) (.int .i64 N) (.int .i64 C))
  have hfr : ∀ g, (Value.slice a1 Z.length c1).ownBlock = some g → w.heap.size + 2 ≤ g := fun g hg => by have := f1.2 g hg; simpa using this
  have HF := Lib.hid (show Fresh w (put3 w1 (w.heap.size + 1) (.slice a1 Z.length c1) (.int .i64 N) (.int .i64 C)) (.slice a1 Z.length c1) Z from ⟨f1.1.put3 (fun g hg => by have := hfr g hg; omega) _ _ _, fun g hg => by have := hfr g hg; omega⟩)
  clear f1 n1 hx m1 hfr
  go_wp2
  change bodyPost _ _ _ _ _ (put3 w1 (w.heap.size + 1) (.slice a1 Z.length c1) (.int .i64 N) (.int .i64 C))
  generalize put3 w1 (w.heap.size + 1) (.slice a1 Z.length c1) (.int .i64 N) (.int .i64 C) = W at *
  obtain ⟨e0, e1, e2⟩ := HB.out.c3
  exact bodyPost_ret (v := .tuple #[.agg #[.slice a1 Z.length c1, .int .i64 N, .int .i64 C], .int .i64 ER]) (by simp [results, Tryd.results20, go_sem, e0, e1, e2]) rfl ⟨⟨a1, c1, rfl, HF.out⟩, HW.out⟩
theorem wire9_any (f : Hd) (a : Option Addr) (cap : Nat) (l : List Nat) (w : World) (h : Bs w a cap l) (hW : WdX f) (hk : Kinds w) (hl : Longer w) :
    Calls Tryd.prog 20 #[.agg (f.cs (.slice a l.length cap))] w fun e w' => AnsW w (wF f l) (arbF f l) (ackF f l) (erF f l) e w' ∧ Nb w w' := by
  unfold wF arbF ackF erF
  by_cases h2 : f.K = 2
  · simp only [if_pos h2]
    exact wire9_two f a cap l w h hW hk hl h2
  by_cases h3 : f.K = 3
  · simp only [if_neg h2, if_pos h3]
    exact wire9_three f a cap l w h hW hk hl h3
  simp only [if_neg h2, if_neg h3]
  exact wire9_one f a cap l w h hW hk hl h2 h3
end Go.Proofs.YtfcmoamooafomaaDoor
