
/- Contract of package classic's Wire. Condition: the tables of kinds and of longer sizes hold what the program's text lays there. -/
import Derived.Test.YtfcmoamooafomaaDoorClaE
namespace Go.Proofs.YtfcmoamooafomaaDoor
set_option linter.unusedVariables false
set_option linter.unusedSimpArgs false
open Go.RowKit

set_option maxHeartbeats 3200000 in
set_option maxRecDepth 100000 in
theorem wire6_bad (f : Hd) (a : Option Addr) (cap : Nat) (l : List Nat) (w : World) (h : Bs w a cap l) (hI : 0 ≤ f.I) (hk : Kinds w) (hl : Longer w) (hok : okC f l = false) :
    Calls Tryd.prog 37 #[.agg (f.cs (.slice a l.length cap))] w fun e w' => AnsW w [] 0 0 2 e w' ∧ Nb w w' := by
  have hL := h.len
  have hp := fun w' (n : Nb w w') => plain6_any f a cap l w' (h.below n) hI (hk.below n) (hl.below n)
  rw [show bodyC f l = [] by simp [bodyC, hok], show arbN f l = 0 by simp [arbN, hok], show okE f l = 2 by simp [okE, hok]] at hp
  obtain ⟨K, I, X, R, B, E, S, D, V, A⟩ := f
  simp only [Hd.cs] at hp ⊢
  have HP := Lib.hid hp
  clear hp h hk hl hI hok
  go_enter Tryd.func37, Tryd.ntmps37
  go_wp2_with fail
  refine (HP.out _ ((Nb.rfl.al _).al _)).mono ?_
  rintro e w1 ⟨⟨a1, c1, rfl, f1⟩, n1⟩
  have m1 : Nb w w1 := ((Nb.rfl.al _).al _).tr n1
  have hx := (Blk.new (w.alloc (.cells #[.int .i64 K, .int .u32 I, .bool X, .bool R, .bool B, .bool E, .bool S, .int .u8 D, .int .u8 V, .int .u32 A, .slice a l.length cap] 25)) #[.slice none 0 0, .int .i64 0, .int .i64 0] 43).nb n1
  rw [World.size_alloc] at hx
  obtain ⟨d0, d1, d2⟩ := hx.c3
  obtain ⟨g0, g1, g2⟩ := hx.f3
  have HB := Lib.hid (put3_blk (v0 := .slice none 0 0) (v1 := .int .i64 0) (v2 := .int .i64 0) hx)
  have HW := Lib.hid (put3_nb m1 (b := w.heap.size + 1) (by omega) (.slice none 0 0) (.int .i64 0) (.int .i64 0))
  clear f1 n1 hx m1
  go_wp2
  change bodyPost _ _ _ _ _ (put3 w1 (w.heap.size + 1) (.slice none 0 0) (.int .i64 0) (.int .i64 0))
  generalize put3 w1 (w.heap.size + 1) (.slice none 0 0) (.int .i64 0) (.int .i64 0) = W at *
  obtain ⟨e0, e1, e2⟩ := HB.out.c3
  exact bodyPost_ret (v := .tuple #[.agg #[.slice none 0 0, .int .i64 0, .int .i64 0], .int .i64 2]) (by simp [results, Tryd.results37, go_sem, e0, e1, e2]) rfl ⟨⟨none, 0, rfl, Fresh.nil _ _⟩, HW.out⟩

set_option maxHeartbeats 3200000 in
set_option maxRecDepth 100000 in
theorem wire6_ok (f : Hd) (a : Option Addr) (cap : Nat) (l : List Nat) (w : World) (h : Bs w a cap l) (hI : 0 ≤ f.I) (hk : Kinds w) (hl : Longer w) (hok : okC f l = true) :
    Calls Tryd.prog 37 #[.agg (f.cs (.slice a l.length cap))] w fun e w' => AnsW w (wireC f l) (wArbC f l) (wAckC f l) 0 e w' ∧ Nb w w' := by
  have hL := h.len
  obtain ⟨i, ef, et, h8, _, hx, hi⟩ := okC_parts hok hI
  have hp := fun w' (n : Nb w w') => plain6_any f a cap l w' (h.below n) hI (hk.below n) (hl.below n)
  have hbl := body_len hok
  have hb1 : (bodyC f l).length ≤ 200 := by rw [hbl]; split <;> omega
  have hch : chk (bodyC f l) = true := chk_of body_bit (by omega)
  have hh : (headC f.X f.R f.I.toNat).length ≤ (bodyC f l).length := by rw [hbl, headC_len]; split <;> omega
  have hbe : bodyC f l = bodyN f.X f.R f.I.toNat l := by rw [bodyC, if_pos hok]
  have hp2 := fun w' (a' : Option Addr) (c' : Nat) (hb : Bs w' a' c' (bodyC f l)) => by
    have := rstuff_ok a' c' (bodyC f l) _ w' hb hch (by omega) hh
    rw [show (bodyC f l).take (headC f.X f.R f.I.toNat).length = headC f.X f.R f.I.toNat by rw [hbe]; exact bodyN_head _ _ _ _] at this
    exact this
  rw [show wireC f l = putL (bodyC f l) ++ ones 10 by rw [wireC, if_pos hok], show wArbC f l = (putL (headC f.X f.R f.I.toNat)).length by rw [wArbC, if_pos hok], show wAckC f l = (putL (bodyC f l)).length + 1 by rw [wAckC, if_pos hok]]
  rw [show arbN f l = (headC f.X f.R f.I.toNat).length by rw [arbN, if_pos hok], show okE f l = 0 by rw [okE, if_pos hok]] at hp
  have hpl := (putL_len2 (bodyC f l)).1
  have hpl2 : (putL (bodyC f l)).length ≤ 1000 := by omega
  have HP := Lib.hid hp
  have HP2 := Lib.hid hp2
  clear hp hp2 h hk hl hI hok hh hbe hch hbl hpl hx hi et ef
  generalize bodyC f l = L at *
  generalize headC f.X f.R f.I.toNat = H at *
  generalize putL L = P at *
  generalize (putL H).length = N at *
  obtain ⟨K, I, X, R, B, E, S, D, V, A⟩ := f
  simp only [Hd.cs] at HP ⊢
  go_enter Tryd.func37, Tryd.ntmps37
  go_wp2_with fail
  refine (HP.out _ ((Nb.rfl.al _).al _)).mono ?_
  rintro e w1 ⟨⟨a1, c1, rfl, f1⟩, n1⟩
  have m1 : Nb w w1 := ((Nb.rfl.al _).al _).tr n1
  have hx1 := (Blk.new (w.alloc (.cells #[.int .i64 K, .int .u32 I, .bool X, .bool R, .bool B, .bool E, .bool S, .int .u8 D, .int .u8 V, .int .u32 A, .slice a l.length cap] 25)) #[.slice none 0 0, .int .i64 0, .int .i64 0] 43).nb n1
  rw [World.size_alloc] at hx1
  have HX1 := Lib.hid hx1
  have B1 := Lib.hid f1.bs.1
  clear f1 n1 hx1
  go_wp2_with fail
  refine (HP2.out _ a1 c1 B1.out).mono ?_
  rintro e w2 ⟨⟨a2, c2, rfl, f2⟩, n2⟩
  have m2 := m1.tr n2
  have HX2 := Lib.hid (HX1.out.nb n2)
  have F2 := Lib.hid f2
  clear f2 n2
  go_wp2_with fail
  refine (rwire_any a2 c2 P N _ F2.out.bs.1 F2.out.bs.2 (by omega)).mono ?_
  rintro e w5 ⟨⟨a5, c5, rfl, f5⟩, n5⟩
  have m5 := m2.tr n5
  have hx5 := HX2.out.nb n5
  obtain ⟨d0, d1, d2⟩ := hx5.c3
  obtain ⟨g0, g1, g2⟩ := hx5.f3
  have s2 : w.heap.size + 2 ≤ w2.heap.size := HX2.out.lt
  have hfr : ∀ g, (Value.slice a5 (P ++ ones 10).length c5).ownBlock = some g → w.heap.size + 2 ≤ g := fun g hg => by
    have := f5.2 g hg
    omega
  have HB := Lib.hid (put3_blk (v0 := .slice a5 (P ++ ones 10).length c5) (v1 := .int .i64 N) (v2 := .int .i64 ((P.length + 1 : Nat) : Int)) hx5)
  have HW := Lib.hid (put3_nb m5 (b := w.heap.size + 1) (by omega) (.slice a5 (P ++ ones 10).length c5) (.int .i64 N) (.int .i64 ((P.length + 1 : Nat) : Int)))
  have HF := Lib.hid (show Fresh w (put3 w5 (w.heap.size + 1) (.slice a5 (P ++ ones 10).length c5) (.int .i64 N) (.int .i64 ((P.length + 1 : Nat) : Int))) (.slice a5 (P ++ ones 10).length c5) (P ++ ones 10) from ⟨f5.1.put3 (fun g hg => by have := hfr g hg; omega) _ _ _, fun g hg => by have := hfr g hg; omega⟩)
  obtain ⟨Q, hQ⟩ : ∃ Q, Q = P ++ ones 10 := ⟨_, rfl⟩
  rw [← hQ] at HB HW HF
  have HQ := Lib.hid hQ
  rw [← hQ]
  obtain ⟨K2, hK2⟩ : ∃ K2 : Int, K2 = ((P.length + 1 : Nat) : Int) := ⟨_, rfl⟩
  rw [← hK2] at HB HW HF
  rw [← hK2]
  have HK2 := Lib.hid hK2
  clear f5 n5 hx5 hfr hQ hK2 m1 m2 m5
  go_wp2
  change bodyPost _ _ _ _ _ (put3 w5 (w.heap.size + 1) (.slice a5 Q.length c5) (.int .i64 N) (.int .i64 K2))
  generalize put3 w5 (w.heap.size + 1) (.slice a5 Q.length c5) (.int .i64 N) (.int .i64 K2) = W at *
  obtain ⟨e0, e1, e2⟩ := HB.out.c3
  exact bodyPost_ret (v := .tuple #[.agg #[.slice a5 Q.length c5, .int .i64 N, .int .i64 K2], .int .i64 0]) (by simp [results, Tryd.results37, go_sem, e0, e1, e2]) rfl ⟨⟨a5, c5, by rw [HQ.out, HK2.out]; rfl, by rw [← HQ.out]; exact HF.out⟩, HW.out⟩

theorem wire6_any (f : Hd) (a : Option Addr) (cap : Nat) (l : List Nat) (w : World) (h : Bs w a cap l) (hI : 0 ≤ f.I) (hk : Kinds w) (hl : Longer w) :
    Calls Tryd.prog 37 #[.agg (f.cs (.slice a l.length cap))] w fun e w' => AnsW w (wireC f l) (wArbC f l) (wAckC f l) (okE f l) e w' ∧ Nb w w' := by
  cases hok : okC f l with
  | true =>
    rw [show okE f l = 0 by rw [okE, if_pos hok]]
    exact wire6_ok f a cap l w h hI hk hl hok
  | false =>
    rw [show okE f l = 2 by simp [okE, hok], show wireC f l = [] by simp [wireC, hok], show wArbC f l = 0 by simp [wArbC, hok], show wAckC f l = 0 by simp [wAckC, hok]]
    exact wire6_bad f a cap l w h hI hk hl hok
end Go.Proofs.YtfcmoamooafomaaDoor
