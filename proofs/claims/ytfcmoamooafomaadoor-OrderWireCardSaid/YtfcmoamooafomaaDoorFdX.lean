
/- Contract of package fd's Wire. Condition: the tables of kinds and of longer sizes hold what the program's text lays there. -/
import Derived.Test.YtfcmoamooafomaaDoorFdW
namespace Go.Proofs.YtfcmoamooafomaaDoor
set_option linter.unusedVariables false
set_option linter.unusedSimpArgs false
open Go.RowKit

theorem bd_take {f : Hd} {l : List Nat} (h : okD f l = true) : (bdC f l).take 16 = headD f.I.toNat := by
  rw [bdC, if_pos h, bodyD]
  exact List.take_left' (headD_len _)

set_option maxHeartbeats 3200000 in
set_option maxRecDepth 100000 in
theorem wire7_bad (f : Hd) (a : Option Addr) (cap : Nat) (l : List Nat) (w : World) (h : Bs w a cap l) (hI : 0 ≤ f.I) (hl : Longer w) (hok : okD f l = false) :
    Calls Tryd.prog 35 #[.agg (f.cs (.slice a l.length cap))] w fun e w' => AnsW w [] 0 0 2 e w' ∧ Nb w w' := by
  have hL := h.len
  have hp := fun w' (n : Nb w w') => body7_any f a cap l w' (h.below n) hI (hl.below n)
  rw [show bdC f l = [] by simp [bdC, hok], show okDE f l = 2 by simp [okDE, hok]] at hp
  obtain ⟨K, I, X, R, B, E, S, D, V, A⟩ := f
  simp only [Hd.cs] at hp ⊢
  have HP := Lib.hid hp
  clear hp h hl hI hok
  go_enter Tryd.func35, Tryd.ntmps35
  go_wp2_with fail
  refine (HP.out _ ((Nb.rfl.al _).al _)).mono ?_
  rintro e w1 ⟨⟨a1, c1, rfl, f1⟩, n1⟩
  have m1 : Nb w w1 := ((Nb.rfl.al _).al _).tr n1
  have hx := (Blk.new (w.alloc (.cells #[.int .i64 K, .int .u32 I, .bool X, .bool R, .bool B, .bool E, .bool S, .int .u8 D, .int .u8 V, .int .u32 A, .slice a l.length cap] 25)) #[.slice none 0 0, .int .i64 0, .int .i64 0] 43).nb n1
  rw [World.size_alloc] at hx
  obtain ⟨d0, d1, d2⟩ := hx.c3
  obtain ⟨g0, g1, g2⟩ := hx.f3
  have HB := Lib.hid (put3_blk (v0 := .slice none 0 0) (v1 := .int .i64 0) (v2 := .int .i64 0) hx)
  have HW := Lib.hid (put3_nb m1 (b := w.heap.size + 1) (by omega) (.slice none 0 0) (.int .i64 0) (.int .i64 0))
  clear f1 n1 hx m1
  go_wp2
  change bodyPost _ _ _ _ _ (put3 w1 (w.heap.size + 1) (.slice none 0 0) (.int .i64 0) (.int .i64 0))
  generalize put3 w1 (w.heap.size + 1) (.slice none 0 0) (.int .i64 0) (.int .i64 0) = W at *
  obtain ⟨e0, e1, e2⟩ := HB.out.c3
  exact bodyPost_ret (v := .tuple #[.agg #[.slice none 0 0, .int .i64 0, .int .i64 0], .int .i64 2]) (by simp [results, Tryd.results35, go_sem, e0, e1, e2]) rfl ⟨⟨none, 0, rfl, Fresh.nil _ _⟩, HW.out⟩

set_option maxHeartbeats 4000000 in
set_option maxRecDepth 100000 in
theorem wire7_ok (f : Hd) (a : Option Addr) (cap : Nat) (l : List Nat) (w : World) (h : Bs w a cap l) (hI : 0 ≤ f.I) (hk : Kinds w) (hl : Longer w) (hok : okD f l = true) :
    Calls Tryd.prog 35 #[.agg (f.cs (.slice a l.length cap))] w fun e w' => AnsW w (wdC f l) (wArbD f l) (wAckD f l) 0 e w' ∧ Nb w w' := by
  have hL := h.len
  have h64 := len64 hok
  have hp := fun w' (n : Nb w w') => body7_any f a cap l w' (h.below n) hI (hl.below n)
  rw [show okDE f l = 0 by rw [okDE, if_pos hok]] at hp
  have hbl := bd_len hok
  have hch : chk (bdC f l) = true := chk_of bd_bit (by omega)
  have htk := bd_take hok
  have hp2 := fun w' (a' : Option Addr) (c' : Nat) (hb : Bs w' a' c' (bdC f l)) => by
    have := rstuff_ok a' c' (bdC f l) 16 w' hb hch (by omega) (by omega)
    rw [htk] at this
    exact this
  have hp3 := fun w' (a' : Option Addr) (c' : Nat) (hn' : Nb w w') (hb : Bs w' a' c' (putL (bdC f l))) (hnn : a' = none → c' = 0) =>
    fcheck_ok l.length a' c' (bdC f l) w' hb hnn hch (by omega) (by omega) (hk.below hn')
  rw [show wdC f l = putL (bdC f l) ++ fixD l.length (putL (bdC f l)) (bdC f l) ++ ones 10 by rw [wdC, if_pos hok, rwD], show wArbD f l = (putL (headD f.I.toNat)).length by rw [wArbD, if_pos hok],
    show wAckD f l = (putL (bdC f l) ++ fixD l.length (putL (bdC f l)) (bdC f l)).length + 1 by rw [wAckD, if_pos hok, rwD]]
  have hpl := (putL_len2 (bdC f l)).1
  have hpl2 : (putL (bdC f l)).length ≤ 2000 := by omega
  have hfn := fixD_num l.length (putL (bdC f l)) (bdC f l)
  have hf1 : 0 < (fixD l.length (putL (bdC f l)) (bdC f l)).length := by rw [hfn]; split <;> omega
  have hf2 : (fixD l.length (putL (bdC f l)) (bdC f l)).length ≤ 32 := by rw [hfn]; split <;> omega
  have HP := Lib.hid hp
  have HP2 := Lib.hid hp2
  have HP3 := Lib.hid hp3
  clear hp hp2 hp3 h hk hl hI hok hch hbl hpl htk hfn
  generalize fixD l.length (putL (bdC f l)) (bdC f l) = T at *
  generalize bdC f l = L at *
  generalize putL L = P at *
  generalize (putL (headD f.I.toNat)).length = N at *
  have HQ2 := Lib.hid (show (P ++ T).length ≤ 3000 by rw [List.length_append]; omega)
  have HF1 := Lib.hid hf1
  have HF2 := Lib.hid hf2
  have HPL := Lib.hid hpl2
  obtain ⟨Q, hQ⟩ : ∃ Q, Q = P ++ T := ⟨_, rfl⟩
  rw [← hQ] at HQ2 ⊢
  have HQ := Lib.hid hQ
  clear hf1 hf2 hpl2 hQ
  obtain ⟨K, I, X, R, B, E, S, D, V, A⟩ := f
  simp only [Hd.cs] at HP ⊢
  go_enter Tryd.func35, Tryd.ntmps35
  go_wp2_with fail
  refine (HP.out _ ((Nb.rfl.al _).al _)).mono ?_
  rintro e w1 ⟨⟨a1, c1, rfl, f1⟩, n1⟩
  have m1 : Nb w w1 := ((Nb.rfl.al _).al _).tr n1
  have hx1 := (Blk.new (w.alloc (.cells #[.int .i64 K, .int .u32 I, .bool X, .bool R, .bool B, .bool E, .bool S, .int .u8 D, .int .u8 V, .int .u32 A, .slice a l.length cap] 25)) #[.slice none 0 0, .int .i64 0, .int .i64 0] 43).nb n1
  rw [World.size_alloc] at hx1
  have HX1 := Lib.hid hx1
  have HY1 := Lib.hid (((Blk.new w #[.int .i64 K, .int .u32 I, .bool X, .bool R, .bool B, .bool E, .bool S, .int .u8 D, .int .u8 V, .int .u32 A, .slice a l.length cap] 25).nb (Nb.rfl.al (.cells #[.slice none 0 0, .int .i64 0, .int .i64 0] 43))).nb n1)
  have B1 := Lib.hid f1.bs.1
  clear f1 n1 hx1
  go_wp2_with fail
  refine (HP2.out _ a1 c1 B1.out).mono ?_
  rintro e w2 ⟨⟨a2, c2, rfl, f2⟩, n2⟩
  have m2 := m1.tr n2
  have HX2 := Lib.hid (HX1.out.nb n2)
  have HY2 := Lib.hid (HY1.out.nb n2)
  have F2 := Lib.hid f2
  obtain ⟨u0, u1, u2, u3, u4, u5, u6, u7, u8, u9, u10⟩ := HY2.out.c11
  clear f2 n2 u0 u1 u2 u3 u4 u5 u6 u7 u8 u9
  go_wp2_with fail
  refine (sumof_any l.length _).mono ?_
  rintro e w3 ⟨rfl, rfl⟩
  go_wp2_with fail
  refine (HP3.out _ a2 c2 m2 F2.out.bs.1 F2.out.bs.2).mono ?_
  rintro e w3 ⟨⟨a3, c3, rfl, f3⟩, n3⟩
  have m3 := m2.tr n3
  have HX3 := Lib.hid (HX2.out.nb n3)
  have F3 := Lib.hid (F2.out.keep n3)
  have G3 := Lib.hid f3.bs.1
  clear f3 n3 u10
  go_wp2_with fail
  refine (concat_any w3.heap.size 0 a2 a3 c2 c3 P T _ (by simp) (by simp) (F3.out.bs.1.below (Nb.rfl.al _)) (G3.out.below (Nb.rfl.al _)) HF1.out F3.out.bs.2 (by have := HPL.out; omega) (by have := HF2.out; omega)).mono ?_
  rintro e w4 ⟨⟨a4, c4, rfl, f4⟩, n4⟩
  have n34 : Nb w3 w4 := (Nb.rfl.al _).tr n4
  have m4 := m3.tr n34
  have HX4 := Lib.hid (HX3.out.nb n34)
  rw [← HQ.out] at f4
  rw [← HQ.out]
  have F4 := Lib.hid f4.bs
  clear f4 n4 n34
  go_wp2_with fail
  refine (rwire_any a4 c4 Q N _ F4.out.1 F4.out.2 (by have := HQ2.out; omega)).mono ?_
  rintro e w5 ⟨⟨a5, c5, rfl, f5⟩, n5⟩
  have m5 := m4.tr n5
  have hx5 := HX4.out.nb n5
  obtain ⟨d0, d1, d2⟩ := hx5.c3
  obtain ⟨g0, g1, g2⟩ := hx5.f3
  have s2 : w.heap.size + 2 ≤ w4.heap.size := HX4.out.lt
  have hfr : ∀ g, (Value.slice a5 (Q ++ ones 10).length c5).ownBlock = some g → w.heap.size + 2 ≤ g := fun g hg => by
    have := f5.2 g hg
    omega
  have HB := Lib.hid (put3_blk (v0 := .slice a5 (Q ++ ones 10).length c5) (v1 := .int .i64 N) (v2 := .int .i64 ((Q.length + 1 : Nat) : Int)) hx5)
  have HW := Lib.hid (put3_nb m5 (b := w.heap.size + 1) (by omega) (.slice a5 (Q ++ ones 10).length c5) (.int .i64 N) (.int .i64 ((Q.length + 1 : Nat) : Int)))
  have HF := Lib.hid (show Fresh w (put3 w5 (w.heap.size + 1) (.slice a5 (Q ++ ones 10).length c5) (.int .i64 N) (.int .i64 ((Q.length + 1 : Nat) : Int))) (.slice a5 (Q ++ ones 10).length c5) (Q ++ ones 10) from ⟨f5.1.put3 (fun g hg => by have := hfr g hg; omega) _ _ _, fun g hg => by have := hfr g hg; omega⟩)
  obtain ⟨Z, hZ⟩ : ∃ Z, Z = Q ++ ones 10 := ⟨_, rfl⟩
  rw [← hZ] at HB HW HF
  have HZ := Lib.hid hZ
  rw [← hZ]
  obtain ⟨K2, hK2⟩ : ∃ K2 : Int, K2 = ((Q.length + 1 : Nat) : Int) := ⟨_, rfl⟩
  rw [← hK2] at HB HW HF
  rw [← hK2]
  have HK2 := Lib.hid hK2
  clear f5 n5 hx5 hfr hZ hK2 m1 m2 m3 m4 m5
  go_wp2
  change bodyPost _ _ _ _ _ (put3 w5 (w.heap.size + 1) (.slice a5 Z.length c5) (.int .i64 N) (.int .i64 K2))
  generalize put3 w5 (w.heap.size + 1) (.slice a5 Z.length c5) (.int .i64 N) (.int .i64 K2) = W at *
  obtain ⟨e0, e1, e2⟩ := HB.out.c3
  exact bodyPost_ret (v := .tuple #[.agg #[.slice a5 Z.length c5, .int .i64 N, .int .i64 K2], .int .i64 0]) (by simp [results, Tryd.results35, go_sem, e0, e1, e2]) rfl ⟨⟨a5, c5, by rw [HZ.out, HK2.out]; rfl, by rw [← HZ.out]; exact HF.out⟩, HW.out⟩

theorem wire7_any (f : Hd) (a : Option Addr) (cap : Nat) (l : List Nat) (w : World) (h : Bs w a cap l) (hI : 0 ≤ f.I) (hk : Kinds w) (hl : Longer w) :
    Calls Tryd.prog 35 #[.agg (f.cs (.slice a l.length cap))] w fun e w' => AnsW w (wdC f l) (wArbD f l) (wAckD f l) (okDE f l) e w' ∧ Nb w w' := by
  cases hok : okD f l with
  | true =>
    rw [show okDE f l = 0 by rw [okDE, if_pos hok]]
    exact wire7_ok f a cap l w h hI hk hl hok
  | false =>
    rw [show okDE f l = 2 by simp [okDE, hok], show wdC f l = [] by simp [wdC, hok], show wArbD f l = 0 by simp [wArbD, hok], show wAckD f l = 0 by simp [wAckD, hok]]
    exact wire7_bad f a cap l w h hI hl hok
end Go.Proofs.YtfcmoamooafomaaDoor
