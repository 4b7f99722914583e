
/- Contract of package xl's Wire. Condition: the tables of kinds and of longer sizes hold what the program's text lays there. -/
import Derived.Test.YtfcmoamooafomaaDoorXlE
import Derived.Test.YtfcmoamooafomaaDoorCtN
import Derived.Test.YtfcmoamooafomaaDoorGx
import Derived.Test.YtfcmoamooafomaaDoorGa
import Derived.Test.YtfcmoamooafomaaDoorClaR
namespace Go.Proofs.YtfcmoamooafomaaDoor
set_option linter.unusedVariables false
set_option linter.unusedSimpArgs false
open Go.RowKit

theorem Bs.at4 {w : World} {b : Nat} {t : TypeId} {x y z u : Nat} (h : Blk w b #[.int .u8 (x : Int), .int .u8 (y : Int), .int .u8 (z : Int), .int .u8 (u : Int)] t) (hx : x < 256) (hy : y < 256) (hz : z < 256) (hu : u < 256) : Bs w (some ⟨b, 0, none⟩) 4 [x, y, z, u] :=
  ⟨Nat.le_refl _, by simp [maxLen], by simp; omega, fun _ => ⟨b, 0, rfl, fun j hj => by
    have := h.cell j
    match j, hj with
    | 0, _ => simpa using this
    | 1, _ => simpa using this
    | 2, _ => simpa using this
    | 3, _ => simpa using this⟩⟩

set_option maxHeartbeats 1600000 in
set_option maxRecDepth 100000 in
theorem wire8_bad (f : Hd) (a : Option Addr) (cap : Nat) (l : List Nat) (w : World) (h : Bs w a cap l) (hW : WdX f) (hk : Kinds w) (hl : Longer w) (hok : okX f l = false) :
    Calls Tryd.prog 36 #[.agg (f.cs (.slice a l.length cap))] w fun e w' => AnsW w [] 0 0 2 e w' ∧ Nb w w' := by
  have hL := h.len
  have hp := fun w' (n : Nb w w') => parts8_any f a cap l w' (h.below n) hW (hk.below n) (hl.below n)
  rw [show bxC f l = [] by simp [bxC, hok], show hxC f l = [] by simp [hxC, hok], show okXE f l = 2 by simp [okXE, hok]] at hp
  obtain ⟨K, I, X, R, B, E, S, D, V, A⟩ := f
  simp only [Hd.cs] at hp ⊢
  have HP := Lib.hid hp
  clear hp h hl hk hW hok
  go_enter Tryd.func36, Tryd.ntmps36
  go_wp2_with fail
  refine (HP.out _ ((Nb.rfl.al _).al _)).mono ?_
  rintro e w1 ⟨⟨a1, c1, a2, c2, rfl, f1, f2⟩, n1⟩
  have m1 : Nb w w1 := ((Nb.rfl.al _).al _).tr n1
  have hx := (Blk.new (w.alloc (.cells #[.int .i64 K, .int .u32 I, .bool X, .bool R, .bool B, .bool E, .bool S, .int .u8 D, .int .u8 V, .int .u32 A, .slice a l.length cap] 25)) #[.slice none 0 0, .int .i64 0, .int .i64 0] 43).nb n1
  rw [World.size_alloc] at hx
  obtain ⟨d0, d1, d2⟩ := hx.c3
  obtain ⟨g0, g1, g2⟩ := hx.f3
  have HB := Lib.hid (put3_blk (v0 := .slice none 0 0) (v1 := .int .i64 0) (v2 := .int .i64 0) hx)
  have HW := Lib.hid (put3_nb m1 (b := w.heap.size + 1) (by omega) (.slice none 0 0) (.int .i64 0) (.int .i64 0))
  clear f1 f2 n1 hx m1
  go_wp2
  change bodyPost _ _ _ _ _ (put3 w1 (w.heap.size + 1) (.slice none 0 0) (.int .i64 0) (.int .i64 0))
  generalize put3 w1 (w.heap.size + 1) (.slice none 0 0) (.int .i64 0) (.int .i64 0) = W at *
  obtain ⟨e0, e1, e2⟩ := HB.out.c3
  exact bodyPost_ret (v := .tuple #[.agg #[.slice none 0 0, .int .i64 0, .int .i64 0], .int .i64 2]) (by simp [results, Tryd.results36, go_sem, e0, e1, e2]) rfl ⟨⟨none, 0, rfl, Fresh.nil _ _⟩, HW.out⟩

set_option maxHeartbeats 1600000 in
set_option maxRecDepth 100000 in
theorem wire8_ok (f : Hd) (a : Option Addr) (cap : Nat) (l : List Nat) (w : World) (h : Bs w a cap l) (hW : WdX f) (hk : Kinds w) (hl : Longer w) (hok : okX f l = true) :
    Calls Tryd.prog 36 #[.agg (f.cs (.slice a l.length cap))] w fun e w' => AnsW w (wxC f l) (wArbX f l) (wAckX f l) 0 e w' ∧ Nb w w' := by
  have hL := h.len
  have hp := fun w' (n : Nb w w') => parts8_any f a cap l w' (h.below n) hW (hk.below n) (hl.below n)
  rw [show okXE f l = 0 by rw [okXE, if_pos hok], show hxC f l = putL (headX f.I.toNat) by rw [hxC, if_pos hok]] at hp
  have hbl := bx_len hok
  have hln := lenX hok
  have hch : chk (bxC f l) = true := chk_of bx_bit (by omega)
  have hsz := szF_bound (n := (bxC f l).length) (by omega)
  have hge := szF_ge 8 false (bxC f l).length
  have hp2 := fun w' (a' : Option Addr) (c' : Nat) (hb : Bs w' a' c' (bxC f l)) => fxput_ok 1 a' c' (bxC f l) 8 false w' (by omega) hb (by omega) (by omega) hch (by omega)
  have hfl := fxPut_len (E := 8) false 1 (bxC f l)
  rw [show wxC f l = putL (headX f.I.toNat) ++ startX ++ fxPut 8 false 1 (bxC f l) ++ stopX ++ ones 10 by rw [wxC, if_pos hok, rwX], show wArbX f l = (putL (headX f.I.toNat)).length by rw [wArbX, if_pos hok],
    show wAckX f l = (putL (headX f.I.toNat) ++ startX ++ fxPut 8 false 1 (bxC f l) ++ stopX).length + 1 by rw [wAckX, if_pos hok, rwX]]
  have hpl := (putL_len2 (headX f.I.toNat)).1
  rw [headX_len] at hpl
  have hfx1 : 0 < (fxPut 8 false 1 (bxC f l)).length := by omega
  have hfx2 : (fxPut 8 false 1 (bxC f l)).length ≤ 20000 := by omega
  have HP := Lib.hid hp
  have HP2 := Lib.hid hp2
  have HPL := Lib.hid hpl
  have HF1 := Lib.hid hfx1
  have HF2 := Lib.hid hfx2
  clear hp hp2 hpl hfx1 hfx2 hfl hge hsz hch hln hbl h hW hk hl hok
  generalize fxPut 8 false 1 (bxC f l) = T at *
  generalize bxC f l = L at *
  generalize putL (headX f.I.toNat) = P at *
  obtain ⟨Q, hQ⟩ : ∃ Q, Q = P ++ startX ++ T ++ stopX := ⟨_, rfl⟩
  have HQ2 := Lib.hid (show Q.length ≤ 30000 by rw [hQ]; simp only [List.length_append, startX, stopX, List.length_cons, List.length_nil]; have := HPL.out; have := HF2.out; omega)
  have HQ1 := Lib.hid (show 0 < (P ++ startX ++ T ++ stopX).length by simp only [List.length_append, startX, stopX, List.length_cons, List.length_nil]; omega)
  rw [← hQ]
  have HQ := Lib.hid hQ
  clear hQ
  obtain ⟨K, I, X, R, B, E, S, D, V, A⟩ := f
  simp only [Hd.cs] at HP ⊢
  go_enter Tryd.func36, Tryd.ntmps36
  go_wp2_with fail
  refine (HP.out _ ((Nb.rfl.al _).al _)).mono ?_
  rintro e w1 ⟨⟨a1, c1, a2, c2, rfl, f1, f2⟩, n1⟩
  have m1 : Nb w w1 := ((Nb.rfl.al _).al _).tr n1
  have hx1 := (Blk.new (w.alloc (.cells #[.int .i64 K, .int .u32 I, .bool X, .bool R, .bool B, .bool E, .bool S, .int .u8 D, .int .u8 V, .int .u32 A, .slice a l.length cap] 25)) #[.slice none 0 0, .int .i64 0, .int .i64 0] 43).nb n1
  rw [World.size_alloc] at hx1
  have HX1 := Lib.hid hx1
  have F1 := Lib.hid f1.bs
  have F2 := Lib.hid f2.bs
  have M1 := Lib.hid m1
  clear f1 f2 n1 hx1 m1
  go_wp2_with fail
  obtain ⟨w2, hw2⟩ : ∃ w2, w2 = (w1.alloc (.cells #[.int .u8 1, .int .u8 0, .int .u8 0, .int .u8 1] 88)).alloc (.cells #[.int .u8 0, .int .u8 1, .int .u8 1, .int .u8 0] 88) := ⟨_, rfl⟩
  have n12 : Nb w1 w2 := by rw [hw2]; exact (Nb.rfl.al _).al _
  have YA := Lib.hid (show Blk w2 w1.heap.size #[.int .u8 1, .int .u8 0, .int .u8 0, .int .u8 1] 88 by rw [hw2]; exact (Blk.new _ _ _).nb (Nb.rfl.al _))
  have yb := Blk.new (w1.alloc (.cells #[.int .u8 1, .int .u8 0, .int .u8 0, .int .u8 1] 88)) #[.int .u8 0, .int .u8 1, .int .u8 1, .int .u8 0] 88
  rw [World.size_alloc, ← hw2] at yb
  have YB := Lib.hid yb
  rw [← hw2]
  have HX2 := Lib.hid (HX1.out.nb n12)
  have M2 := Lib.hid (M1.out.tr n12)
  have G1 := Lib.hid (F1.out.1.below n12)
  have G2 := Lib.hid (F2.out.1.below n12)
  clear hw2 yb n12
  have NB : RowKit.Hid (Nb w2 w2.drew) := Lib.hid (show Nb w2 w2.drew from Nb.drewN w2 1)
  have hc0 : w2.drew.cell? ⟨w1.heap.size, 3, none⟩ = some (.int .u8 1) := (YA.out.nb NB.out).cell 3
  go_region_held3 (fun w' => w'.cell? ⟨w1.heap.size, 3, none⟩ = some (.int .u8 1)) (first | go_keep | exact (YA.out.nb NB.out).cell 3)
    (first
      | (go_at_call 56
         refine (way8_any _).mono ?_
         rintro e w6 ⟨rfl, n6⟩
         have NB := Lib.hid (NB.out.tr n6)
         clear n6)
      | (go_at_call 55
         refine (HP2.out _ _ _ (G2.out.below NB.out)).mono ?_
         rintro e w7 ⟨⟨a7, c7, rfl, f7⟩, n7⟩
         have s7 := NB.out.size
         have F7 := Lib.hid (show Fresh w2 w7 _ _ from f7.less s7)
         have NB := Lib.hid (NB.out.tr n7)
         clear f7 n7 s7))
  have N7 := Lib.hid NB.out
  clear NB hc0
  go_wp2_with fail
  have BA := Lib.hid (fun w' (n : Nb w7 w') => show Bs w' (some ⟨w1.heap.size, 0, none⟩) 4 startX from Bs.at4 ((YA.out.nb N7.out).nb n) (by omega) (by omega) (by omega) (by omega))
  have BB := Lib.hid (fun w' (n : Nb w7 w') => show Bs w' (some ⟨w1.heap.size + 1, 0, none⟩) 4 stopX from Bs.at4 ((YB.out.nb N7.out).nb n) (by omega) (by omega) (by omega) (by omega))
  have HX7 := Lib.hid (HX2.out.nb N7.out)
  have M7 := Lib.hid (M2.out.tr N7.out)
  have G7 := Lib.hid (G1.out.below N7.out)
  have F7b := Lib.hid F7.out.bs
  have NB : RowKit.Hid (Nb w7 w7.drew) := Lib.hid (show Nb w7 w7.drew from Nb.drewN w7 1)
  have l4 : w1.heap.size + 2 ≤ w7.heap.size := by have := (YB.out.nb N7.out).lt; omega
  have ND := Lib.hid (show Nb w7 (w7.alloc (.cells #[.slice a1 P.length c1, .slice (some ⟨w1.heap.size, 0, none⟩) 4 4, .slice a7 T.length c7, .slice (some ⟨w1.heap.size + 1, 0, none⟩) 4 4] 23)).drew from (Nb.rfl.al _).tr (Nb.drewN _ 1))
  have D := Lib.hid (show Blk (w7.alloc (.cells #[.slice a1 P.length c1, .slice (some ⟨w1.heap.size, 0, none⟩) 4 4, .slice a7 T.length c7, .slice (some ⟨w1.heap.size + 1, 0, none⟩) 4 4] 23)).drew w7.heap.size #[.slice a1 P.length c1, .slice (some ⟨w1.heap.size, 0, none⟩) 4 4, .slice a7 T.length c7, .slice (some ⟨w1.heap.size + 1, 0, none⟩) 4 4] 23 from (Blk.new w7 _ _).nb (Nb.drewN _ 1))
  go_region_held3 (fun _ => True) (first | go_keep | trivial)
    (first
      | (go_at_call 53
         refine (concat4_any w7.heap.size 0 a1 (some ⟨w1.heap.size, 0, none⟩) a7 (some ⟨w1.heap.size + 1, 0, none⟩) c1 4 c7 4 P startX T stopX _ (D.out.cell 0) (D.out.cell 1) (D.out.cell 2) (D.out.cell 3) (G7.out.below ND.out) (BA.out _ ND.out) (F7b.out.1.below ND.out) (BB.out _ ND.out) F1.out.2 (by simp) F7b.out.2 (by simp) HQ1.out (by rw [← HQ.out]; have := HQ2.out; omega)).mono ?_
         rintro e w8 ⟨⟨a8, c8, rfl, f8⟩, n8⟩
         rw [← HQ.out] at f8
         rw [← HQ.out]
         have F8 := Lib.hid f8.bs
         have NB := Lib.hid (ND.out.tr n8)
         clear f8 n8))
  have HX8 := Lib.hid (HX7.out.nb NB.out)
  have M8 := Lib.hid (M7.out.tr NB.out)
  clear NB D ND BA BB l4
  go_wp2_with fail
  refine (rwire_any a8 c8 Q P.length _ F8.out.1 F8.out.2 (by have := HQ2.out; omega)).mono ?_
  rintro e w9 ⟨⟨a9, c9, rfl, f9⟩, n9⟩
  have m9 := M8.out.tr n9
  have hx9 := HX8.out.nb n9
  obtain ⟨d0, d1, d2⟩ := hx9.c3
  obtain ⟨g0, g1, g2⟩ := hx9.f3
  have s2 : w.heap.size + 2 ≤ w8.heap.size := HX8.out.lt
  have hfr : ∀ g, (Value.slice a9 (Q ++ ones 10).length c9).ownBlock = some g → w.heap.size + 2 ≤ g := fun g hg => by
    have := f9.2 g hg
    omega
  have HB := Lib.hid (put3_blk (v0 := .slice a9 (Q ++ ones 10).length c9) (v1 := .int .i64 P.length) (v2 := .int .i64 ((Q.length + 1 : Nat) : Int)) hx9)
  have HW := Lib.hid (put3_nb m9 (b := w.heap.size + 1) (by omega) (.slice a9 (Q ++ ones 10).length c9) (.int .i64 P.length) (.int .i64 ((Q.length + 1 : Nat) : Int)))
  have HF := Lib.hid (show Fresh w (put3 w9 (w.heap.size + 1) (.slice a9 (Q ++ ones 10).length c9) (.int .i64 P.length) (.int .i64 ((Q.length + 1 : Nat) : Int))) (.slice a9 (Q ++ ones 10).length c9) (Q ++ ones 10) from ⟨f9.1.put3 (fun g hg => by have := hfr g hg; omega) _ _ _, fun g hg => by have := hfr g hg; omega⟩)
  obtain ⟨Z, hZ⟩ : ∃ Z, Z = Q ++ ones 10 := ⟨_, rfl⟩
  rw [← hZ] at HB HW HF
  have HZ := Lib.hid hZ
  rw [← hZ]
  obtain ⟨K2, hK2⟩ : ∃ K2 : Int, K2 = ((Q.length + 1 : Nat) : Int) := ⟨_, rfl⟩
  rw [← hK2] at HB HW HF
  rw [← hK2]
  have HK2 := Lib.hid hK2
  clear f9 n9 hx9 hfr hZ hK2 m9
  go_wp2
  change bodyPost _ _ _ _ _ (put3 w9 (w.heap.size + 1) (.slice a9 Z.length c9) (.int .i64 P.length) (.int .i64 K2))
  generalize put3 w9 (w.heap.size + 1) (.slice a9 Z.length c9) (.int .i64 P.length) (.int .i64 K2) = W at *
  obtain ⟨e0, e1, e2⟩ := HB.out.c3
  exact bodyPost_ret (v := .tuple #[.agg #[.slice a9 Z.length c9, .int .i64 P.length, .int .i64 K2], .int .i64 0]) (by simp [results, Tryd.results36, go_sem, e0, e1, e2]) rfl ⟨⟨a9, c9, by rw [HZ.out, HK2.out]; rfl, by rw [← HZ.out]; exact HF.out⟩, HW.out⟩

theorem wire8_any (f : Hd) (a : Option Addr) (cap : Nat) (l : List Nat) (w : World) (h : Bs w a cap l) (hW : WdX f) (hk : Kinds w) (hl : Longer w) :
    Calls Tryd.prog 36 #[.agg (f.cs (.slice a l.length cap))] w fun e w' => AnsW w (wxC f l) (wArbX f l) (wAckX f l) (okXE f l) e w' ∧ Nb w w' := by
  cases hok : okX f l with
  | true =>
    rw [show okXE f l = 0 by rw [okXE, if_pos hok]]
    exact wire8_ok f a cap l w h hW hk hl hok
  | false =>
    rw [show okXE f l = 2 by simp [okXE, hok], show wxC f l = [] by simp [wxC, hok], show wArbX f l = 0 by simp [wArbX, hok], show wAckX f l = 0 by simp [wAckX, hok]]
    exact wire8_bad f a cap l w h hW hk hl hok
end Go.Proofs.YtfcmoamooafomaaDoor
