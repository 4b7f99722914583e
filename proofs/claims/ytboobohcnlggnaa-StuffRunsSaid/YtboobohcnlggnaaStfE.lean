
/- Contracts of package stuff's readAll, Get, Count and Take. No conditions. -/
import Derived.Test.YtboobohcnlggnaaStfD
namespace Go.Proofs.Ytboobohcnlggnaa
open Go.RowKit

/-- The error of a row's whole reading, if there is one. -/
def ErrOf (l : List Nat) (er : Nat) : Prop := (chk l = false ∧ er = 2) ∨ (chk l = true ∧ okS l = false ∧ er = 4)

theorem readWhole_err (a : Option Addr) (cap : Nat) (l : List Nat) (er : Nat) (w : World) (h : Bs w a cap l) (he : ErrOf l er) :
    Calls Try.prog 28 #[.slice a l.length cap, .int .i64 l.length] w fun e w' => e = .returned (.tuple #[rdZ, .int .i64 0, .int .i64 er]) ∧ Nb w w' := by
  rcases he with ⟨hc, rfl⟩ | ⟨hc, ho, rfl⟩
  · exact read_bad a cap l l.length w h hc
  · have hG := readG_all l
    rw [ho] at hG
    exact read_wrong a cap l l.length w h hc (chk_len hc) hG

theorem readWhole_good (a : Option Addr) (cap : Nat) (l : List Nat) (w : World) (h : Bs w a cap l) (hc : chk l = true) (ho : okS l = true) :
    Calls Try.prog 28 #[.slice a l.length cap, .int .i64 l.length] w fun e w' => (∃ a c, e = .returned (.tuple #[rdV l l.length (.slice a (tell l).length c) (lastS l), .int .i64 l.length, .int .i64 0]) ∧ Fresh w w' (.slice a (tell l).length c) (tell l)) ∧ Nb w w' := by
  have hG := readG_all l
  rw [ho] at hG
  exact read_good a cap l l.length w h hc (chk_len hc) l hG

theorem Blk.six {w : World} {b : Nat} {u0 u1 u2 u3 u4 u5 : Value} {t : TypeId} (h : Blk w b #[u0, u1, u2, u3, u4, u5] t) :
    w.cell? ⟨b, 0, none⟩ = some u0 ∧ w.cell? ⟨b, 1, none⟩ = some u1 ∧ w.cell? ⟨b, 2, none⟩ = some u2 ∧ w.cell? ⟨b, 3, none⟩ = some u3 ∧ w.cell? ⟨b, 4, none⟩ = some u4 ∧ w.cell? ⟨b, 5, none⟩ = some u5 ∧
    w.frozen? ⟨b, 0, none⟩ = false ∧ w.frozen? ⟨b, 1, none⟩ = false ∧ w.frozen? ⟨b, 2, none⟩ = false ∧ w.frozen? ⟨b, 3, none⟩ = false ∧ w.frozen? ⟨b, 4, none⟩ = false ∧ w.frozen? ⟨b, 5, none⟩ = false :=
  ⟨h.cell 0, h.cell 1, h.cell 2, h.cell 3, h.cell 4, h.cell 5, h.frozen 0, h.frozen 1, h.frozen 2, h.frozen 3, h.frozen 4, h.frozen 5⟩

set_option maxHeartbeats 1600000 in
set_option maxRecDepth 100000 in
theorem readAll_err (a : Option Addr) (cap : Nat) (l : List Nat) (er : Nat) (w : World) (h : Bs w a cap l) (he : ErrOf l er) :
    Calls Try.prog 26 #[.slice a l.length cap] w fun e w' => e = .returned (.tuple #[rdZ, .int .i64 er]) ∧ Nb w w' := by
  have hL := h.len
  have H := Lib.hid h
  have HE := Lib.hid he
  obtain ⟨w1, hw1⟩ : ∃ w1, w1 = w.alloc (.cells #[.int .u8 0, .int .i64 0, .int .i64 0, .slice none 0 0, .bool false, .bool false] 47) := ⟨_, rfl⟩
  have nb1 : Nb w w1 := by rw [hw1]; exact Nb.rfl.al _
  have hs1 : w.heap.size < w1.heap.size := by rw [hw1]; simp
  have hZ : Blk w1 w.heap.size #[.int .u8 0, .int .i64 0, .int .i64 0, .slice none 0 0, .bool false, .bool false] 47 := by rw [hw1]; exact Blk.new _ _ _
  have HZ := Lib.hid hZ
  clear h hZ he
  go_enter Try.func26, Try.ntmps26
  go_wp2_with fail
  rw [← hw1]
  refine (readWhole_err a cap l er w1 (H.out.below nb1) HE.out).mono ?_
  rintro e w2 ⟨rfl, hnb⟩
  clear hw1
  have hlt := (HZ.out.nb hnb).lt
  have hZ2 := HZ.out.nb hnb
  obtain ⟨z0, z1, z2, z3, z4, z5, y0, y1, y2, y3, y4, y5⟩ := (HZ.out.nb hnb).six
  have nb2 : Nb w w2 := nb1.tr hnb
  have hB := (put6_blk (v0 := .int .u8 0) (v1 := .int .i64 0) (v2 := .int .i64 0) (v3 := .slice none 0 0) (v4 := .bool false) (v5 := .bool false) hZ2).keep (Kp.alloc (F := fun _ => False) (o := .cells #[.int .u8 0, .int .i64 0, .int .i64 0, .slice none 0 0, .bool false, .bool false] 47)) (by simp)
  have hnbW := (put6_nb (b := w.heap.size) nb2 (Nat.le_refl _) (.int .u8 0) (.int .i64 0) (.int .i64 0) (.slice none 0 0) (.bool false) (.bool false)).al (.cells #[.int .u8 0, .int .i64 0, .int .i64 0, .slice none 0 0, .bool false, .bool false] 47)
  have HB := Lib.hid hB
  have HW := Lib.hid hnbW
  clear hB hnbW hZ2 HZ
  unfold rdZ
  go_wp2
  change bodyPost _ _ _ _ _ ((put6 w2 w.heap.size (.int .u8 0) (.int .i64 0) (.int .i64 0) (.slice none 0 0) (.bool false) (.bool false)).alloc (.cells #[.int .u8 0, .int .i64 0, .int .i64 0, .slice none 0 0, .bool false, .bool false] 47))
  generalize ((put6 w2 w.heap.size (.int .u8 0) (.int .i64 0) (.int .i64 0) (.slice none 0 0) (.bool false) (.bool false)).alloc (.cells #[.int .u8 0, .int .i64 0, .int .i64 0, .slice none 0 0, .bool false, .bool false] 47)) = W at *
  obtain ⟨e0, e1, e2, e3, e4, e5, _⟩ := HB.out.six
  exact bodyPost_ret (v := .tuple #[rdZ, .int .i64 er]) (by simp [results, Try.results26, go_sem, rdZ, e0, e1, e2, e3, e4, e5]) rfl ⟨rfl, HW.out⟩

set_option maxHeartbeats 1600000 in
set_option maxRecDepth 100000 in
theorem readAll_good (a : Option Addr) (cap : Nat) (l : List Nat) (w : World) (h : Bs w a cap l) (hc : chk l = true) (ho : okS l = true) :
    Calls Try.prog 26 #[.slice a l.length cap] w fun e w' => (∃ a c, e = .returned (.tuple #[rdV l l.length (.slice a (tell l).length c) (lastS l), .int .i64 0]) ∧ Fresh w w' (.slice a (tell l).length c) (tell l)) ∧ Nb w w' := by
  have hL := h.len
  have H := Lib.hid h
  have HC := Lib.hid hc
  have HO := Lib.hid ho
  obtain ⟨w1, hw1⟩ : ∃ w1, w1 = w.alloc (.cells #[.int .u8 0, .int .i64 0, .int .i64 0, .slice none 0 0, .bool false, .bool false] 47) := ⟨_, rfl⟩
  have nb1 : Nb w w1 := by rw [hw1]; exact Nb.rfl.al _
  have hs1 : w.heap.size < w1.heap.size := by rw [hw1]; simp
  have hZ : Blk w1 w.heap.size #[.int .u8 0, .int .i64 0, .int .i64 0, .slice none 0 0, .bool false, .bool false] 47 := by rw [hw1]; exact Blk.new _ _ _
  have HZ := Lib.hid hZ
  clear h hZ hc ho
  go_enter Try.func26, Try.ntmps26
  go_wp2_with fail
  rw [← hw1]
  refine (readWhole_good a cap l w1 (H.out.below nb1) HC.out HO.out).mono ?_
  rintro e w2 ⟨⟨a', c', rfl, hfr⟩, hnb⟩
  clear hw1
  have hlt := (HZ.out.nb hnb).lt
  have hZ2 := HZ.out.nb hnb
  obtain ⟨z0, z1, z2, z3, z4, z5, y0, y1, y2, y3, y4, y5⟩ := (HZ.out.nb hnb).six
  have nb2 : Nb w w2 := nb1.tr hnb
  have hB := (put6_blk (v0 := .int .u8 (runS l).1) (v1 := .int .i64 (runS l).2) (v2 := .int .i64 l.length) (v3 := .slice a' (tell l).length c') (v4 := .bool (lastS l)) (v5 := .bool false) hZ2).keep (Kp.alloc (F := fun _ => False) (o := .cells #[.int .u8 (runS l).1, .int .i64 (runS l).2, .int .i64 l.length, .slice a' (tell l).length c', .bool (lastS l), .bool false] 47)) (by simp)
  have hnbW := (put6_nb (b := w.heap.size) nb2 (Nat.le_refl _) (.int .u8 (runS l).1) (.int .i64 (runS l).2) (.int .i64 l.length) (.slice a' (tell l).length c') (.bool (lastS l)) (.bool false)).al (.cells #[.int .u8 (runS l).1, .int .i64 (runS l).2, .int .i64 l.length, .slice a' (tell l).length c', .bool (lastS l), .bool false] 47)
  have hkW : Fresh w ((put6 w2 w.heap.size (.int .u8 (runS l).1) (.int .i64 (runS l).2) (.int .i64 l.length) (.slice a' (tell l).length c') (.bool (lastS l)) (.bool false)).alloc (.cells #[.int .u8 (runS l).1, .int .i64 (runS l).2, .int .i64 l.length, .slice a' (tell l).length c', .bool (lastS l), .bool false] 47)) (.slice a' (tell l).length c') (tell l) := by
    refine ⟨(hfr.1.keep (put6_kp _ _ _ _ _ _ _ _) (fun g hg e => ?_)).keep (Kp.alloc (F := fun _ => False)) (by simp), fun g hg => ?_⟩
    · have := hfr.2 g hg; omega
    · have := hfr.2 g hg; omega
  have HK := Lib.hid hkW
  clear hkW hfr
  have HB := Lib.hid hB
  have HW := Lib.hid hnbW
  clear hB hnbW hZ2 HZ
  unfold rdV
  go_wp2
  change bodyPost _ _ _ _ _ ((put6 w2 w.heap.size (.int .u8 (runS l).1) (.int .i64 (runS l).2) (.int .i64 l.length) (.slice a' (tell l).length c') (.bool (lastS l)) (.bool false)).alloc (.cells #[.int .u8 (runS l).1, .int .i64 (runS l).2, .int .i64 l.length, .slice a' (tell l).length c', .bool (lastS l), .bool false] 47))
  generalize ((put6 w2 w.heap.size (.int .u8 (runS l).1) (.int .i64 (runS l).2) (.int .i64 l.length) (.slice a' (tell l).length c') (.bool (lastS l)) (.bool false)).alloc (.cells #[.int .u8 (runS l).1, .int .i64 (runS l).2, .int .i64 l.length, .slice a' (tell l).length c', .bool (lastS l), .bool false] 47)) = W at *
  obtain ⟨e0, e1, e2, e3, e4, e5, _⟩ := HB.out.six
  exact bodyPost_ret (v := .tuple #[rdV l l.length (.slice a' (tell l).length c') (lastS l), .int .i64 0]) (by simp [results, Try.results26, go_sem, rdV, e0, e1, e2, e3, e4, e5]) rfl ⟨⟨_, _, rfl, HK.out⟩, HW.out⟩

end Go.Proofs.Ytboobohcnlggnaa
