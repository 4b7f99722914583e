
/- The document's examples of layer 11. No conditions. -/
import Derived.Test.YtahemoakehbchaaFaG
namespace Go.Proofs.Ytahemoakehbchaa
set_option linter.unusedVariables false
set_option linter.unusedSimpArgs false
open Go.RowKit

theorem infoI11 : (Try.prog.info? 3).map (fun i => (i.zero, i.size, i.bytes)) = some (some (.int .i64 0), 1, 8) := by kernel_rfl
/-- The first k of 32 ints are 3. -/
def arr3 (k : Nat) : Array Value := (List.replicate k (Value.int .i64 3) ++ List.replicate (32 - k) (Value.int .i64 0)).toArray
theorem run_make32 (w : World) : (Instr.makeSlice 37 (.int .i64 32) (.int .i64 32)).run Try.prog w = .ok (.slice (some ⟨w.heap.size, 0, none⟩) 32 32) (w.alloc (.cells (arr3 0) 3)) := by
  obtain ⟨i0, hi, hz0, hz1, hz2⟩ := info_parts infoI11
  have h := run_make w 37 3 i0 (.int .i64 0) Try.underlying37 hi hz0 .i64 .i64 32 32 (by omega) (by omega) (by rw [hz2]; omega) (by omega)
  rw [hz1] at h
  have e : madeCells (Value.int .i64 0).cells 32 = arr3 0 := by kernel_rfl
  rw [show Int.toNat 32 * 1 = 32 from rfl, e] at h
  exact h
theorem arr3_get (k : Nat) (hk : k < 32) : (arr3 k)[k]? = some (.int .i64 0) := by
  simp [arr3, List.getElem?_append_right, List.getElem?_replicate, hk]
  omega
theorem arr3_set (k : Nat) (hk : k < 32) : (arr3 k).setIfInBounds k (.int .i64 3) = arr3 (k + 1) := by
  apply Array.ext'
  simp only [arr3, Array.toList_setIfInBounds]
  rw [List.set_append_right _ _ (by simp)]
  simp only [List.length_replicate, Nat.sub_self]
  rw [show 32 - k = (32 - (k + 1)) + 1 by omega, List.replicate_succ, List.set_cons_zero, List.replicate_succ' (n := k), List.append_assoc]
  rfl
theorem arr3_is {w : World} {B : Nat} (h : Blk w B (arr3 32) 3) : Is w (some ⟨B, 0, none⟩) 32 (List.replicate 32 3) := by
  refine ⟨by simp, by simp [maxLen], ?_, fun _ => ⟨B, 0, rfl, fun j hj => ?_⟩⟩
  · intro x hx
    rw [List.eq_of_mem_replicate hx]
    decide
  · rw [List.length_replicate] at hj
    rw [Nat.zero_add, h.cell j]
    simp only [arr3, Nat.sub_self, List.replicate_zero, List.append_nil, List.getElem?_toArray, List.getD]
    rw [List.getElem?_replicate, if_pos hj, List.getElem?_replicate, if_pos hj]
    rfl
theorem al16 : (afFa Fa.zero (List.replicate 16 3)) = ⟨128, 0, false⟩ ∧ afE Fa.zero (List.replicate 16 3) = 0 := ⟨by kernel_rfl, by kernel_rfl⟩
theorem al32 : (afFa Fa.zero (List.replicate 32 3)) = ⟨256, 0, true⟩ ∧ afE Fa.zero (List.replicate 32 3) = 0 := ⟨by kernel_rfl, by kernel_rfl⟩

set_option maxHeartbeats 1600000 in
set_option maxRecDepth 100000 in
theorem alive11_any (w : World) : Calls Try.prog 8 #[] w fun e w' => e = .returned (.bool true) ∧ Nb w w' := by
  have hmk := run_make32
  have h16 := fun w' (a : Option Addr) (c : Nat) (h : Is w' a c (List.replicate 32 3)) => fafter11_any Fa.zero a c ((List.replicate 32 3).take 16) w' (h.head 16)
  have h32 := fun w' (a : Option Addr) (c : Nat) (h : Is w' a c (List.replicate 32 3)) => fafter11_any Fa.zero a c (List.replicate 32 3) w' h
  have hm := fun w' => fmode11_any ⟨128, 0, false⟩ w'
  rw [show (List.replicate 32 (3 : Int)).take 16 = List.replicate 16 3 by decide, al16.1, al16.2] at h16
  rw [al32.1, al32.2] at h32
  simp only [Fa.cs, Fa.zero, List.length_replicate] at h16 h32 hm
  rw [show (if okFa ⟨128, 0, false⟩ = true then isFa ⟨128, 0, false⟩ else 0) = 1 by decide +kernel, show errFa ⟨128, 0, false⟩ = 0 by decide +kernel] at hm
  have H16 := Lib.hid h16
  have H32 := Lib.hid h32
  have HM := Lib.hid hm
  have hcut := run_cutHI (some ⟨w.heap.size, 0, none⟩) 32 32 16 (by omega)
  clear h16 h32 hm
  have HB0 := Lib.hid (Blk.new w (arr3 0) 3)
  go_enter Try.func8, Try.ntmps8
  go_wp2
  obtain ⟨w0, hw0⟩ : ∃ w0, w0 = w.alloc (.cells (arr3 0) 3) := ⟨_, rfl⟩
  rw [← hw0] at HB0 ⊢
  have N0 := Lib.hid (show Nb w w0 by rw [hw0]; exact Nb.rfl.al _)
  clear hw0
  go_loopw [12] (fun ix wr => ∃ k : Nat, k ≤ 32 ∧ ix = .int .i64 k ∧ Blk wr w.heap.size (arr3 k) 3 ∧ Nb w wr) (fun ix _ => 32 - (intOf ix).toNat)
  case atStart => exact ⟨0, by omega, rfl, HB0.out, N0.out⟩
  case round =>
    obtain ⟨k, hk, rfl, hb, hnb⟩ := hrel
    have B := Lib.hid hb
    have N := Lib.hid hnb
    by_cases hlt : k < 32
    · have c0 : wr.cell? ⟨w.heap.size, k, none⟩ = some (.int .i64 0) := (hb.cell k).trans (arr3_get k hlt)
      have f0 := hb.frozen k
      have hl := hb.lt
      have HS := Lib.hid (show Blk (wr.setCell ⟨w.heap.size, k, none⟩ (.int .i64 3)) w.heap.size (arr3 (k + 1)) 3 by rw [← arr3_set k hlt]; exact hb.set k _)
      have k32 : (k : Int) < 32 := by omega
      clear hb hnb
      go_wp2
      go_roundw
      case rel => exact ⟨k + 1, by omega, by go_num, HS.out, Nb.st N.out (Nat.le_refl _) _⟩
      case measure => simp [intOf]; omega
    · obtain rfl : k = 32 := by omega
      have I := Lib.hid (fun w' (n : Nb wr w') => (arr3_is hb).below n)
      clear hb hnb hlt
      go_wp2_with fail
      refine (H16.out _ _ _ (I.out _ Nb.rfl)).mono ?_
      rintro e w1 ⟨rfl, n1⟩
      have N1 := Lib.hid n1
      clear n1
      obtain ⟨z1, hz1⟩ : ∃ z1, z1 = w1.alloc (.cells #[.int .i64 128, .int .i64 0, .bool false] 25) := ⟨_, rfl⟩
      have X1 := Lib.hid (show Blk z1 w1.heap.size #[.int .i64 128, .int .i64 0, .bool false] 25 by rw [hz1]; exact Blk.new _ _ _)
      have M1 := Lib.hid (show Nb wr z1 by rw [hz1]; exact Nb.al N1.out _)
      have HZ1 := Lib.hid hz1
      clear hz1
      go_wp2_with fail
      rw [← HZ1.out]
      refine (H32.out _ _ _ (I.out _ M1.out)).mono ?_
      rintro e w2 ⟨rfl, n2⟩
      have M2 := Lib.hid (M1.out.tr n2)
      have X2 := Lib.hid (X1.out.nb n2)
      have x0 : w2.cell? ⟨w1.heap.size, 0, none⟩ = some (.int .i64 128) := X2.out.cell 0
      have x1 : w2.cell? ⟨w1.heap.size, 1, none⟩ = some (.int .i64 0) := X2.out.cell 1
      have x2 : w2.cell? ⟨w1.heap.size, 2, none⟩ = some (.bool false) := X2.out.cell 2
      have l2 := X2.out.lt
      clear n2 HZ1
      go_wp2_with fail
      refine (HM.out _).mono ?_
      rintro e w3 ⟨rfl, n3⟩
      have n23 : Nb w2 w3 := (Nb.rfl.al _).tr n3
      have X3 := X2.out.nb n23
      have Y3 := (Blk.new w2 #[.int .i64 256, .int .i64 0, .bool true] 25).nb n3
      have a0 : w3.cell? ⟨w1.heap.size, 0, none⟩ = some (.int .i64 128) := X3.cell 0
      have b2 : w3.cell? ⟨w2.heap.size, 2, none⟩ = some (.bool true) := Y3.cell 2
      have M3 := Lib.hid (N.out.tr (M2.out.tr n23))
      clear n3 n23 X3 Y3 x0 x1 x2
      go_wp2
      go_ret
      exact ⟨rfl, M3.out⟩
end Go.Proofs.Ytahemoakehbchaa
