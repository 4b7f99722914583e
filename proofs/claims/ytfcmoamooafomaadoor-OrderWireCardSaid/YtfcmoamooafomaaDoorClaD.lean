
/- Contract of package classic's putHead: the head of a frame behind a row. No conditions but sizes. -/
import Derived.Test.YtfcmoamooafomaaDoorRwC
namespace Go.Proofs.YtfcmoamooafomaaDoor
set_option linter.unusedVariables false
set_option linter.unusedSimpArgs false
open Go.RowKit

theorem and_u32 (a b : Nat) (ha : a < 4294967296) (hb : b < 4294967296) : bits BinOp.and IntKind.u32 (a : Int) (b : Int) = ((a &&& b : Nat) : Int) := by
  have hx : a &&& b < 2 ^ 32 := Nat.and_lt_two_pow _ (by omega)
  have h1 : (BitVec.ofInt 32 (a : Int)).toNat = a := by rw [BitVec.ofInt_natCast, BitVec.toNat_ofNat]; exact Nat.mod_eq_of_lt (by omega)
  have h2 : (BitVec.ofInt 32 (b : Int)).toNat = b := by rw [BitVec.ofInt_natCast, BitVec.toNat_ofNat]; exact Nat.mod_eq_of_lt (by omega)
  show IntKind.u32.wrap ((BitVec.ofInt 32 (a : Int) &&& BitVec.ofInt 32 (b : Int)).toNat : Int) = _
  rw [BitVec.toNat_and, h1, h2]
  have hx2 : ((a &&& b : Nat) : Int) < 4294967296 := by omega
  generalize a &&& b = c at *
  simp only [IntKind.wrap, IntKind.bits, IntKind.signed]
  simp
  omega
theorem and18 (i : Nat) (h : i < 4294967296) : bits BinOp.and IntKind.u32 (i : Int) 262143 = ((i % 262144 : Nat) : Int) := by
  have h2 := and_u32 i (2 ^ 18 - 1) h (by decide)
  rw [Nat.and_two_pow_sub_one_eq_mod] at h2
  exact h2

set_option maxHeartbeats 1000000 in
set_option maxRecDepth 100000 in
theorem puthead_std (i : Nat) (K : Int) (R B E S : Bool) (D V A : Int) (dv : Value) (R0 : Nat) (v : Value) (l : List Nat) (w : World) (h : RowAt w 103 R0 v l) (hi : i < 536870912) (hx : i < 2048) (hl : l.length ≤ 100000) :
    Calls Tryd.prog 84 #[.agg #[.int .i64 K, .int .u32 i, .bool false, .bool R, .bool B, .bool E, .bool S, .int .u8 D, .int .u8 V, .int .u32 A, dv], .func (.func 65) #[.pointer (some ⟨R0, 0, none⟩)] #[]] w fun e w' => e = .returned (.tuple #[]) ∧ RowStep w 103 R0 v (l ++ headC false R i) w' := by
  obtain ⟨w1, hw1⟩ : ∃ w1, w1 = w.alloc (.cells #[.int .i64 K, .int .u32 i, .bool false, .bool R, .bool B, .bool E, .bool S, .int .u8 D, .int .u8 V, .int .u32 A, dv] 25) := ⟨_, rfl⟩
  have bx : Blk w1 w.heap.size #[.int .i64 K, .int .u32 i, .bool false, .bool R, .bool B, .bool E, .bool S, .int .u8 D, .int .u8 V, .int .u32 A, dv] 25 := by rw [hw1]; exact Blk.new _ _ _
  have r1 : RowAt w1 103 R0 v l := h.keep (F := fun _ => False) (by rw [hw1]; exact Kp.alloc) (by simp)
  have k1 : Kp (Foot R0 v) w1 w1 := Kp.rfl
  have f1 : ∀ k, Foot R0 v k → Foot R0 v k ∨ w1.heap.size ≤ k := fun _ h => .inl h
  have hnb : ¬ Foot R0 v w.heap.size := fun hf => by have := h.lt _ hf; omega
  have K0 := Lib.hid (show Kp (Foot R0 v) w w1 from by rw [hw1]; exact Kp.alloc)
  have BX := Lib.hid bx
  have HNB := Lib.hid hnb
  have W1 := Lib.hid hw1
  clear bx hnb h
  go_enter Tryd.func84, Tryd.ntmps84
  go_wp2_with fail
  rw [← hw1]
  clear hw1
  refine (cput_any R0 v _ 0 1 _ r1 (by omega) (by omega) (by decide) (by (try simp only [List.length_append, bitsN_length]); omega)).mono ?_
  rintro e w2 ⟨rfl, s2⟩
  obtain ⟨v2, r2, k2, f2⟩ := RowStep.tr2 k1 f1 s2
  clear s2 r1 k1 f1
  obtain ⟨c0, c1, c2, c3, c4, c5, c6, c7, c8, c9, c10⟩ := (BX.out.keep k2 HNB.out).c11
  go_wp2_with fail
  refine (cput_any R0 v2 _ i 11 _ r2 (by omega) (by omega) (by omega) (by (try simp only [List.length_append, bitsN_length]); omega)).mono ?_
  rintro e w3 ⟨rfl, s3⟩
  obtain ⟨v3, r3, k3, f3⟩ := RowStep.tr2 k2 f2 s3
  clear s3 r2 k2 f2
  obtain ⟨c0, c1, c2, c3, c4, c5, c6, c7, c8, c9, c10⟩ := (BX.out.keep k3 HNB.out).c11
  go_wp2_with fail
  refine (flag6_any R _).mono ?_
  rintro e w4 ⟨rfl, rfl⟩
  go_wp2_with fail
  refine (cput_any R0 v3 _ (bitB R) 1 _ r3 (by omega) (by omega) (by have := bitB_le R; omega) (by (try simp only [List.length_append, bitsN_length]); omega)).mono ?_
  rintro e w4 ⟨rfl, s4⟩
  obtain ⟨v4, r4, k4, f4⟩ := RowStep.tr2 k3 f3 s4
  clear s4 r3 k3 f3
  obtain ⟨c0, c1, c2, c3, c4, c5, c6, c7, c8, c9, c10⟩ := (BX.out.keep k4 HNB.out).c11
  go_wp2_with fail
  refine (cput_any R0 v4 _ 0 2 _ r4 (by omega) (by omega) (by decide) (by (try simp only [List.length_append, bitsN_length]); omega)).mono ?_
  rintro e w5 ⟨rfl, s5⟩
  obtain ⟨v5, r5, k5, f5⟩ := RowStep.tr2 k4 f4 s5
  clear s5 r4 k4 f4
  obtain ⟨c0, c1, c2, c3, c4, c5, c6, c7, c8, c9, c10⟩ := (BX.out.keep k5 HNB.out).c11
  go_wp2
  go_end0
  refine ⟨rfl, RowStep.tr2 K0.out (fun _ h => .inl h) ⟨_, ?_, k5, f5⟩⟩
  have e : l ++ headC false R i = l ++ bitsN 0 1 ++ bitsN i 11 ++ bitsN (bitB R) 1 ++ bitsN 0 2 := by simp [headC, bitsN_01, bitsN_02, bitsN_32, bitsN_b1]
  rw [e]
  exact r5

set_option maxHeartbeats 1000000 in
set_option maxRecDepth 100000 in
theorem puthead_ext (i : Nat) (K : Int) (R B E S : Bool) (D V A : Int) (dv : Value) (R0 : Nat) (v : Value) (l : List Nat) (w : World) (h : RowAt w 103 R0 v l) (hi : i < 536870912) (hl : l.length ≤ 100000) :
    Calls Tryd.prog 84 #[.agg #[.int .i64 K, .int .u32 i, .bool true, .bool R, .bool B, .bool E, .bool S, .int .u8 D, .int .u8 V, .int .u32 A, dv], .func (.func 65) #[.pointer (some ⟨R0, 0, none⟩)] #[]] w fun e w' => e = .returned (.tuple #[]) ∧ RowStep w 103 R0 v (l ++ headC true R i) w' := by
  obtain ⟨w1, hw1⟩ : ∃ w1, w1 = w.alloc (.cells #[.int .i64 K, .int .u32 i, .bool true, .bool R, .bool B, .bool E, .bool S, .int .u8 D, .int .u8 V, .int .u32 A, dv] 25) := ⟨_, rfl⟩
  have bx : Blk w1 w.heap.size #[.int .i64 K, .int .u32 i, .bool true, .bool R, .bool B, .bool E, .bool S, .int .u8 D, .int .u8 V, .int .u32 A, dv] 25 := by rw [hw1]; exact Blk.new _ _ _
  have r1 : RowAt w1 103 R0 v l := h.keep (F := fun _ => False) (by rw [hw1]; exact Kp.alloc) (by simp)
  have k1 : Kp (Foot R0 v) w1 w1 := Kp.rfl
  have f1 : ∀ k, Foot R0 v k → Foot R0 v k ∨ w1.heap.size ≤ k := fun _ h => .inl h
  have hnb : ¬ Foot R0 v w.heap.size := fun hf => by have := h.lt _ hf; omega
  have K0 := Lib.hid (show Kp (Foot R0 v) w w1 from by rw [hw1]; exact Kp.alloc)
  have BX := Lib.hid bx
  have HNB := Lib.hid hnb
  have E1 := Lib.hid (show ((i / 262144 : Nat) : Int) = (i : Int) / 262144 from by omega)
  have E2 := Lib.hid (and18 i (by omega))
  clear bx hnb h
  go_enter Tryd.func84, Tryd.ntmps84
  go_wp2_with fail
  rw [← hw1]
  clear hw1
  refine (cput_any R0 v _ 0 1 _ r1 (by omega) (by omega) (by decide) (by (try simp only [List.length_append, bitsN_length]); omega)).mono ?_
  rintro e w2 ⟨rfl, s2⟩
  obtain ⟨v2, r2, k2, f2⟩ := RowStep.tr2 k1 f1 s2
  clear s2 r1 k1 f1
  obtain ⟨c0, c1, c2, c3, c4, c5, c6, c7, c8, c9, c10⟩ := (BX.out.keep k2 HNB.out).c11
  go_wp2_with fail
  have hc := cput_any R0 v2 _ (i / 262144) 11 w2 r2 (by omega) (by omega) (by omega) (by (try simp only [List.length_append, bitsN_length]); omega)
  rw [E1.out] at hc
  refine hc.mono ?_
  clear hc
  rintro e w3 ⟨rfl, s3⟩
  obtain ⟨v3, r3, k3, f3⟩ := RowStep.tr2 k2 f2 s3
  clear s3 r2 k2 f2
  obtain ⟨c0, c1, c2, c3, c4, c5, c6, c7, c8, c9, c10⟩ := (BX.out.keep k3 HNB.out).c11
  go_wp2_with fail
  refine (cput_any R0 v3 _ 3 2 _ r3 (by omega) (by omega) (by decide) (by (try simp only [List.length_append, bitsN_length]); omega)).mono ?_
  rintro e w4 ⟨rfl, s4⟩
  obtain ⟨v4, r4, k4, f4⟩ := RowStep.tr2 k3 f3 s4
  clear s4 r3 k3 f3
  obtain ⟨c0, c1, c2, c3, c4, c5, c6, c7, c8, c9, c10⟩ := (BX.out.keep k4 HNB.out).c11
  go_wp2_with fail
  have hc := cput_any R0 v4 _ (i % 262144) 18 w4 r4 (by omega) (by omega) (by omega) (by (try simp only [List.length_append, bitsN_length]); omega)
  rw [← E2.out] at hc
  refine hc.mono ?_
  clear hc
  rintro e w5 ⟨rfl, s5⟩
  obtain ⟨v5, r5, k5, f5⟩ := RowStep.tr2 k4 f4 s5
  clear s5 r4 k4 f4
  obtain ⟨c0, c1, c2, c3, c4, c5, c6, c7, c8, c9, c10⟩ := (BX.out.keep k5 HNB.out).c11
  go_wp2_with fail
  refine (flag6_any R _).mono ?_
  rintro e w6 ⟨rfl, rfl⟩
  go_wp2_with fail
  refine (cput_any R0 v5 _ (bitB R) 1 _ r5 (by omega) (by omega) (by have := bitB_le R; omega) (by (try simp only [List.length_append, bitsN_length]); omega)).mono ?_
  rintro e w6 ⟨rfl, s6⟩
  obtain ⟨v6, r6, k6, f6⟩ := RowStep.tr2 k5 f5 s6
  clear s6 r5 k5 f5
  obtain ⟨c0, c1, c2, c3, c4, c5, c6, c7, c8, c9, c10⟩ := (BX.out.keep k6 HNB.out).c11
  go_wp2_with fail
  refine (cput_any R0 v6 _ 0 2 _ r6 (by omega) (by omega) (by decide) (by (try simp only [List.length_append, bitsN_length]); omega)).mono ?_
  rintro e w7 ⟨rfl, s7⟩
  obtain ⟨v7, r7, k7, f7⟩ := RowStep.tr2 k6 f6 s7
  clear s7 r6 k6 f6
  obtain ⟨c0, c1, c2, c3, c4, c5, c6, c7, c8, c9, c10⟩ := (BX.out.keep k7 HNB.out).c11
  go_wp2
  go_end0
  refine ⟨rfl, RowStep.tr2 K0.out (fun _ h => .inl h) ⟨_, ?_, k7, f7⟩⟩
  have e : l ++ headC true R i = l ++ bitsN 0 1 ++ bitsN (i / 262144) 11 ++ bitsN 3 2 ++ bitsN (i % 262144) 18 ++ bitsN (bitB R) 1 ++ bitsN 0 2 := by simp [headC, bitsN_01, bitsN_02, bitsN_32, bitsN_b1]
  rw [e]
  exact r7
end Go.Proofs.YtfcmoamooafomaaDoor
