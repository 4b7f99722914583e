
/- Contracts of newRow, number, octet, each over bytes, and Put. Conditions: sizes below 2 to the 46. -/
import Derived.Test.YtaiplhlcldbnkaaDoorRow
/-
  A number's bits appended to a row; a byte's; all bytes handed on ('each').
-/
namespace Go.Proofs.YtaiplhlcldbnkaaDoor
set_option linter.unusedVariables false
set_option linter.unusedSimpArgs false
open Go.RowKit

/-- A number's bits, the highest first. -/
def bitsN (n size : Nat) : List Nat := (List.range size).map fun i => n / 2 ^ (size - 1 - i) % 2
theorem bitsN_length (n size : Nat) : (bitsN n size).length = size := by simp [bitsN]
theorem bitsN_take_succ (n size k : Nat) (h : k < size) : (bitsN n size).take (k + 1) = (bitsN n size).take k ++ [n / 2 ^ (size - 1 - k) % 2] := by
  rw [List.take_add_one, List.getElem?_eq_getElem (by rw [bitsN_length]; exact h)]
  simp [bitsN]
theorem bitsN_lt (n size : Nat) : ∀ x ∈ bitsN n size, x < 2 := by
  intro x hx
  obtain ⟨i, _, rfl⟩ := List.mem_map.1 hx
  omega

set_option maxHeartbeats 800000 in
set_option maxRecDepth 100000 in
theorem rownumber_any (R : Nat) (v : Value) (l : List Nat) (n size : Nat) (w : World) (h : RowAt w 103 R v l) (hn : n < 2 ^ 64) (hs : size ≤ 64) (hl : l.length < 70368744170000) :
    Calls Tryd.prog 71 #[.pointer (some ⟨R, 0, none⟩), .int .u64 n, .int .i64 size] w fun e w' => e = .returned (.tuple #[]) ∧ RowStep w 103 R v (l ++ bitsN n size) w' := by
  go_enter Tryd.func71, Tryd.ntmps71
  go_wp2
  go_loopw [8] (fun i wr => ∃ k : Nat, k ≤ size ∧ i = .int .i64 k ∧ RowStep w 103 R v (l ++ (bitsN n size).take k) wr) (fun i _ => size - (intOf i).toNat)
  case atStart => exact ⟨0, Nat.zero_le _, rfl, v, by simpa using h, Kp.rfl, fun k hk => .inl hk⟩
  case round =>
    obtain ⟨k, hk, rfl, v1, hr, hkp, hfo⟩ := hrel
    have hX : Hid (n < 2 ^ 64) := Lib.hid hn
    clear hn h
    by_cases hlt : k < size
    · have hbit : bits BinOp.and IntKind.u64 ((n : Int) / 2 ^ (size - 1 - k)) 1 % 256 = ((n / 2 ^ (size - 1 - k) % 2 : Nat) : Int) := by
        have e : ((n : Int) / 2 ^ (size - 1 - k)) = ((n / 2 ^ (size - 1 - k) : Nat) : Int) := by push_cast; rfl
        have : n / 2 ^ (size - 1 - k) ≤ n := Nat.div_le_self _ _
        have := hX.out
        rw [e]
        generalize n / 2 ^ (size - 1 - k) = q at *
        rw [and_one_u64 _ (by omega) (by omega)]
        omega
      have ht := bitsN_take_succ n size k hlt
      have HB := Lib.hid hbit
      have HT := Lib.hid ht
      clear hbit ht
      go_wp2_with fail
      rw [HB.out]
      refine (rowbit_any R v1 (l ++ (bitsN n size).take k) (n / 2 ^ (size - 1 - k) % 2) wr hr (by omega) (by simp [bitsN_length]; omega)).mono ?_
      rintro e w' ⟨rfl, v2, hr2, hkp2, hfo2⟩
      go_wp2
      go_roundw
      case rel =>
        refine ⟨k + 1, by omega, by go_num, v2, ?_, hkp.tr hkp2 hfo, fun j hj => ?_⟩
        · rw [HT.out, ← List.append_assoc]
          exact hr2
        · rcases hfo2 j hj with h1 | h1
          · exact hfo j h1
          · exact .inr (Nat.le_trans hkp.size h1)
      case measure => simp [intOf]; omega
    · obtain rfl : k = size := by omega
      go_wp2
      go_end0
      exact ⟨rfl, v1, by rw [List.take_of_length_le (by simp [bitsN_length])] at hr; exact hr, hkp, hfo⟩

theorem RowStep.size {w : World} {t : TypeId} {R : Nat} {v : Value} {l : List Nat} {w' : World} (h : RowStep w t R v l w') : w.heap.size ≤ w'.heap.size := by
  obtain ⟨_, _, h, _⟩ := h
  exact h.size

set_option maxHeartbeats 800000 in
set_option maxRecDepth 100000 in
theorem run_makeB (w : World) (n : Nat) (hn : n ≤ 140737488355328) : (Instr.makeSlice 23 (.int .i64 0) (.int .i64 (n : Int))).run Tryd.prog w = .ok (.slice (some ⟨w.heap.size, 0, none⟩) 0 n) (w.alloc (.cells (madeCells #[.int .u8 0] n) 5)) := by
  obtain ⟨i0, hi, hz0, hz1, hz2⟩ := info_parts infoU8
  have h := run_make w 23 5 i0 (.int .u8 0) Tryd.underlying23 hi hz0 .i64 .i64 0 n (by omega) (by omega) (by rw [hz2]; omega) (by omega)
  rw [hz1] at h
  simpa [Value.cells] using h

theorem OwnB.made (w : World) (n : Nat) (hn : n ≤ 140737488355328) : OwnB (w.alloc (.cells (madeCells #[.int .u8 0] n) 5)) (.slice (some ⟨w.heap.size, 0, none⟩) 0 n) [] :=
  ⟨World.ownsRow_made w _ n (Nat.zero_le _) (by unfold maxLen; omega) (by simp [size_madeCells]), by simp⟩

set_option maxHeartbeats 800000 in
set_option maxRecDepth 100000 in
/-- The object of a new row: still by value. -/
theorem newRow_any (n : Nat) (w : World) (hn : n ≤ 140737488355328) :
    Calls Tryd.prog 70 #[.int .i64 n] w fun e w' => (∃ g c, e = .returned (.agg #[.slice (some ⟨g, 0, none⟩) 0 c]) ∧ OwnB w' (.slice (some ⟨g, 0, none⟩) 0 c) [] ∧ w.heap.size ≤ g) ∧ Nb w w' := by
  have hm : ∀ w, (Instr.makeSlice 23 (.int .i64 0) (.int .i64 (n : Int))).run Tryd.prog w = _ := fun w => run_makeB w n hn
  have hfin := OwnB.made (w.alloc (.cells #[.slice (some ⟨w.heap.size + 1, 0, none⟩) 0 n] 103)) n hn
  have HF := Lib.hid hfin
  clear hfin
  go_enter Tryd.func70, Tryd.ntmps70
  go_wp2
  refine bodyPost_ret (v := .agg #[.slice (some ⟨w.heap.size + 1, 0, none⟩) 0 n]) (by simp [results, Tryd.results70, go_sem]) rfl ⟨⟨_, _, rfl, ?_, ?_⟩, ?_⟩
  · simpa using HF.out
  · omega
  · exact (Nb.rfl.al _).al _

/-- Whether the bits of n fit into so many. -/
def PutOk (n : Nat) (size : Int) : Prop := 0 ≤ size ∧ size ≤ 64 ∧ n < 2 ^ size.toNat

set_option maxHeartbeats 800000 in
set_option maxRecDepth 100000 in
theorem put_ok (n size : Nat) (w : World) (hs : size ≤ 64) (hn : n < 2 ^ size) :
    Calls Tryd.prog 54 #[.int .u64 n, .int .i64 size] w fun e w' => (∃ a c, e = .returned (.tuple #[.slice a size c, .int .i64 0]) ∧ Bs w' a c (bitsN n size)) ∧ Nb w w' := by
  have hn64 : n < 2 ^ 64 := Nat.lt_of_lt_of_le hn (Nat.pow_le_pow_right (by omega) hs)
  have hsh : ((n : Int) / 2 ^ size != 0) = false := by
    have : ((n : Int) / 2 ^ size) = ((n / 2 ^ size : Nat) : Int) := by push_cast; rfl
    rw [this, Nat.div_eq_of_lt hn]; rfl
  have d1 : decide ((size : Int) < 0) = false := by simp
  have d2 : decide (64 < (size : Int)) = false := by simp; omega
  have HN := Lib.hid hn64
  clear hn hn64
  go_enter Tryd.func54, Tryd.ntmps54
  go_wp2_with fail
  refine (newRow_any size _ (by omega)).mono ?_
  rintro e w1 ⟨⟨g, c, rfl, ho, hg⟩, hnb⟩
  have hal : Kp (fun _ => False) w1 (w1.alloc (.cells #[.slice (some ⟨g, 0, none⟩) 0 c] 103)) := Kp.alloc
  have hlt := ho.lt (g := g) rfl
  have hrow : RowAt (w1.alloc (.cells #[.slice (some ⟨g, 0, none⟩) 0 c] 103)) 103 w1.heap.size (.slice (some ⟨g, 0, none⟩) 0 c) [] :=
    ⟨Blk.new _ _ _, ho.keep hal (by simp), by simp [Value.ownBlock]; omega⟩
  have HR := Lib.hid hrow
  clear hrow ho hal
  go_wp2_with fail
  refine (rownumber_any w1.heap.size _ [] n size _ HR.out HN.out hs (by simp)).mono ?_
  rintro e w2 ⟨rfl, v2, hr2, hkp, _⟩
  obtain ⟨a, cap, rfl, hbs, _⟩ := hr2.own.bs
  have c0 : w2.cell? ⟨w1.heap.size, 0, none⟩ = _ := hr2.blk.cell 0
  have hnb2 : Nb w w2 := (hnb.al _).trans (hkp.toBelow (Nat.le_trans hnb.size (by simp)) (by rintro k (rfl | hk); exact hnb.size; simp [Value.ownBlock] at hk; omega))
  rw [List.nil_append] at hbs c0
  rw [bitsN_length] at c0
  clear hr2 hkp
  go_wp2
  go_ret2
  exact ⟨⟨a, cap, rfl, hbs⟩, hnb2⟩

set_option maxHeartbeats 800000 in
set_option maxRecDepth 100000 in
theorem put_bad (n : Nat) (size : Int) (w : World) (hn : n < 2 ^ 64) (h : ¬ PutOk n size) :
    Calls Tryd.prog 54 #[.int .u64 n, .int .i64 size] w fun e w' => e = .returned (.tuple #[.slice none 0 0, .int .i64 2]) ∧ Nb w w' := by
  have HN := Lib.hid hn
  have H := Lib.hid h
  clear hn h
  by_cases h0 : size < 0
  · go_enter Tryd.func54, Tryd.ntmps54
    go_wp2
    go_ret2
    exact ⟨rfl, Nb.rfl⟩
  by_cases h1 : 64 < size
  · go_enter Tryd.func54, Tryd.ntmps54
    go_wp2
    go_ret2
    exact ⟨rfl, Nb.rfl⟩
  obtain ⟨m, rfl⟩ := Int.eq_ofNat_of_zero_le (by omega : 0 ≤ size)
  have h2 : ((n : Int) / 2 ^ m != 0) = true := by
    have h := H.out
    unfold PutOk at h
    have e : ((n : Int) / 2 ^ m) = ((n / 2 ^ m : Nat) : Int) := by push_cast; rfl
    rw [e]
    have : n / 2 ^ m ≠ 0 := by
      intro hz
      rcases Nat.div_eq_zero_iff.1 hz with h' | h'
      · have := Nat.two_pow_pos m; omega
      · exact h ⟨by omega, by omega, by simpa using h'⟩
    rw [bne_iff_ne]
    omega
  have d1 : decide ((m : Int) < 0) = false := by simp
  have d2 : decide (64 < (m : Int)) = false := by simp; omega
  go_enter Tryd.func54, Tryd.ntmps54
  go_wp2
  go_ret2
  exact ⟨rfl, Nb.rfl⟩

end Go.Proofs.YtaiplhlcldbnkaaDoor
