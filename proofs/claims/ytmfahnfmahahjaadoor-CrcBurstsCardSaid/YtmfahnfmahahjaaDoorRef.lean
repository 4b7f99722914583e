/- Contracts of the document's Bits, Put, Get, Bytes, Pack and Text. Condition: at most a million bytes. -/
import Derived.Test.YtmfahnfmahahjaaDoorRead
import Derived.Test.YtmfahnfmahahjaaDoorRun
/-
  The document's answers.
-/
namespace Go.Proofs.YtmfahnfmahahjaaDoor
open Go.RowKit

theorem run_makeFull (w : World) (n : Nat) (hn : n ≤ 140737488355328) : (Instr.makeSlice 23 (.int .i64 (n : Int)) (.int .i64 (n : Int))).run Tryd.prog w = .ok (.slice (some ⟨w.heap.size, 0, none⟩) n n) (w.alloc (.cells (madeCells #[.int .u8 0] n) 5)) := by
  obtain ⟨i0, hi, hz0, hz1, hz2⟩ := info_parts infoU8
  have h := run_make w 23 5 i0 (.int .u8 0) Tryd.underlying23 hi hz0 .i64 .i64 n n (by omega) (by omega) (by rw [hz2]; omega) (by omega)
  rw [hz1] at h
  simpa [Value.cells] using h

theorem madeCells_toList (n : Nat) : (madeCells #[.int .u8 0] n).toList = List.replicate n (.int .u8 0) := by
  apply List.ext_getElem?
  intro i
  by_cases hi : i < n
  · simp [madeCells, hi, List.getElem?_replicate, Nat.mod_one]
  · simp [madeCells, hi, List.getElem?_replicate]

theorem OwnB.full (w : World) (n : Nat) (hn : n ≤ 140737488355328) : OwnB (w.alloc (.cells (madeCells #[.int .u8 0] n) 5)) (.slice (some ⟨w.heap.size, 0, none⟩) n n) (List.replicate n 0) := by
  refine ⟨⟨by simp, .inr ⟨w.heap.size, n, madeCells #[.int .u8 0] n, by simp, Nat.zero_le _, heap_alloc_new w _, by simp, by unfold maxLen; omega, by simp [size_madeCells], ?_⟩⟩, by simp⟩
  rw [madeCells_toList]
  simp

theorem OwnB.nil (w : World) : OwnB w (.slice none 0 0) [] := ⟨World.ownsRow_nil _ _ _ _, by simp⟩
theorem OwnB.drewN {w : World} {v : Value} {l : List Nat} (h : OwnB w v l) (n : Nat) : OwnB (w.drewN n) v l := h

set_option maxHeartbeats 800000 in
set_option maxRecDepth 100000 in
theorem refbits_any (n size : Nat) (w : World) (hn : n < 2 ^ 64) (hs : size ≤ 64) :
    Calls Tryd.prog 30 #[.int .u64 n, .int .i64 size] w fun e w' => (∃ a c, e = .returned (.slice a size c) ∧ Bs w' a c (bitsN n size)) ∧ Nb w w' := by
  have hm : ∀ w, (Instr.makeSlice 23 (.int .i64 (size : Int)) (.int .i64 (size : Int))).run Tryd.prog w = _ := fun w => run_makeFull w size (by omega)
  have h0 := OwnB.full w size (by omega)
  have HO := Lib.hid h0
  have HN := Lib.hid hn
  clear h0 hn
  go_enter Tryd.func30, Tryd.ntmps30
  go_wp2
  go_loopw [0, 6] (fun m i wr => ∃ k : Nat, k ≤ size ∧ i = .int .i64 ((k : Int) - 1) ∧ m = .int .u64 ((n / 2 ^ (size - k) : Nat) : Int) ∧ OwnB wr (.slice (some ⟨w.heap.size, 0, none⟩) size size) (List.replicate k 0 ++ (bitsN n size).drop k) ∧ Nb w wr) (fun _ i _ => (intOf i + 1).toNat)
  case atStart =>
    refine ⟨size, Nat.le_refl _, rfl, by simp, ?_, Nb.rfl.al _⟩
    rw [List.drop_of_length_le (by rw [bitsN_length]; exact Nat.le_refl _), List.append_nil]
    exact HO.out
  case round =>
    obtain ⟨k, hk, rfl, rfl, ho, hnb⟩ := hrel
    cases k with
    | succ k =>
      have hlen : (List.replicate (k + 1) 0 ++ (bitsN n size).drop (k + 1)).length = size := by simp [bitsN_length]; omega
      have hf : wr.frozen? ⟨w.heap.size, k, none⟩ = false := ho.frozen rfl _
      have hc : wr.cell? ⟨w.heap.size, k, none⟩ = some (.int .u8 ((0 : Nat) : Int)) := by
        obtain ⟨a, cp, hv, hbs, _⟩ := ho.bs
        obtain ⟨b, o, rfl, hcl⟩ := hbs.hcells (by omega)
        simp only [Value.slice.injEq, Option.some.injEq, Addr.mk.injEq, and_true] at hv
        obtain ⟨⟨rfl, rfl⟩, _, rfl⟩ := hv
        have h3 := hcl k (by omega)
        rw [Nat.zero_add] at h3
        rw [h3]
        simp [List.getD, List.getElem?_append_left, List.getElem?_replicate]
      have hq : n / 2 ^ (size - (k + 1)) < 2 ^ 64 := Nat.lt_of_le_of_lt (Nat.div_le_self _ _) HN.out
      have hset := ho.setByte (g := w.heap.size) rfl k (by omega) (n / 2 ^ (size - (k + 1)) % 2) (by omega)
      have e1 : (List.replicate (k + 1) 0 ++ (bitsN n size).drop (k + 1)).set k (n / 2 ^ (size - (k + 1)) % 2) = List.replicate k 0 ++ (bitsN n size).drop k := by
        rw [List.drop_eq_getElem_cons (i := k) (by rw [bitsN_length]; omega), List.replicate_succ', List.append_assoc, List.set_append_right _ _ (by simp)]
        simp [bitsN, show size - 1 - k = size - (k + 1) from by omega]
      rw [e1] at hset
      have e2 : n / 2 ^ (size - (k + 1)) / 2 = n / 2 ^ (size - k) := by rw [Nat.div_div_eq_div_mul, ← Nat.pow_succ, show (size - (k + 1)).succ = size - k from by omega]
      have HS := Lib.hid hset
      have HE := Lib.hid e2
      have d1 : (k : Int) + 1 - 1 = k := by omega
      clear hset e1 e2 ho hlen
      rw [show ((k + 1 : Nat) : Int) - 1 = (k : Int) from by omega]
      clear d1
      generalize n / 2 ^ (size - (k + 1)) = q at *
      have dq : ((q % 2 : Nat) : Int) = ((q : Int) % 2) := by omega
      have DQ := Lib.hid dq
      clear dq
      go_wp2
      go_roundw
      case rel =>
        refine ⟨k, by omega, rfl, ?_, ?_, hnb.st (by simp) _⟩
        · rw [← HE.out]; go_num
        · rw [← DQ.out]; exact HS.out
      case measure => simp [intOf]
    | zero =>
      have hl : (List.replicate 0 0 ++ (bitsN n size).drop 0) = bitsN n size := by simp
      rw [hl] at ho
      obtain ⟨a, c, hv, hbs, _⟩ := ho.bs
      simp only [Value.slice.injEq, bitsN_length, true_and] at hv
      obtain ⟨rfl, rfl⟩ := hv
      clear ho hl
      go_wp2
      go_ret
      exact ⟨⟨_, _, rfl, hbs⟩, hnb⟩

theorem packN_take_succ (l : List Nat) (m : Nat) (h : m < l.length / 8) : (packN l).take (m + 1) = (packN l).take m ++ [numN ((l.drop (8 * m)).take 8)] :=
  take_snoc' (by simp only [packN, List.getElem?_map, List.getElem?_range h, Option.map_some])

/-- A piece of a slice of bytes, behind its beginning. -/
theorem Bs.cut {w : World} {b o cap : Nat} {l : List Nat} (h : Bs w (some ⟨b, o, none⟩) cap l) (i n : Nat) (hi : i + n ≤ l.length) : Bs w (some ⟨b, o + i, none⟩) (cap - i) ((l.drop i).take n) := by
  have hlen : ((l.drop i).take n).length = n := by rw [List.length_take, List.length_drop]; omega
  have hc := h.hcap
  have hm := h.hmax
  refine ⟨by omega, by omega, fun x hx => h.hbyte x (List.mem_of_mem_drop (List.mem_of_mem_take hx)), fun h0 => ⟨b, o + i, rfl, fun j hj => ?_⟩⟩
  obtain ⟨b', o', he, hcl⟩ := h.hcells (by omega)
  simp only [Option.some.injEq, Addr.mk.injEq, and_true] at he
  obtain ⟨rfl, rfl⟩ := he
  have := hcl (i + j) (by omega)
  rw [Nat.add_assoc, this]
  simp [List.getD, show j < n by omega]

end Go.Proofs.YtmfahnfmahahjaaDoor
