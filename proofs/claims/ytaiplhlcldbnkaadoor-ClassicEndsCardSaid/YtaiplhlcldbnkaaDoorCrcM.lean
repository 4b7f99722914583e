
/- Contracts of More and Sum, the program's and the document's. Condition: the package's table of kinds holds what the program's text lays there. -/
import Derived.Test.YtaiplhlcldbnkaaDoorCrcW
import Derived.OwnWalk
namespace Go.Proofs.YtaiplhlcldbnkaaDoor
set_option linter.unusedVariables false
set_option linter.unusedSimpArgs false
open Go.RowKit

/-- May this sum go on with this row? -/
def moreOk (k : Int) (s : Nat) (l : List Nat) : Bool := decide (szK k ≠ 0) && decide (s < 2 ^ szK k) && chk l
def moreN (k : Int) (s : Nat) (l : List Nat) : Nat := if moreOk k s l then runC (szK k) (polyK k) s l else 0
def moreE (k : Int) (s : Nat) (l : List Nat) : Nat := if moreOk k s l then 0 else 2

set_option maxHeartbeats 800000 in
set_option maxRecDepth 100000 in
theorem more_ok (k : Int) (s : Nat) (a : Option Addr) (cap : Nat) (l : List Nat) (w : World) (hk : Kinds w) (h : Bs w a cap l) (hz : szK k ≠ 0) (hs : s < 2 ^ szK k) (hc : chk l = true) :
    Calls Tryd.prog 72 #[.int .i64 k, .int .u64 s, .slice a l.length cap] w fun e w' => e = .returned (.tuple #[.int .u64 (runC (szK k) (polyK k) s l), .int .i64 0]) ∧ Nb w w' := by
  have hL := h.len
  have H := Lib.hid h
  have HC := Lib.hid hc
  have hbit := Lib.hid (chk_bit hc)
  obtain ⟨n1, n2, n3, _, _⟩ := kindOk k hz
  have hd1 : ((szK k : Int) == 0) = false := by rw [beq_eq_false_iff_ne]; omega
  have hd2 : ((s : Int) / 2 ^ szK k != 0) = false := by
    have e : ((s : Int) / 2 ^ szK k) = ((s / 2 ^ szK k : Nat) : Int) := by push_cast; rfl
    rw [e, Nat.div_eq_of_lt hs]; rfl
  have HS := Lib.hid hs
  have N3 := Lib.hid n3
  have hmf : ∀ (fn : Fn) (first cap : Array Value) (w : World), (Instr.makeFunc fn first cap).run Tryd.prog w = .ok (.func fn first cap) w := fun _ _ _ _ => rfl
  have hs64 : s < 18446744073709551616 := by
    have : (2 : Nat) ^ szK k ≤ 4294967296 := Nat.pow_le_pow_right (by omega) n2
    omega
  clear h hc hs n3
  go_enter Tryd.func72, Tryd.ntmps72
  go_wp2_with fail
  refine (find_any k w hk).mono ?_
  rintro e w1 ⟨rfl, hnb⟩
  go_wp2_with fail
  refine (check_ok a cap l _ (H.out.below (hnb.al _)) HC.out).mono ?_
  rintro e w2 ⟨rfl, rfl⟩
  go_wp2_with fail
  refine (crceach_any 79 (.pointer (some ⟨w1.heap.size, 0, none⟩)) a cap l (fun j wr => Blk wr w1.heap.size #[.int .i64 (szK k), .int .u64 (polyK k), .int .u64 (startK k), .int .u64 (runC (szK k) (polyK k) s (l.take j))] 115 ∧ Nb w wr) _ hL ⟨Blk.new _ _ _, hnb.al _⟩ (fun j wr hI => H.out.below hI.2) (hcf _ _ Tryd.func79 (by rfl) (by decide +kernel)) ?_).mono ?_
  · rintro j x wr ⟨hb, hn⟩ hx
    refine (take_any w1.heap.size (szK k) (polyK k) (startK k) _ x wr hb (by omega) n2 N3.out (runC_lt N3.out _ _ HS.out) (hbit.out x (List.mem_of_getElem? hx))).mono ?_
    rintro e w' ⟨rfl, hb', hk'⟩
    exact ⟨rfl, by rw [take_snoc' hx, runC_snoc]; exact hb', hn.trans (hk'.toBelow hn.size (by rintro k rfl; exact hnb.size))⟩
  · rintro e w2 ⟨rfl, hb, hn⟩
    rw [List.take_of_length_le (Nat.le_refl _)] at hb
    have c0 : w2.cell? ⟨w1.heap.size, 3, none⟩ = _ := hb.cell 3
    clear hb
    go_wp2
    go_ret2
    exact ⟨rfl, hn⟩

set_option maxHeartbeats 800000 in
set_option maxRecDepth 100000 in
theorem more_bad (k : Int) (s : Nat) (a : Option Addr) (cap : Nat) (l : List Nat) (w : World) (hk : Kinds w) (h : Bs w a cap l) (hs64 : s < 18446744073709551616) (hm : moreOk k s l = false) :
    Calls Tryd.prog 72 #[.int .i64 k, .int .u64 s, .slice a l.length cap] w fun e w' => e = .returned (.tuple #[.int .u64 0, .int .i64 2]) ∧ Nb w w' := by
  have hL := h.len
  by_cases hz : szK k = 0
  · have hd1 : ((szK k : Int) == 0) = true := by rw [beq_iff_eq]; omega
    clear hm
    go_enter Tryd.func72, Tryd.ntmps72
    go_wp2_with fail
    refine (find_any k w hk).mono ?_
    rintro e w1 ⟨rfl, hnb⟩
    go_wp2
    go_ret2
    exact ⟨rfl, hnb.al _⟩
  · obtain ⟨n1, n2, _, _, _⟩ := kindOk k hz
    have hd1 : ((szK k : Int) == 0) = false := by rw [beq_eq_false_iff_ne]; omega
    have e : ((s : Int) / 2 ^ szK k) = ((s / 2 ^ szK k : Nat) : Int) := by push_cast; rfl
    by_cases hs : s < 2 ^ szK k
    · have hc : chk l = false := by simpa [moreOk, hz, hs] using hm
      have H := Lib.hid h
      have HC := Lib.hid hc
      have hd2 : ((s : Int) / 2 ^ szK k != 0) = false := by rw [e, Nat.div_eq_of_lt hs]; rfl
      clear h hc hm e hs
      go_enter Tryd.func72, Tryd.ntmps72
      go_wp2_with fail
      refine (find_any k w hk).mono ?_
      rintro e w1 ⟨rfl, hnb⟩
      go_wp2_with fail
      refine (check_bad a cap l _ (H.out.below (hnb.al _)) HC.out).mono ?_
      rintro e w2 ⟨rfl, rfl⟩
      go_wp2
      go_ret2
      exact ⟨rfl, hnb.al _⟩
    · have hd2 : ((s : Int) / 2 ^ szK k != 0) = true := by
        rw [e, bne_iff_ne]
        have : 0 < s / 2 ^ szK k := Nat.div_pos (by omega) (Nat.two_pow_pos _)
        omega
      clear hm e hs
      go_enter Tryd.func72, Tryd.ntmps72
      go_wp2_with fail
      refine (find_any k w hk).mono ?_
      rintro e w1 ⟨rfl, hnb⟩
      go_wp2
      go_ret2
      exact ⟨rfl, hnb.al _⟩

theorem more_u (k : Int) (s : Nat) (a : Option Addr) (cap : Nat) (l : List Nat) (w : World) (hk : Kinds w) (h : Bs w a cap l) (hs64 : s < 18446744073709551616) :
    Calls Tryd.prog 72 #[.int .i64 k, .int .u64 s, .slice a l.length cap] w fun e w' => e = .returned (.tuple #[.int .u64 (moreN k s l), .int .i64 (moreE k s l)]) ∧ Nb w w' := by
  cases hm : moreOk k s l with
  | true =>
    simp only [moreN, moreE, hm, if_true]
    simp only [moreOk, Bool.and_eq_true, decide_eq_true_eq] at hm
    exact more_ok k s a cap l w hk h hm.1.1 hm.1.2 hm.2
  | false =>
    simp only [moreN, moreE, hm, Bool.false_eq_true, if_false]
    exact more_bad k s a cap l w hk h hs64 hm

theorem startK_lt (k : Int) : startK k < 18446744073709551616 := by
  rcases ruleK_cases k with (rfl | rfl | rfl | rfl | rfl) | ⟨h1, _⟩
  iterate 5 decide
  simp [startK, h1]

def sumN (k : Int) (l : List Nat) : Nat := moreN k (startK k) l
def sumE (k : Int) (l : List Nat) : Nat := moreE k (startK k) l

set_option maxHeartbeats 800000 in
set_option maxRecDepth 100000 in
theorem sum_u (k : Int) (a : Option Addr) (cap : Nat) (l : List Nat) (w : World) (hk : Kinds w) (h : Bs w a cap l) :
    Calls Tryd.prog 56 #[.int .i64 k, .slice a l.length cap] w fun e w' => e = .returned (.tuple #[.int .u64 (sumN k l), .int .i64 (sumE k l)]) ∧ Nb w w' := by
  have hf := @run_rule2
  have H := Lib.hid h
  have HK := Lib.hid hk
  have HS := Lib.hid (startK_lt k)
  clear h hk
  go_enter Tryd.func56, Tryd.ntmps56
  go_wp2_with fail
  refine (find_any k w HK.out).mono ?_
  rintro e w1 ⟨rfl, hnb⟩
  go_wp2_with fail
  refine (more_u k (startK k) a cap l _ (HK.out.below hnb) (H.out.below hnb) HS.out).mono ?_
  rintro e w2 ⟨rfl, hn2⟩
  go_wp2
  go_ret2
  exact ⟨rfl, hnb.tr hn2⟩

/-! The document's own. -/
set_option maxHeartbeats 800000 in
set_option maxRecDepth 100000 in
theorem of_any (k : Int) (w : World) :
    Calls Tryd.prog 48 #[.int .i64 k] w fun e w' => e = .returned (.tuple #[.int .i64 (szK k), .int .u64 (polyK k), .int .u64 (startK k)]) ∧ w = w' := by
  rcases ruleK_cases k with (rfl | rfl | rfl | rfl | rfl) | ⟨h1, g1, g2, g3, g4, g5⟩
  iterate 5
    · go_enter Tryd.func48, Tryd.ntmps48
      go_wp2
      go_ret3
      exact ⟨rfl, rfl⟩
  simp only [szK, polyK, startK, h1]
  have d1 : (k == 1) = false := by simpa using g1
  have d2 : (k == 2) = false := by simpa using g2
  have d3 : (k == 3) = false := by simpa using g3
  have d4 : (k == 4) = false := by simpa using g4
  have d5 : (k == 5) = false := by simpa using g5
  go_enter Tryd.func48, Tryd.ntmps48
  go_wp2
  go_ret3
  exact ⟨rfl, rfl⟩
end Go.Proofs.YtaiplhlcldbnkaaDoor
