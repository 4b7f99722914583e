/- What a check sum is, as a number: a kind's rule, a step, a run; and what follows from that. No program here. No conditions. Contracts of the check sums' functions: find, Size, take, each, More, Sum. Condition: the package's table of kinds holds what the program's text lays there. Contracts of More and Sum, the program's and the document's. Condition: the package's table of kinds holds what the program's text lays there. Contracts of the document's run, More and Sum. No conditions. Contracts of slices.Grow and slices.Concat at two rows of bytes that are not both empty. Condition: sizes below 2 to the 46. Contracts of Add and Fits. Condition: the package's table of kinds holds what the program's text lays there. Of rows and their check sums as numbers: a row fits just if its whole run ends at nothing; runs belong together bit by bit; what differs within a burst doesn't fit. No program here. No conditions. What a row's list of package-level variables gives: the table of kinds holds what the program's text lays there. No conditions. -/
import Derived.Test.YtfcmoamooafomaaDoorGb
import Derived.RegionTactic
import Derived.StillTailTactics
import Derived.OwnWalk
import Derived.Test.YtfcmoamooafomaaDoorGa
import Derived.Lib.AppendZeros
import Derived.Test.YtfcmoamooafomaaDoorRows
import Derived.LaidMore
import Derived.OpenShut
import Derived.Deep.Strs
namespace Go.Proofs.YtfcmoamooafomaaDoor
set_option linter.unusedVariables false
set_option linter.unusedSimpArgs false
open Go.RowKit

/-- A kind's size, polynomial and start. -/
def ruleK (k : Int) : Nat × Nat × Nat :=
  if k = 1 then (15, 17817, 0) else if k = 2 then (17, 92251, 65536) else if k = 3 then (21, 1058969, 1048576) else if k = 4 then (13, 6631, 1) else if k = 5 then (32, 4104977171, 1) else (0, 0, 0)
def szK (k : Int) : Nat := (ruleK k).1
def polyK (k : Int) : Nat := (ruleK k).2.1
def startK (k : Int) : Nat := (ruleK k).2.2

theorem ruleK_cases (k : Int) : (k = 1 ∨ k = 2 ∨ k = 3 ∨ k = 4 ∨ k = 5) ∨ (ruleK k = (0, 0, 0) ∧ k ≠ 1 ∧ k ≠ 2 ∧ k ≠ 3 ∧ k ≠ 4 ∧ k ≠ 5) := by
  unfold ruleK
  by_cases h1 : k = 1; · exact .inl (.inl h1)
  by_cases h2 : k = 2; · exact .inl (.inr (.inl h2))
  by_cases h3 : k = 3; · exact .inl (.inr (.inr (.inl h3)))
  by_cases h4 : k = 4; · exact .inl (.inr (.inr (.inr (.inl h4))))
  by_cases h5 : k = 5; · exact .inl (.inr (.inr (.inr (.inr h5))))
  exact .inr ⟨by simp [h1, h2, h3, h4, h5], h1, h2, h3, h4, h5⟩

/-- What holds of a kind that is one. -/
structure KindOk (n p s : Nat) : Prop where
  pos : 13 ≤ n
  le : n ≤ 32
  poly : p < 2 ^ n
  odd : p % 2 = 1
  start : s < 2 ^ n
theorem kindOk (k : Int) (h : szK k ≠ 0) : KindOk (szK k) (polyK k) (startK k) := by
  rcases ruleK_cases k with (rfl | rfl | rfl | rfl | rfl) | ⟨h1, _⟩
  · exact ⟨by decide, by decide, by decide, by decide, by decide⟩
  · exact ⟨by decide, by decide, by decide, by decide, by decide⟩
  · exact ⟨by decide, by decide, by decide, by decide, by decide⟩
  · exact ⟨by decide, by decide, by decide, by decide, by decide⟩
  · exact ⟨by decide, by decide, by decide, by decide, by decide⟩
  · simp [szK, h1] at h

/-- One bit goes into a sum. -/
def stepC (n p s b : Nat) : Nat := if s / 2 ^ (n - 1) = b then s * 2 % 2 ^ n else (s * 2 % 2 ^ n) ^^^ p
def runC (n p s : Nat) (l : List Nat) : Nat := l.foldl (stepC n p) s
theorem runC_nil (n p s : Nat) : runC n p s [] = s := rfl
theorem runC_append (n p s : Nat) (l m : List Nat) : runC n p s (l ++ m) = runC n p (runC n p s l) m := by simp [runC]
theorem runC_snoc (n p s : Nat) (l : List Nat) (b : Nat) : runC n p s (l ++ [b]) = stepC n p (runC n p s l) b := by simp [runC]
theorem runC_cons (n p s : Nat) (l : List Nat) (b : Nat) : runC n p s (b :: l) = runC n p (stepC n p s b) l := by simp [runC]
theorem stepC_lt {n p s b : Nat} (hp : p < 2 ^ n) : stepC n p s b < 2 ^ n := by
  have h : s * 2 % 2 ^ n < 2 ^ n := Nat.mod_lt _ (Nat.two_pow_pos n)
  unfold stepC
  split
  · exact h
  · exact Nat.xor_lt_two_pow h hp
theorem runC_lt {n p : Nat} (hp : p < 2 ^ n) : ∀ (l : List Nat) (s : Nat), s < 2 ^ n → runC n p s l < 2 ^ n := by
  intro l
  induction l with
  | nil => intro s h; exact h
  | cons b l ih => intro s _; rw [runC_cons]; exact ih _ (stepC_lt hp)

/-- The sum's bits, read as the document does: the highest one is whether it reaches half. -/
theorem top_le {n s : Nat} (hn : 1 ≤ n) (hs : s < 2 ^ n) : s / 2 ^ (n - 1) ≤ 1 := by
  have : 2 ^ n = 2 ^ (n - 1) * 2 := by rw [← Nat.pow_succ]; congr 1; omega
  have h2 : s / 2 ^ (n - 1) < 2 := Nat.div_lt_of_lt_mul (by omega)
  omega
end Go.Proofs.YtfcmoamooafomaaDoor

namespace Go.Proofs.YtfcmoamooafomaaDoor
set_option linter.unusedVariables false
set_option linter.unusedSimpArgs false
open Go.RowKit

/-- The cells of the table of kinds. -/
def kindsTab : List Value := [.int .i64 0, .int .u64 0, .int .u64 0, .int .i64 15, .int .u64 17817, .int .u64 0, .int .i64 17, .int .u64 92251, .int .u64 65536, .int .i64 21, .int .u64 1058969, .int .u64 1048576, .int .i64 13, .int .u64 6631, .int .u64 1, .int .i64 32, .int .u64 4104977171, .int .u64 1]
def Kinds (w : World) : Prop := ∀ i v, kindsTab[i]? = some v → w.cell? ⟨1, i, none⟩ = some v
theorem Kinds.below {w w' : World} (h : Kinds w) (hb : Nb w w') : Kinds w' := fun i v hv => by
  have := h i v hv
  rw [hb.cell (p := ⟨1, i, none⟩) (World.block_lt_of_cell? _ _ this)]
  exact this

set_option maxHeartbeats 800000 in
set_option maxRecDepth 100000 in
theorem find_any (k : Int) (w : World) (h : Kinds w) :
    Calls Tryd.prog 103 #[.int .i64 k] w fun e w' => e = .returned (.agg #[.int .i64 (szK k), .int .u64 (polyK k), .int .u64 (startK k)]) ∧ Nb w w' := by
  by_cases h0 : k < 0
  · have e : ruleK k = (0, 0, 0) := by rcases ruleK_cases k with (h | h | h | h | h) | h <;> first | exact h.1 | omega
    simp only [szK, polyK, startK, e]
    go_enter Tryd.func103, Tryd.ntmps103
    go_wp2
    exact bodyPost_ret (v := .agg #[.int .i64 0, .int .u64 0, .int .u64 0]) (by simp [results, Tryd.results103, go_sem]) rfl ⟨rfl, Nb.rfl.al _⟩
  by_cases h6 : 6 ≤ k
  · have e : ruleK k = (0, 0, 0) := by rcases ruleK_cases k with (h | h | h | h | h) | h <;> first | exact h.1 | omega
    simp only [szK, polyK, startK, e]
    go_enter Tryd.func103, Tryd.ntmps103
    go_wp2
    exact bodyPost_ret (v := .agg #[.int .i64 0, .int .u64 0, .int .u64 0]) (by simp [results, Tryd.results103, go_sem]) rfl ⟨rfl, Nb.rfl.al _⟩
  rcases (by omega : k = 0 ∨ k = 1 ∨ k = 2 ∨ k = 3 ∨ k = 4 ∨ k = 5) with rfl | rfl | rfl | rfl | rfl | rfl
  · have c0 := h 0 _ rfl
    have c1 := h 1 _ rfl
    have c2 := h 2 _ rfl
    have hlt : 1 < w.heap.size := World.block_lt_of_cell? _ _ c0
    clear h h0 h6
    go_enter Tryd.func103, Tryd.ntmps103
    go_wp2
    exact bodyPost_ret (v := .agg #[.int .i64 (szK 0), .int .u64 (polyK 0), .int .u64 (startK 0)]) (by simp [results, Tryd.results103, go_sem]; exact ⟨rfl, rfl, rfl⟩) rfl ⟨rfl, Nb.rfl.al _⟩
  · have c0 := h 3 _ rfl
    have c1 := h 4 _ rfl
    have c2 := h 5 _ rfl
    have hlt : 1 < w.heap.size := World.block_lt_of_cell? _ _ c0
    clear h h0 h6
    go_enter Tryd.func103, Tryd.ntmps103
    go_wp2
    exact bodyPost_ret (v := .agg #[.int .i64 (szK 1), .int .u64 (polyK 1), .int .u64 (startK 1)]) (by simp [results, Tryd.results103, go_sem]; exact ⟨rfl, rfl, rfl⟩) rfl ⟨rfl, Nb.rfl.al _⟩
  · have c0 := h 6 _ rfl
    have c1 := h 7 _ rfl
    have c2 := h 8 _ rfl
    have hlt : 1 < w.heap.size := World.block_lt_of_cell? _ _ c0
    clear h h0 h6
    go_enter Tryd.func103, Tryd.ntmps103
    go_wp2
    exact bodyPost_ret (v := .agg #[.int .i64 (szK 2), .int .u64 (polyK 2), .int .u64 (startK 2)]) (by simp [results, Tryd.results103, go_sem]; exact ⟨rfl, rfl, rfl⟩) rfl ⟨rfl, Nb.rfl.al _⟩
  · have c0 := h 9 _ rfl
    have c1 := h 10 _ rfl
    have c2 := h 11 _ rfl
    have hlt : 1 < w.heap.size := World.block_lt_of_cell? _ _ c0
    clear h h0 h6
    go_enter Tryd.func103, Tryd.ntmps103
    go_wp2
    exact bodyPost_ret (v := .agg #[.int .i64 (szK 3), .int .u64 (polyK 3), .int .u64 (startK 3)]) (by simp [results, Tryd.results103, go_sem]; exact ⟨rfl, rfl, rfl⟩) rfl ⟨rfl, Nb.rfl.al _⟩
  · have c0 := h 12 _ rfl
    have c1 := h 13 _ rfl
    have c2 := h 14 _ rfl
    have hlt : 1 < w.heap.size := World.block_lt_of_cell? _ _ c0
    clear h h0 h6
    go_enter Tryd.func103, Tryd.ntmps103
    go_wp2
    exact bodyPost_ret (v := .agg #[.int .i64 (szK 4), .int .u64 (polyK 4), .int .u64 (startK 4)]) (by simp [results, Tryd.results103, go_sem]; exact ⟨rfl, rfl, rfl⟩) rfl ⟨rfl, Nb.rfl.al _⟩
  · have c0 := h 15 _ rfl
    have c1 := h 16 _ rfl
    have c2 := h 17 _ rfl
    have hlt : 1 < w.heap.size := World.block_lt_of_cell? _ _ c0
    clear h h0 h6
    go_enter Tryd.func103, Tryd.ntmps103
    go_wp2
    exact bodyPost_ret (v := .agg #[.int .i64 (szK 5), .int .u64 (polyK 5), .int .u64 (startK 5)]) (by simp [results, Tryd.results103, go_sem]; exact ⟨rfl, rfl, rfl⟩) rfl ⟨rfl, Nb.rfl.al _⟩
theorem run_rule0 (a b c : Value) (w : World) : (Instr.field 154 (.agg #[a, b, c]) 0).run Tryd.prog w = .ok a w := by kernel_rfl
theorem run_rule2 (a b c : Value) (w : World) : (Instr.field 154 (.agg #[a, b, c]) 2).run Tryd.prog w = .ok c w := by kernel_rfl


set_option maxHeartbeats 800000 in
set_option maxRecDepth 100000 in
theorem size_any (k : Int) (w : World) (h : Kinds w) :
    Calls Tryd.prog 92 #[.int .i64 k] w fun e w' => e = .returned (.int .i64 (szK k)) ∧ Nb w w' := by
  have hf := @run_rule0
  go_enter Tryd.func92, Tryd.ntmps92
  go_wp2_with fail
  refine (find_any k _ h).mono ?_
  rintro e w1 ⟨rfl, hnb⟩
  go_wp2
  go_ret
  exact ⟨rfl, hnb⟩

theorem Blk.drewN {w : World} {R : Nat} {cs : Array Value} {t : TypeId} (h : Blk w R cs t) (n : Nat) : Blk (w.drewN n) R cs t := h

theorem take_arith (n s : Nat) (h32 : n ≤ 32) (hs : s < 2 ^ n) :
    bits BinOp.and IntKind.u64 ((s : Int) * 2) (IntKind.u64.wrap (IntKind.u64.wrap (2 ^ n) - 1)) = ((s * 2 % 2 ^ n : Nat) : Int) := by
  have h1 : (2 : Nat) ^ n ≤ 4294967296 := Nat.pow_le_pow_right (by omega) h32
  have h0 : 0 < (2 : Nat) ^ n := Nat.two_pow_pos n
  have h2 := bits_and_u64_nat (s * 2) (2 ^ n - 1) (by omega) (by omega)
  rw [Nat.and_two_pow_sub_one_eq_mod] at h2
  have h3 : (2 : Int) ^ n = ((2 ^ n : Nat) : Int) := by push_cast; rfl
  have e2 : IntKind.u64.wrap (IntKind.u64.wrap (2 ^ n) - 1) = ((2 ^ n - 1 : Nat) : Int) := by
    rw [h3, IntKind.wrap_u64, IntKind.wrap_u64]
    omega
  rw [← h2, e2]
  congr 1

set_option maxHeartbeats 800000 in
set_option maxRecDepth 100000 in
theorem take_any (R n p s0 s b : Nat) (w : World) (h : Blk w R #[.int .i64 n, .int .u64 p, .int .u64 s0, .int .u64 s] 164) (hn : 1 ≤ n) (h32 : n ≤ 32) (hp : p < 2 ^ n) (hs : s < 2 ^ n) (hb : b ≤ 1) :
    Calls Tryd.prog 109 #[.pointer (some ⟨R, 0, none⟩), .int .u8 b] w fun e w' => e = .returned (.tuple #[]) ∧ Blk w' R #[.int .i64 n, .int .u64 p, .int .u64 s0, .int .u64 (stepC n p s b)] 164 ∧ Kp (· = R) w w' := by
  have c0 : w.cell? ⟨R, 0, none⟩ = some (.int .i64 n) := h.cell 0
  have c1 : w.cell? ⟨R, 1, none⟩ = some (.int .u64 p) := h.cell 1
  have c3 : w.cell? ⟨R, 3, none⟩ = some (.int .u64 s) := h.cell 3
  have f3 := h.frozen 3
  have hR := h.lt
  obtain ⟨q, hq⟩ : ∃ q, q = s / 2 ^ (n - 1) := ⟨_, rfl⟩
  obtain ⟨m, hm⟩ : ∃ m, m = s * 2 % 2 ^ n := ⟨_, rfl⟩
  have HS : Hid (stepC n p s b = if q = b then m else m ^^^ p) := Lib.hid (by rw [hq, hm]; rfl)
  have HE : Hid (bits BinOp.and IntKind.u64 ((s : Int) * 2) (IntKind.u64.wrap (IntKind.u64.wrap (2 ^ n) - 1)) = (m : Int)) := Lib.hid (by rw [hm]; exact take_arith n s h32 hs)
  have H1 : Hid ((s : Int) / 2 ^ (n - 1) = (q : Int)) := Lib.hid (by rw [hq]; push_cast; rfl)
  have HB := Lib.hid h
  have hm2 : m < 2 ^ n := by rw [hm]; exact Nat.mod_lt _ (Nat.two_pow_pos n)
  have h64 : (2 : Nat) ^ n ≤ 4294967296 := Nat.pow_le_pow_right (by omega) h32
  have hpb : p < 18446744073709551616 := by omega
  have hmb : m < 18446744073709551616 := by omega
  have hsb : s < 4294967296 := by omega
  have HX := Lib.hid (bits_xor_u64_nat m p hmb hpb)
  have hq1 : q ≤ 1 := by rw [hq]; exact top_le hn hs
  clear h hq hm hm2 h64 hp hs
  go_enter Tryd.func109, Tryd.ntmps109
  go_wp2
  go_quiet (fail)
  go_wp2
  go_region
  rw [HE.out, H1.out]
  by_cases hqb : q = b
  · have hd : ((q : Int) != (b : Int)) = false := by rw [bne_eq_false_iff_eq]; omega
    have HS2 := Lib.hid (HS.out.trans (if_pos hqb))
    clear hqb
    go_wp2
    go_end0
    rw [HS2.out]
    exact ⟨rfl, (HB.out.drewN _).set 3 _, (Kp.ofNb (Nb.drewN _ _)).tr (Kp.set (F := (· = R)) rfl) (fun _ h => .inl h)⟩
  · have hd : ((q : Int) != (b : Int)) = true := by rw [bne_iff_ne]; omega
    have HS2 := Lib.hid (HS.out.trans (if_neg hqb))
    clear hqb
    go_wp2
    go_region
    go_wp2
    go_end0
    rw [HS2.out]
    refine ⟨rfl, ?_, ?_⟩
    · have := (((HB.out.drewN (nq + 1)).set 3 (.int .u64 m)).set 3 (.int .u64 (m ^^^ p : Nat))).drewN 1
      rw [HX.out]
      exact this
    · exact (((Kp.ofNb (F := (· = R)) (Nb.drewN _ _)).tr (Kp.set (F := (· = R)) rfl) (fun _ h => .inl h)).tr (Kp.set (F := (· = R)) rfl) (fun _ h => .inl h)).tr (Kp.ofNb (Nb.drewN _ 1)) (fun _ h => .inl h)

set_option maxHeartbeats 800000 in
set_option maxRecDepth 100000 in
theorem crceach_any (F : Nat) (p : Value) (a : Option Addr) (cap : Nat) (l : List Nat) (I : Nat → World → Prop) (w : World) (hL : l.length ≤ 9223372036854775807) (h0 : I 0 w)
    (hbs : ∀ k w, I k w → Bs w a cap l)
    (hcf : ∀ args w, (callFunc F args).run Tryd.prog w = .ok (.enter F args) w)
    (hstep : ∀ k x w, I k w → l[k]? = some x → Calls Tryd.prog F #[p, .int .u8 (x : Int)] w fun e w' => e = .returned (.tuple #[]) ∧ I (k + 1) w') :
    Calls Tryd.prog 108 #[.slice a l.length cap, .func (.func F) #[p] #[]] w fun e w' => e = .returned (.tuple #[]) ∧ I l.length w' := by
  have HB := Lib.hid hbs
  have HS := Lib.hid hstep
  clear hbs hstep
  go_enter Tryd.func108, Tryd.ntmps108
  go_wp2
  go_loopw [8] (fun i wr => ∃ k : Nat, k ≤ l.length ∧ i = .int .i64 k ∧ I k wr) (fun i _ => l.length - (intOf i).toNat)
  case atStart => exact ⟨0, Nat.zero_le _, rfl, h0⟩
  case round =>
    obtain ⟨k, hk, rfl, hI⟩ := hrel
    by_cases hlt : k < l.length
    · obtain ⟨b, o, rfl, hc⟩ := (HB.out k wr hI).hcells (by omega)
      obtain ⟨x, hx⟩ : ∃ x, l[k]? = some x := ⟨l[k], by simp [hlt]⟩
      have c1 := hc k hlt
      rw [show l.getD k 0 = x from by simp [List.getD, hx]] at c1
      have HX := Lib.hid hx
      clear hc hx
      go_wp2_with fail
      refine (HS.out k x wr hI HX.out).mono ?_
      rintro e w' ⟨rfl, hI'⟩
      go_wp2
      go_roundw
      case rel => exact ⟨k + 1, by omega, by go_num, hI'⟩
      case measure => simp [intOf]; omega
    · obtain rfl : k = l.length := by omega
      go_wp2
      go_end0
      exact ⟨rfl, hI⟩
end Go.Proofs.YtfcmoamooafomaaDoor

namespace Go.Proofs.YtfcmoamooafomaaDoor
set_option linter.unusedVariables false
set_option linter.unusedSimpArgs false
open Go.RowKit

/-- May this sum go on with this row? -/
def moreOk (k : Int) (s : Nat) (l : List Nat) : Bool := decide (szK k ≠ 0) && decide (s < 2 ^ szK k) && chk l
def moreN (k : Int) (s : Nat) (l : List Nat) : Nat := if moreOk k s l then runC (szK k) (polyK k) s l else 0
def moreE (k : Int) (s : Nat) (l : List Nat) : Nat := if moreOk k s l then 0 else 2

set_option maxHeartbeats 800000 in
set_option maxRecDepth 100000 in
theorem more_ok (k : Int) (s : Nat) (a : Option Addr) (cap : Nat) (l : List Nat) (w : World) (hk : Kinds w) (h : Bs w a cap l) (hz : szK k ≠ 0) (hs : s < 2 ^ szK k) (hc : chk l = true) :
    Calls Tryd.prog 102 #[.int .i64 k, .int .u64 s, .slice a l.length cap] w fun e w' => e = .returned (.tuple #[.int .u64 (runC (szK k) (polyK k) s l), .int .i64 0]) ∧ Nb w w' := by
  have hL := h.len
  have H := Lib.hid h
  have HC := Lib.hid hc
  have hbit := Lib.hid (chk_bit hc)
  obtain ⟨n1, n2, n3, _, _⟩ := kindOk k hz
  have hd1 : ((szK k : Int) == 0) = false := by rw [beq_eq_false_iff_ne]; omega
  have hd2 : ((s : Int) / 2 ^ szK k != 0) = false := by
    have e : ((s : Int) / 2 ^ szK k) = ((s / 2 ^ szK k : Nat) : Int) := by push_cast; rfl
    rw [e, Nat.div_eq_of_lt hs]; rfl
  have HS := Lib.hid hs
  have N3 := Lib.hid n3
  have hmf : ∀ (fn : Fn) (first cap : Array Value) (w : World), (Instr.makeFunc fn first cap).run Tryd.prog w = .ok (.func fn first cap) w := fun _ _ _ _ => rfl
  have hs64 : s < 18446744073709551616 := by
    have : (2 : Nat) ^ szK k ≤ 4294967296 := Nat.pow_le_pow_right (by omega) n2
    omega
  clear h hc hs n3
  go_enter Tryd.func102, Tryd.ntmps102
  go_wp2_with fail
  refine (find_any k w hk).mono ?_
  rintro e w1 ⟨rfl, hnb⟩
  go_wp2_with fail
  refine (check_ok a cap l _ (H.out.below (hnb.al _)) HC.out).mono ?_
  rintro e w2 ⟨rfl, rfl⟩
  go_wp2_with fail
  refine (crceach_any 109 (.pointer (some ⟨w1.heap.size, 0, none⟩)) a cap l (fun j wr => Blk wr w1.heap.size #[.int .i64 (szK k), .int .u64 (polyK k), .int .u64 (startK k), .int .u64 (runC (szK k) (polyK k) s (l.take j))] 164 ∧ Nb w wr) _ hL ⟨Blk.new _ _ _, hnb.al _⟩ (fun j wr hI => H.out.below hI.2) (hcf _ _ Tryd.func109 (by rfl) (by decide +kernel)) ?_).mono ?_
  · rintro j x wr ⟨hb, hn⟩ hx
    refine (take_any w1.heap.size (szK k) (polyK k) (startK k) _ x wr hb (by omega) n2 N3.out (runC_lt N3.out _ _ HS.out) (hbit.out x (List.mem_of_getElem? hx))).mono ?_
    rintro e w' ⟨rfl, hb', hk'⟩
    exact ⟨rfl, by rw [take_snoc' hx, runC_snoc]; exact hb', hn.trans (hk'.toBelow hn.size (by rintro k rfl; exact hnb.size))⟩
  · rintro e w2 ⟨rfl, hb, hn⟩
    rw [List.take_of_length_le (Nat.le_refl _)] at hb
    have c0 : w2.cell? ⟨w1.heap.size, 3, none⟩ = _ := hb.cell 3
    clear hb
    go_wp2
    go_ret2
    exact ⟨rfl, hn⟩

set_option maxHeartbeats 800000 in
set_option maxRecDepth 100000 in
theorem more_bad (k : Int) (s : Nat) (a : Option Addr) (cap : Nat) (l : List Nat) (w : World) (hk : Kinds w) (h : Bs w a cap l) (hs64 : s < 18446744073709551616) (hm : moreOk k s l = false) :
    Calls Tryd.prog 102 #[.int .i64 k, .int .u64 s, .slice a l.length cap] w fun e w' => e = .returned (.tuple #[.int .u64 0, .int .i64 2]) ∧ Nb w w' := by
  have hL := h.len
  by_cases hz : szK k = 0
  · have hd1 : ((szK k : Int) == 0) = true := by rw [beq_iff_eq]; omega
    clear hm
    go_enter Tryd.func102, Tryd.ntmps102
    go_wp2_with fail
    refine (find_any k w hk).mono ?_
    rintro e w1 ⟨rfl, hnb⟩
    go_wp2
    go_ret2
    exact ⟨rfl, hnb.al _⟩
  · obtain ⟨n1, n2, _, _, _⟩ := kindOk k hz
    have hd1 : ((szK k : Int) == 0) = false := by rw [beq_eq_false_iff_ne]; omega
    have e : ((s : Int) / 2 ^ szK k) = ((s / 2 ^ szK k : Nat) : Int) := by push_cast; rfl
    by_cases hs : s < 2 ^ szK k
    · have hc : chk l = false := by simpa [moreOk, hz, hs] using hm
      have H := Lib.hid h
      have HC := Lib.hid hc
      have hd2 : ((s : Int) / 2 ^ szK k != 0) = false := by rw [e, Nat.div_eq_of_lt hs]; rfl
      clear h hc hm e hs
      go_enter Tryd.func102, Tryd.ntmps102
      go_wp2_with fail
      refine (find_any k w hk).mono ?_
      rintro e w1 ⟨rfl, hnb⟩
      go_wp2_with fail
      refine (check_bad a cap l _ (H.out.below (hnb.al _)) HC.out).mono ?_
      rintro e w2 ⟨rfl, rfl⟩
      go_wp2
      go_ret2
      exact ⟨rfl, hnb.al _⟩
    · have hd2 : ((s : Int) / 2 ^ szK k != 0) = true := by
        rw [e, bne_iff_ne]
        have : 0 < s / 2 ^ szK k := Nat.div_pos (by omega) (Nat.two_pow_pos _)
        omega
      clear hm e hs
      go_enter Tryd.func102, Tryd.ntmps102
      go_wp2_with fail
      refine (find_any k w hk).mono ?_
      rintro e w1 ⟨rfl, hnb⟩
      go_wp2
      go_ret2
      exact ⟨rfl, hnb.al _⟩

theorem more_u (k : Int) (s : Nat) (a : Option Addr) (cap : Nat) (l : List Nat) (w : World) (hk : Kinds w) (h : Bs w a cap l) (hs64 : s < 18446744073709551616) :
    Calls Tryd.prog 102 #[.int .i64 k, .int .u64 s, .slice a l.length cap] w fun e w' => e = .returned (.tuple #[.int .u64 (moreN k s l), .int .i64 (moreE k s l)]) ∧ Nb w w' := by
  cases hm : moreOk k s l with
  | true =>
    simp only [moreN, moreE, hm, if_true]
    simp only [moreOk, Bool.and_eq_true, decide_eq_true_eq] at hm
    exact more_ok k s a cap l w hk h hm.1.1 hm.1.2 hm.2
  | false =>
    simp only [moreN, moreE, hm, Bool.false_eq_true, if_false]
    exact more_bad k s a cap l w hk h hs64 hm

theorem startK_lt (k : Int) : startK k < 18446744073709551616 := by
  rcases ruleK_cases k with (rfl | rfl | rfl | rfl | rfl) | ⟨h1, _⟩
  iterate 5 decide
  simp [startK, h1]

def sumN (k : Int) (l : List Nat) : Nat := moreN k (startK k) l
def sumE (k : Int) (l : List Nat) : Nat := moreE k (startK k) l

set_option maxHeartbeats 800000 in
set_option maxRecDepth 100000 in
theorem sum_u (k : Int) (a : Option Addr) (cap : Nat) (l : List Nat) (w : World) (hk : Kinds w) (h : Bs w a cap l) :
    Calls Tryd.prog 91 #[.int .i64 k, .slice a l.length cap] w fun e w' => e = .returned (.tuple #[.int .u64 (sumN k l), .int .i64 (sumE k l)]) ∧ Nb w w' := by
  have hf := @run_rule2
  have H := Lib.hid h
  have HK := Lib.hid hk
  have HS := Lib.hid (startK_lt k)
  clear h hk
  go_enter Tryd.func91, Tryd.ntmps91
  go_wp2_with fail
  refine (find_any k w HK.out).mono ?_
  rintro e w1 ⟨rfl, hnb⟩
  go_wp2_with fail
  refine (more_u k (startK k) a cap l _ (HK.out.below hnb) (H.out.below hnb) HS.out).mono ?_
  rintro e w2 ⟨rfl, hn2⟩
  go_wp2
  go_ret2
  exact ⟨rfl, hnb.tr hn2⟩

/-! The document's own. -/
end Go.Proofs.YtfcmoamooafomaaDoor

namespace Go.Proofs.YtfcmoamooafomaaDoor
set_option linter.unusedVariables false
set_option linter.unusedSimpArgs false
open Go.RowKit

/-- The same memory, taken as an empty row. -/
theorem OwnB.empty {w : World} {g n cap : Nat} {l : List Nat} (h : OwnB w (.slice (some ⟨g, 0, none⟩) n cap) l) : OwnB w (.slice (some ⟨g, 0, none⟩) 0 cap) [] := by
  obtain ⟨⟨h1, h2⟩, h3⟩ := h
  refine ⟨⟨by simp, ?_⟩, by simp⟩
  rcases h2 with ⟨h2, _⟩ | ⟨g', cap', cur, hv, hb, hh, hn, hm, hs, ht⟩
  · cases h2
  · cases hv
    exact .inr ⟨g, cap, cur, by simp, hb, hh, Nat.zero_le _, hm, hs, by simp⟩

set_option maxHeartbeats 800000 in
set_option maxRecDepth 100000 in
theorem grow_any (n : Nat) (w : World) (h0 : 0 < n) (hn : n ≤ 70368744177664) :
    Calls Tryd.prog 75 #[.slice none 0 0, .int .i64 n] w fun e w' => (∃ g c, e = .returned (.slice (some ⟨g, 0, none⟩) 0 c) ∧ OwnB w' (.slice (some ⟨g, 0, none⟩) 0 c) [] ∧ w.heap.size ≤ g) ∧ Nb w w' := by
  obtain ⟨i0, hi, hz0, hz1, hz2⟩ := info_parts infoU8
  have hge := grownCap_ge w n 0 5
  have hle := grownCap_le_maxLen w n 0 5 (by unfold maxLen; omega)
  have hrz : ∀ ty, _ := fun ty => Lib.run_append_nil_zeros (P := Tryd.prog) w 23 3 ty 5 i0 (.int .u8 0) .i64 .i64 Tryd.underlying23 Tryd.underlying3 hi hz0 n h0 (by omega) (by omega) (by rw [hz2]; omega)
  have hown : OwnB (w.drew.alloc (.cells (Builtin.zeroCells (Value.int .u8 0).cells n ++ Builtin.zeroCells (Value.int .u8 0).cells (grownCap w n 0 5 - n)) 5)) (.slice (some ⟨w.heap.size, 0, none⟩) 0 (grownCap w n 0 5)) [] := by
    refine ⟨⟨by simp, .inr ⟨w.heap.size, grownCap w n 0 5, _, by simp, Nat.zero_le _, heap_alloc_new w.drew _, Nat.zero_le _, hle, ?_, by simp⟩⟩, by simp⟩
    simp [Builtin.zeroCells, Value.cells]
    omega
  have HO := Lib.hid hown
  have hmx : grownCap w n 0 5 ≤ 9223372036854775807 := by unfold maxLen at hle; omega
  obtain ⟨G, hG⟩ : ∃ G, G = grownCap w n 0 5 := ⟨_, rfl⟩
  rw [← hG] at hrz hge hmx HO
  clear hown hle hG hi hz0 hz1 hz2
  go_enter Tryd.func75, Tryd.ntmps75
  go_wp2_with (at_builtin; refine Lib.wpList_append_run _ rfl _ _ _ _ rfl _ _ rfl rfl _ _ (hrz _) ?_)
  go_wp2
  go_ret
  exact ⟨⟨_, _, rfl, HO.out, Nat.le_refl _⟩, (show Nb w w.drew from Nb.drewN w 1).al _⟩

set_option maxHeartbeats 1600000 in
set_option maxRecDepth 100000 in
theorem concat_any (b o : Nat) (a1 a2 : Option Addr) (c1 c2 : Nat) (l1 l2 : List Nat) (w : World) (d1 : w.cell? ⟨b, o, none⟩ = some (.slice a1 l1.length c1)) (d2 : w.cell? ⟨b, o + 1, none⟩ = some (.slice a2 l2.length c2))
    (h1 : Bs w a1 c1 l1) (h2 : Bs w a2 c2 l2) (h2n : 0 < l2.length) (hn1 : a1 = none → c1 = 0) (hl1 : l1.length ≤ 1000000) (hl2 : l2.length ≤ 1000000) :
    Calls Tryd.prog 53 #[.slice (some ⟨b, o, none⟩) 2 2] w fun e w' => (∃ a c, e = .returned (.slice a (l1 ++ l2).length c) ∧ Fresh w w' (.slice a (l1 ++ l2).length c) (l1 ++ l2)) ∧ Nb w w' := by
  have hb := World.block_lt_of_cell? _ _ d1
  simp only at hb
  go_enter Tryd.func53, Tryd.ntmps53
  go_wp2
  go_loop [3, 11] (fun s i => (i = .int .i64 0 ∧ s = .int .i64 0) ∨ (i = .int .i64 1 ∧ s = .int .i64 (l1.length : Int)) ∨ (i = .int .i64 2 ∧ s = .int .i64 ((l1.length : Int) + (l2.length : Int)))) (fun _ i => 2 - (intOf i).toNat)
  case atStart => exact .inl ⟨rfl, rfl⟩
  case round =>
    rcases hrel with ⟨rfl, rfl⟩ | ⟨rfl, rfl⟩ | ⟨rfl, rfl⟩
    · go_wp2
      go_round
      case rel => exact .inr (.inl ⟨rfl, rfl⟩)
      case measure => simp [intOf]
    · go_wp2
      go_round
      case rel => exact .inr (.inr ⟨rfl, rfl⟩)
      case measure => simp [intOf]
    · have H1 := Lib.hid h1
      have H2 := Lib.hid h2
      have D1 := Lib.hid d1
      have D2 := Lib.hid d2
      clear h1 h2 d1 d2
      go_wp2_with fail
      have hgr := grow_any (l1.length + l2.length) w (by omega) (by omega)
      rw [show ((l1.length + l2.length : Nat) : Int) = (l1.length : Int) + (l2.length : Int) from by omega] at hgr
      refine hgr.mono ?_
      rintro e w1 ⟨⟨g, c, rfl, ho, hg⟩, hnb⟩
      clear hgr
      go_wp2
      go_loopw [6, 27] (fun v i wr => ((i = .int .i64 0 ∧ Fresh w wr v []) ∨ (i = .int .i64 1 ∧ Fresh w wr v l1) ∨ (i = .int .i64 2 ∧ Fresh w wr v (l1 ++ l2))) ∧ Nb w wr) (fun _ i _ => 2 - (intOf i).toNat)
      case atStart => exact ⟨.inl ⟨rfl, ho, by simpa [Value.ownBlock] using hg⟩, hnb⟩
      case round =>
        obtain ⟨hrel, hnb2⟩ := hrel
        clear ho hg hnb
        have e1 : wr.cell? ⟨b, o, none⟩ = some (.slice a1 l1.length c1) := (hnb2.cell (p := ⟨b, o, none⟩) hb).trans D1.out
        have e2 : wr.cell? ⟨b, o + 1, none⟩ = some (.slice a2 l2.length c2) := (hnb2.cell (p := ⟨b, o + 1, none⟩) hb).trans D2.out
        rcases hrel with ⟨rfl, ho⟩ | ⟨rfl, ho⟩ | ⟨rfl, ho⟩
        · go_wp2_with (at_builtin; refine wpList_appB _ rfl (.tmp 31) (.tmp 32) rfl _ [] rfl ho.1 a1 c1 l1 l1.length rfl rfl (H1.out.below hnb2) (by intro h; subst h; exact ⟨by rw [H1.out.none_len]; rfl, hn1 rfl⟩) (by simp; omega) ?_)
          intro v' w2 hown' hk hfr
          have hrel : Fresh w w2 v' l1 := ⟨hown', fun g hg => by
            rcases hfr g hg with h | h
            · exact ho.2 g h
            · exact Nat.le_trans hnb2.size h⟩
          have hnb3 : Nb w w2 := hnb2.trans (hk.toBelow hnb2.size ho.2)
          clear hown' hk hfr ho e1 e2 hnb2
          go_wp2
          go_roundw
          case rel => exact ⟨.inr (.inl ⟨rfl, hrel⟩), hnb3⟩
          case measure => simp [intOf]
        · go_wp2_with (at_builtin; refine wpList_appB _ rfl (.tmp 31) (.tmp 32) rfl _ l1 rfl ho.1 a2 c2 l2 l2.length rfl rfl (H2.out.below hnb2) (by intro h; subst h; have := H2.out.none_len; subst this; simp at h2n) (by omega) ?_)
          intro v' w2 hown' hk hfr
          have hrel : Fresh w w2 v' (l1 ++ l2) := ⟨hown', fun g hg => by
            rcases hfr g hg with h | h
            · exact ho.2 g h
            · exact Nat.le_trans hnb2.size h⟩
          have hnb3 : Nb w w2 := hnb2.trans (hk.toBelow hnb2.size ho.2)
          clear hown' hk hfr ho e1 e2 hnb2
          go_wp2
          go_roundw
          case rel => exact ⟨.inr (.inr ⟨rfl, hrel⟩), hnb3⟩
          case measure => simp [intOf]
        · obtain ⟨a', c', rfl, hbs, _⟩ := ho.1.bs
          have HO := Lib.hid ho
          clear ho hbs e1 e2
          go_wp2
          go_ret
          exact ⟨⟨_, _, rfl, HO.out⟩, hnb2⟩
end Go.Proofs.YtfcmoamooafomaaDoor

namespace Go.Proofs.YtfcmoamooafomaaDoor
set_option linter.unusedVariables false
set_option linter.unusedSimpArgs false
open Go.RowKit

def addL (k : Int) (l : List Nat) : List Nat := if moreOk k (startK k) l then l ++ bitsN (runC (szK k) (polyK k) (startK k) l) (szK k) else []
def fitsB (k : Int) (l : List Nat) : Bool :=
  decide (szK k ≠ 0) && decide (szK k ≤ l.length) && chk l && decide (numN (l.drop (l.length - szK k)) = runC (szK k) (polyK k) (startK k) (l.take (l.length - szK k)))

theorem beq_nat (a b : Nat) : ((a : Int) == (b : Int)) = decide (a = b) := by
  by_cases h : a = b
  · simp [h]
  · have : ¬ (a : Int) = (b : Int) := by omega
    simp [h, this]

theorem sumN_ok {k : Int} {l : List Nat} (h : moreOk k (startK k) l = true) : sumN k l = runC (szK k) (polyK k) (startK k) l ∧ sumE k l = 0 := by simp [sumN, sumE, moreN, moreE, h]
theorem sumN_bad {k : Int} {l : List Nat} (h : moreOk k (startK k) l = false) : sumN k l = 0 ∧ sumE k l = 2 := by simp [sumN, sumE, moreN, moreE, h]
theorem moreOk_parts {k : Int} {s : Nat} {l : List Nat} (h : moreOk k s l = true) : szK k ≠ 0 ∧ s < 2 ^ szK k ∧ chk l = true := by
  simp only [moreOk, Bool.and_eq_true, decide_eq_true_eq] at h
  exact ⟨h.1.1, h.1.2, h.2⟩
theorem moreOk_start {k : Int} {l : List Nat} (hz : szK k ≠ 0) (hc : chk l = true) : moreOk k (startK k) l = true := by
  simp [moreOk, hz, hc, (kindOk k hz).start]
set_option maxHeartbeats 1600000 in
set_option maxRecDepth 100000 in
theorem add_u (k : Int) (a : Option Addr) (cap : Nat) (l : List Nat) (w : World) (hk : Kinds w) (h : Bs w a cap l) (hn : a = none → cap = 0) :
    Calls Tryd.prog 72 #[.int .i64 k, .slice a l.length cap] w fun e w' => (∃ a' c', e = .returned (.tuple #[.slice a' (addL k l).length c', .int .i64 (sumE k l)]) ∧ Fresh w w' (.slice a' (addL k l).length c') (addL k l)) ∧ Nb w w' := by
  have hL := h.len
  have H := Lib.hid h
  have HK := Lib.hid hk
  cases hm : moreOk k (startK k) l with
  | false =>
    have hs := sumN_bad hm
    have ha : addL k l = [] := by simp [addL, hm]
    have h1 := sum_u k a cap l w hk h
    rw [hs.1, hs.2] at h1
    rw [ha, hs.2]
    have H1 := Lib.hid h1
    clear h hk hm hs ha h1
    go_enter Tryd.func72, Tryd.ntmps72
    go_wp2_with fail
    refine H1.out.mono ?_
    rintro e w1 ⟨rfl, hnb⟩
    go_wp2
    go_ret2
    exact ⟨⟨none, 0, rfl, OwnB.nil _, by simp [Value.ownBlock]⟩, hnb⟩
  | true =>
    obtain ⟨hz, _, hc⟩ := moreOk_parts hm
    obtain ⟨n1, n2, n3, _, n5⟩ := kindOk k hz
    have hs := sumN_ok hm
    have ha : addL k l = l ++ bitsN (runC (szK k) (polyK k) (startK k) l) (szK k) := by simp [addL, hm]
    have h1 := sum_u k a cap l w hk h
    rw [hs.1, hs.2] at h1
    rw [ha, hs.2]
    have hS := runC_lt n3 l _ n5
    generalize runC (szK k) (polyK k) (startK k) l = S at *
    have H1 := Lib.hid h1
    have HS := Lib.hid hS
    have hl := chk_len hc
    have hbl := bitsN_length S (szK k)
    clear h hk hm hs ha h1 hS hc n3 n5
    go_enter Tryd.func72, Tryd.ntmps72
    go_wp2_with fail
    refine H1.out.mono ?_
    rintro e w1 ⟨rfl, hnb⟩
    go_wp2_with fail
    refine (size_any k _ (HK.out.below hnb)).mono ?_
    rintro e w2 ⟨rfl, hnb2⟩
    go_wp2_with fail
    refine (put_ok S (szK k) _ (by omega) HS.out).mono ?_
    rintro e w3 ⟨⟨a3, c3, rfl, hb3⟩, hnb3⟩
    have HB := Lib.hid hb3
    have n123 := (hnb.tr hnb2).tr hnb3
    have N123 := Lib.hid n123
    clear hb3 hnb hnb2 hnb3
    go_wp2_with fail
    have hcat := concat_any w3.heap.size 0 a a3 cap c3 l (bitsN S (szK k)) (w3.alloc (.cells #[.slice a l.length cap, .slice a3 (szK k) c3] 23)) (by simp) (by simp [hbl]) (H.out.below (n123.al _)) (HB.out.below (Nb.rfl.al _)) (by omega) hn (by omega) (by omega)
    refine hcat.mono ?_
    rintro e w4 ⟨⟨a', c', rfl, hf⟩, hn4⟩
    have hfin : (Fresh w w4 (.slice a' (l ++ bitsN S (szK k)).length c') (l ++ bitsN S (szK k))) := ⟨hf.1, fun g hg => Nat.le_trans (n123.al _).size (hf.2 g hg)⟩
    have hnf := (n123.al _).tr hn4
    have HF := Lib.hid hfin
    clear hcat hf hfin hn4 n123
    go_wp2
    go_ret2
    exact ⟨⟨a', c', by rw [List.length_append, hbl]; rfl, HF.out⟩, hnf⟩

/-! The document's own. -/
end Go.Proofs.YtfcmoamooafomaaDoor

namespace Go.Proofs.YtfcmoamooafomaaDoor
set_option linter.unusedVariables false
set_option linter.unusedSimpArgs false
open Go.RowKit

theorem half_pow {n : Nat} (hn : 1 ≤ n) : 2 ^ n = 2 ^ (n - 1) * 2 := by rw [← Nat.pow_succ]; congr 1; omega

/-- Twice a sum, what goes beyond being lost, is twice its lower part. -/
theorem twice_mod {n s : Nat} (hn : 1 ≤ n) : s * 2 % 2 ^ n = (s % 2 ^ (n - 1)) * 2 := by
  rw [half_pow hn, Nat.mul_mod_mul_right]

/-- A run of a row of at most n bits ends at nothing just if the sum's highest bits are the row, the others nothing. -/
theorem runC_zero {n p : Nat} (hn : 1 ≤ n) (hp : p % 2 = 1) (hpl : p < 2 ^ n) : ∀ (u : List Nat) (s : Nat), u.length ≤ n → (∀ x ∈ u, x ≤ 1) → s < 2 ^ n → (runC n p s u = 0 ↔ s = numN u * 2 ^ (n - u.length)) := by
  intro u
  induction u with
  | nil =>
    intro s _ _ _
    simp [runC_nil, numN]
  | cons b u ih =>
    intro s hl hb hs
    rw [List.length_cons] at hl
    have hb1 : b ≤ 1 := hb b (by simp)
    have hbu : ∀ x ∈ u, x ≤ 1 := fun x hx => hb x (by simp [hx])
    have hpow : 2 ^ (n - u.length) = 2 ^ (n - (u.length + 1)) * 2 := by
      rw [← Nat.pow_succ]; congr 1; omega
    have hnum : numN (b :: u) = b * 2 ^ u.length + numN u := by
      have key : ∀ (u : List Nat) (c : Nat), u.foldl (fun n b => n * 2 + b) c = c * 2 ^ u.length + u.foldl (fun n b => n * 2 + b) 0 := by
        intro u
        induction u with
        | nil => intro c; simp
        | cons x u ih =>
          intro c
          rw [List.foldl_cons, List.foldl_cons, ih (c * 2 + x), ih (0 * 2 + x), List.length_cons, Nat.pow_succ]
          rw [Nat.zero_mul, Nat.zero_add, Nat.add_mul, Nat.add_assoc, Nat.mul_assoc, Nat.mul_comm 2]
      have := key u (0 * 2 + b)
      simpa [numN] using this
    have hup := numN_lt u hbu
    have hprod : 2 ^ u.length * 2 ^ (n - (u.length + 1)) = 2 ^ (n - 1) := by rw [← Nat.pow_add]; congr 1; omega
    have hdm : s = s / 2 ^ (n - 1) * 2 ^ (n - 1) + s % 2 ^ (n - 1) := by rw [Nat.mul_comm]; exact (Nat.div_add_mod s _).symm
    rw [runC_cons, List.length_cons]
    have hnumlt : numN u * 2 ^ (n - (u.length + 1)) < 2 ^ (n - 1) := by
      rw [← hprod]
      exact Nat.mul_lt_mul_of_pos_right hup (Nat.two_pow_pos _)
    constructor
    · intro h
      by_cases ht : s / 2 ^ (n - 1) = b
      · have hst : stepC n p s b = s % 2 ^ (n - 1) * 2 := by unfold stepC; rw [if_pos ht, twice_mod hn]
        rw [hst] at h
        have hlt : s % 2 ^ (n - 1) * 2 < 2 ^ n := by
          rw [half_pow hn]
          exact Nat.mul_lt_mul_of_pos_right (Nat.mod_lt _ (Nat.two_pow_pos _)) (by decide)
        have h1 := (ih _ (by omega) hbu hlt).1 h
        rw [hpow, ← Nat.mul_assoc] at h1
        have h2 : s % 2 ^ (n - 1) = numN u * 2 ^ (n - (u.length + 1)) := Nat.eq_of_mul_eq_mul_right (by decide) h1
        rw [hdm, ht, h2, hnum, Nat.add_mul, Nat.mul_assoc, hprod]
      · exfalso
        have hst : stepC n p s b = (s % 2 ^ (n - 1) * 2) ^^^ p := by unfold stepC; rw [if_neg ht, twice_mod hn]
        have h1 := (ih _ (by omega) hbu (stepC_lt hpl)).1 h
        rw [hst, hpow, ← Nat.mul_assoc] at h1
        have e := Nat.xor_mod_two_pow (a := s % 2 ^ (n - 1) * 2) (b := p) (n := 1)
        rw [Nat.pow_one, h1, Nat.mul_mod_left, Nat.mul_mod_left, hp] at e
        revert e
        decide
    · intro h
      have hdiv : s / 2 ^ (n - 1) = b := by
        rw [h, hnum, Nat.add_mul, Nat.mul_assoc, hprod, Nat.mul_comm b, Nat.mul_add_div (Nat.two_pow_pos _), Nat.div_eq_of_lt hnumlt, Nat.add_zero]
      have hmod : s % 2 ^ (n - 1) = numN u * 2 ^ (n - (u.length + 1)) := by
        rw [h, hnum, Nat.add_mul, Nat.mul_assoc, hprod, Nat.mul_comm b, Nat.mul_add_mod, Nat.mod_eq_of_lt hnumlt]
      have hst : stepC n p s b = s % 2 ^ (n - 1) * 2 := by unfold stepC; rw [if_pos hdiv, twice_mod hn]
      rw [hst, hmod]
      have hlt : numN u * 2 ^ (n - (u.length + 1)) * 2 < 2 ^ n := by
        rw [half_pow hn]
        exact Nat.mul_lt_mul_of_pos_right hnumlt (by decide)
      rw [ih _ (by omega) hbu hlt, hpow, Nat.mul_assoc]

theorem stepC_zero (n p : Nat) : stepC n p 0 0 = 0 := by simp [stepC]
theorem runC_zeros (n p : Nat) (k : Nat) : runC n p 0 (List.replicate k 0) = 0 := by
  induction k with
  | zero => rfl
  | succ k ih => rw [List.replicate_succ, runC_cons, stepC_zero]; exact ih
/-- Nothing but a sum of nothing comes to nothing by noughts. -/
theorem runC_back {n p : Nat} (hn : 1 ≤ n) (hp : p % 2 = 1) (hpl : p < 2 ^ n) : ∀ (k s : Nat), s < 2 ^ n → runC n p s (List.replicate k 0) = 0 → s = 0 := by
  intro k
  induction k with
  | zero => intro s _ h; exact h
  | succ k ih =>
    intro s hs h
    rw [List.replicate_succ, runC_cons] at h
    have h1 := ih _ (stepC_lt hpl) h
    have h2 := (runC_zero hn hp hpl [0] s (by simpa using hn) (by simp) hs).1 (by rw [runC_cons, h1, runC_nil])
    simpa [numN] using h2

theorem top_xor {n s t : Nat} : (s ^^^ t) / 2 ^ (n - 1) = s / 2 ^ (n - 1) ^^^ t / 2 ^ (n - 1) := by
  rw [← Nat.shiftRight_eq_div_pow, ← Nat.shiftRight_eq_div_pow, ← Nat.shiftRight_eq_div_pow, Nat.shiftRight_xor_distrib]
theorem twice_xor {n s t : Nat} : (s ^^^ t) * 2 % 2 ^ n = s * 2 % 2 ^ n ^^^ t * 2 % 2 ^ n := by
  rw [← Nat.xor_mod_two_pow]
  congr 1
  have : ∀ x : Nat, x * 2 = x <<< 1 := fun x => by rw [Nat.shiftLeft_eq]
  rw [this, this, this, Nat.shiftLeft_xor_distrib]

/-- Steps belong together bit by bit. -/
theorem stepC_xor {n p s t b c : Nat} (hn : 1 ≤ n) (hs : s < 2 ^ n) (ht : t < 2 ^ n) (hb : b ≤ 1) (hc : c ≤ 1) : stepC n p (s ^^^ t) (b ^^^ c) = stepC n p s b ^^^ stepC n p t c := by
  have h1 := top_le hn hs
  have h2 := top_le hn ht
  unfold stepC
  rw [top_xor, twice_xor]
  generalize s / 2 ^ (n - 1) = x at *
  generalize t / 2 ^ (n - 1) = y at *
  generalize s * 2 % 2 ^ n = u
  generalize t * 2 % 2 ^ n = v
  have cx : ∀ a b c : Nat, a ^^^ b ^^^ c = a ^^^ c ^^^ b := fun a b c => by rw [Nat.xor_assoc, Nat.xor_comm b, Nat.xor_assoc]
  have cy : ∀ a b c : Nat, a ^^^ b ^^^ (c ^^^ b) = a ^^^ c := fun a b c => by rw [Nat.xor_assoc, Nat.xor_comm c, ← Nat.xor_assoc b, Nat.xor_self, Nat.zero_xor]
  rcases (by omega : x = 0 ∨ x = 1) with rfl | rfl <;> rcases (by omega : y = 0 ∨ y = 1) with rfl | rfl <;> rcases (by omega : b = 0 ∨ b = 1) with rfl | rfl <;> rcases (by omega : c = 0 ∨ c = 1) with rfl | rfl <;> simp [Nat.xor_assoc, cx, cy] <;> rw [Nat.xor_comm p v]

def xorL (x y : List Nat) : List Nat := List.zipWith (· ^^^ ·) x y
theorem xorL_length {x y : List Nat} (h : x.length = y.length) : (xorL x y).length = x.length := by simp [xorL, h]
theorem runC_xor {n p : Nat} (hn : 1 ≤ n) (hpl : p < 2 ^ n) : ∀ (x y : List Nat) (s t : Nat), x.length = y.length → (∀ b ∈ x, b ≤ 1) → (∀ b ∈ y, b ≤ 1) → s < 2 ^ n → t < 2 ^ n →
    runC n p (s ^^^ t) (xorL x y) = runC n p s x ^^^ runC n p t y := by
  intro x
  induction x with
  | nil =>
    intro y s t hl _ _ _ _
    cases y with
    | nil => rfl
    | cons c y => simp at hl
  | cons b x ih =>
    intro y s t hl hx hy hs ht
    cases y with
    | nil => simp at hl
    | cons c y =>
      have e : xorL (b :: x) (c :: y) = (b ^^^ c) :: xorL x y := rfl
      rw [e, runC_cons, runC_cons, runC_cons, stepC_xor hn hs ht (hx b (by simp)) (hy c (by simp))]
      exact ih y _ _ (by simpa using hl) (fun z hz => hx z (by simp [hz])) (fun z hz => hy z (by simp [hz])) (stepC_lt hpl) (stepC_lt hpl)
theorem xorL_getD (x y : List Nat) (h : x.length = y.length) (i : Nat) : (xorL x y).getD i 0 = x.getD i 0 ^^^ y.getD i 0 := by
  unfold xorL
  simp only [List.getD, List.getElem?_zipWith]
  by_cases hi : i < x.length
  · have : i < y.length := by omega
    simp [hi, this]
  · simp [List.getElem?_eq_none (by omega : x.length ≤ i), List.getElem?_eq_none (by omega : y.length ≤ i)]

theorem getD_ext {x y : List Nat} (h : x.length = y.length) (hi : ∀ i, x.getD i 0 = y.getD i 0) : x = y := by
  apply List.ext_getElem?
  intro i
  by_cases hl : i < x.length
  · have := hi i
    simp only [List.getD, List.getElem?_eq_getElem hl, List.getElem?_eq_getElem (h ▸ hl : i < y.length), Option.getD_some] at this
    rw [List.getElem?_eq_getElem hl, List.getElem?_eq_getElem (h ▸ hl : i < y.length), this]
  · rw [List.getElem?_eq_none (by omega), List.getElem?_eq_none (by omega)]

/-- A row that is nothing but within n bits, and runs to nothing, is nothing. -/
theorem burst_zero {n p : Nat} (hn : 1 ≤ n) (hp : p % 2 = 1) (hpl : p < 2 ^ n) (z : List Nat) (hz : ∀ x ∈ z, x ≤ 1) (k : Nat) (hout : ∀ i, i < k ∨ k + n ≤ i → z.getD i 0 = 0) (h : runC n p 0 z = 0) : ∀ i, z.getD i 0 = 0 := by
  have hrep : ∀ l : List Nat, (∀ i, l.getD i 0 = 0) → l = List.replicate l.length 0 := fun l hl =>
    getD_ext (by simp) (fun i => by rw [hl i]; simp [List.getD, List.getElem?_replicate]; split <;> rfl)
  have h1 : z.take k = List.replicate (z.take k).length 0 := hrep _ fun i => by
    by_cases hi : i < k
    · have := hout i (.inl hi)
      simpa [List.getD, List.getElem?_take, hi] using this
    · simp [List.getD, List.getElem?_take, hi]
  have h3 : z.drop (k + n) = List.replicate (z.drop (k + n)).length 0 := hrep _ fun i => by
    have := hout (k + n + i) (.inr (by omega))
    simpa [List.getD, List.getElem?_drop] using this
  have hsplit : z = z.take k ++ ((z.drop k).take n ++ z.drop (k + n)) := by
    rw [← List.drop_drop, List.take_append_drop, List.take_append_drop]
  rw [hsplit, runC_append, runC_append, h1, runC_zeros, h3] at h
  have hu : ∀ x ∈ (z.drop k).take n, x ≤ 1 := fun x hx => hz x (List.mem_of_mem_drop (List.mem_of_mem_take hx))
  have h4 := runC_back hn hp hpl _ _ (runC_lt hpl _ _ (Nat.two_pow_pos n)) h
  have hlen : ((z.drop k).take n).length ≤ n := by rw [List.length_take]; omega
  have h5 := (runC_zero hn hp hpl _ 0 hlen hu (Nat.two_pow_pos n)).1 h4
  have h6 : numN ((z.drop k).take n) = 0 := by
    rcases Nat.mul_eq_zero.1 h5.symm with h | h
    · exact h
    · have := Nat.two_pow_pos (n - ((z.drop k).take n).length); omega
  have h7 := bitsN_numN _ hu
  intro i
  by_cases hi : i < k ∨ k + n ≤ i
  · exact hout i hi
  · have e : z.getD i 0 = ((z.drop k).take n).getD (i - k) 0 := by
      simp only [List.getD, List.getElem?_take, List.getElem?_drop, if_pos (by omega : i - k < n)]
      rw [show k + (i - k) = i by omega]
    rw [e, ← h7, h6]
    simp only [bitsN, List.getD, List.getElem?_map, Nat.zero_div, Nat.zero_mod]
    cases (List.range ((z.drop k).take n).length)[i - k]? <;> rfl

/-- A row fits just if it is bits, long enough, and runs to nothing. -/
theorem fitsB_iff (k : Int) (l : List Nat) : fitsB k l = true ↔ szK k ≠ 0 ∧ szK k ≤ l.length ∧ chk l = true ∧ runC (szK k) (polyK k) (startK k) l = 0 := by
  simp only [fitsB, Bool.and_eq_true, decide_eq_true_eq]
  constructor
  · rintro ⟨⟨⟨hz, hl⟩, hc⟩, h⟩
    obtain ⟨n1, n2, n3, n4, n5⟩ := kindOk k hz
    refine ⟨hz, hl, hc, ?_⟩
    have hb : ∀ x ∈ l.drop (l.length - szK k), x ≤ 1 := fun x hx => chk_bit hc x (List.mem_of_mem_drop hx)
    have hlen : (l.drop (l.length - szK k)).length = szK k := by rw [List.length_drop]; omega
    rw [← List.take_append_drop (l.length - szK k) l, runC_append, ← h]
    refine (runC_zero (by omega) n4 n3 _ _ (by omega) hb ?_).2 (by rw [hlen]; simp)
    have := numN_lt _ hb
    rwa [hlen] at this
  · rintro ⟨hz, hl, hc, h⟩
    obtain ⟨n1, n2, n3, n4, n5⟩ := kindOk k hz
    refine ⟨⟨⟨hz, hl⟩, hc⟩, ?_⟩
    have hb : ∀ x ∈ l.drop (l.length - szK k), x ≤ 1 := fun x hx => chk_bit hc x (List.mem_of_mem_drop hx)
    have hlen : (l.drop (l.length - szK k)).length = szK k := by rw [List.length_drop]; omega
    rw [← List.take_append_drop (l.length - szK k) l, runC_append] at h
    have := (runC_zero (by omega) n4 n3 _ _ (by omega) hb (runC_lt n3 _ _ n5)).1 h
    rw [hlen] at this
    simpa using this.symm

/-- What differs from a row that fits within a burst, and isn't it, doesn't fit. -/
theorem fits_burst (k : Int) (x y : List Nat) (hx : fitsB k x = true) (hl : y.length = x.length) (hb : ∀ b ∈ y, b ≤ 1) (j : Nat) (hout : ∀ i, i < j ∨ j + szK k ≤ i → y.getD i 0 = x.getD i 0) : fitsB k y = decide (y = x) := by
  by_cases hyx : y = x
  · rw [hyx, hx]; simp
  · rw [decide_eq_false hyx]
    cases hf : fitsB k y with
    | false => rfl
    | true =>
      exfalso
      obtain ⟨hz, _, hc, h0⟩ := (fitsB_iff k x).1 hx
      obtain ⟨_, _, _, h1⟩ := (fitsB_iff k y).1 hf
      obtain ⟨n1, n2, n3, n4, n5⟩ := kindOk k hz
      have hlin := runC_xor (p := polyK k) (by omega : 1 ≤ szK k) n3 y x (startK k) (startK k) hl hb (chk_bit hc) n5 n5
      rw [Nat.xor_self, h0, h1, Nat.xor_self] at hlin
      have hz2 : ∀ b ∈ xorL y x, b ≤ 1 := by
        intro b hbm
        obtain ⟨i, hi, rfl⟩ := List.getElem_of_mem hbm
        rw [xorL_length hl] at hi
        have e1 : y[i] ≤ 1 := hb _ (List.getElem_mem _)
        have e2 : x[i]'(by omega) ≤ 1 := chk_bit hc _ (List.getElem_mem _)
        simp only [xorL, List.getElem_zipWith]
        have : y[i] ^^^ x[i]'(by omega) < 2 ^ 1 := Nat.xor_lt_two_pow (by omega) (by omega)
        omega
      have hall := burst_zero (by omega) n4 n3 (xorL y x) hz2 j (fun i hi => by rw [xorL_getD _ _ hl, hout i hi, Nat.xor_self]) hlin
      refine hyx (getD_ext hl fun i => ?_)
      have := hall i
      rw [xorL_getD _ _ hl] at this
      have h2 := congrArg (· ^^^ x.getD i 0) this
      simpa [Nat.xor_assoc] using h2

/-- A row with its sum fits, and begins with the row. -/
theorem fits_add (k : Int) (l : List Nat) (hm : moreOk k (startK k) l = true) (hl : l.length ≤ 60000) : fitsB k (addL k l) = true ∧ (addL k l).take l.length = l ∧ (addL k l).length = l.length + szK k ∧ ∀ b ∈ addL k l, b ≤ 1 := by
  obtain ⟨hz, _, hc⟩ := moreOk_parts hm
  obtain ⟨n1, n2, n3, n4, n5⟩ := kindOk k hz
  have ha : addL k l = l ++ bitsN (runC (szK k) (polyK k) (startK k) l) (szK k) := by simp [addL, hm]
  have hS := runC_lt n3 l _ n5
  have hlen : (addL k l).length = l.length + szK k := by rw [ha, List.length_append, bitsN_length]
  have hbits : ∀ b ∈ addL k l, b ≤ 1 := by
    intro b hb
    rw [ha] at hb
    rcases List.mem_append.1 hb with h | h
    · exact chk_bit hc b h
    · have := bitsN_lt _ _ b h; omega
  refine ⟨?_, by rw [ha]; simp, hlen, hbits⟩
  have hc2 : chk (addL k l) = true := by
    simp only [chk, Bool.and_eq_true, decide_eq_true_eq, List.all_eq_true]
    exact ⟨by omega, hbits⟩
  have e : (addL k l).length - szK k = l.length := by omega
  simp only [fitsB, hc2, e, Bool.and_eq_true, decide_eq_true_eq]
  refine ⟨⟨⟨hz, by omega⟩, trivial⟩, ?_⟩
  rw [ha]
  simp [numN_bitsN _ _ hS]

/-- Y is X with the first j bits of B turned in, from place k on. -/
structure Turned (X Y : List Nat) (B k j : Nat) : Prop where
  len : Y.length = X.length
  bit : ∀ b ∈ Y, b ≤ 1
  at_ : ∀ i, Y.getD i 0 = if k ≤ i ∧ i < k + j then X.getD i 0 ^^^ (B / 2 ^ (i - k) % 2) else X.getD i 0
theorem xor_le {a b : Nat} (h : a ≤ 1) (k : b ≤ 1) : a ^^^ b ≤ 1 := by
  have : a ^^^ b < 2 ^ 1 := Nat.xor_lt_two_pow (by omega) (by omega)
  omega
theorem getD_le {Y : List Nat} (h : ∀ b ∈ Y, b ≤ 1) (i : Nat) : Y.getD i 0 ≤ 1 := by
  by_cases hi : i < Y.length
  · have : Y.getD i 0 ∈ Y := by simp [List.getD, hi]
    exact h _ this
  · simp [List.getD, List.getElem?_eq_none (by omega : Y.length ≤ i)]
theorem Turned.zero {X : List Nat} (h : ∀ b ∈ X, b ≤ 1) (B k : Nat) : Turned X X B k 0 := ⟨rfl, h, fun i => by rw [if_neg (by omega)]⟩
theorem Turned.step {X Y : List Nat} {B k j : Nat} (h : Turned X Y B k j) (hk : k + j < X.length) : Turned X (Y.set (k + j) (Y.getD (k + j) 0 ^^^ (B / 2 ^ j % 2))) B k (j + 1) := by
  have hle : Y.getD (k + j) 0 ^^^ (B / 2 ^ j % 2) ≤ 1 := xor_le (getD_le h.bit _) (by omega)
  refine ⟨by rw [List.length_set]; exact h.len, set_bits h.bit _ _ hle, fun i => ?_⟩
  rw [set_getD _ _ _ _ (by rw [h.len]; exact hk)]
  by_cases hi : i = k + j
  · subst hi
    rw [if_pos rfl, if_pos (by omega), h.at_, if_neg (by omega), Nat.add_sub_cancel_left]
  · rw [if_neg hi, h.at_]
    by_cases hc : k ≤ i ∧ i < k + j
    · rw [if_pos hc, if_pos (by omega)]
    · rw [if_neg hc, if_neg (by omega)]
theorem bits_none {B n : Nat} (hB : B < 2 ^ n) (h : ∀ i, i < n → B / 2 ^ i % 2 = 0) : B = 0 := by
  apply Nat.eq_of_testBit_eq
  intro i
  rw [Nat.zero_testBit]
  by_cases hi : i < n
  · rw [Nat.testBit_eq_decide_div_mod_eq, h i hi]; rfl
  · exact Nat.testBit_lt_two_pow (Nat.lt_of_lt_of_le hB (Nat.pow_le_pow_right (by omega) (by omega)))
theorem Turned.fits {K : Int} {X Y : List Nat} {B k : Nat} (h : Turned X Y B k (szK K)) (hx : fitsB K X = true) (hB : B < 2 ^ szK K) : fitsB K Y = decide (B = 0) := by
  rw [fits_burst K X Y hx h.len h.bit k (fun i hi => by rw [h.at_, if_neg (by omega)])]
  have : Y = X ↔ B = 0 := by
    constructor
    · intro he
      refine bits_none hB fun i hi => ?_
      have h1 := h.at_ (k + i)
      rw [if_pos (by omega), Nat.add_sub_cancel_left, he] at h1
      have h2 := congrArg (X.getD (k + i) 0 ^^^ ·) h1
      simp only [Nat.xor_self, ← Nat.xor_assoc, Nat.zero_xor] at h2
      exact h2.symm
    · rintro rfl
      refine getD_ext h.len fun i => ?_
      rw [h.at_]
      split <;> simp
  by_cases hz : B = 0
  · simp [this.2 hz, hz]
  · have : ¬ Y = X := fun e => hz (this.1 e)
    simp [this, hz]
theorem xor_u8 (a b : Nat) (h : a ≤ 1) (k : b ≤ 1) : bits BinOp.xor IntKind.u8 (a : Int) (b : Int) = ((a ^^^ b : Nat) : Int) := by
  rcases (by omega : a = 0 ∨ a = 1) with rfl | rfl <;> rcases (by omega : b = 0 ∨ b = 1) with rfl | rfl <;> decide +kernel

/-- The first j places of Y are the differences of those of A and B, the others noughts. -/
structure Differ (A B Y : List Nat) (N j : Nat) : Prop where
  len : Y.length = N
  at_ : ∀ i, Y.getD i 0 = if i < j then A.getD i 0 ^^^ B.getD i 0 else 0
theorem Differ.zero (A B : List Nat) (N : Nat) : Differ A B (List.replicate N 0) N 0 := ⟨by simp, fun i => by
  simp only [Nat.not_lt_zero, if_false, List.getD, List.getElem?_replicate]
  split <;> rfl⟩
theorem Differ.step {A B Y : List Nat} {N j : Nat} (h : Differ A B Y N j) (hj : j < N) : Differ A B (Y.set j (A.getD j 0 ^^^ B.getD j 0)) N (j + 1) := by
  refine ⟨by rw [List.length_set]; exact h.len, fun i => ?_⟩
  rw [set_getD _ _ _ _ (by rw [h.len]; exact hj), h.at_]
  by_cases hi : i = j
  · subst hi; simp
  · rw [if_neg hi]
    by_cases hc : i < j
    · rw [if_pos hc, if_pos (by omega)]
    · rw [if_neg hc, if_neg (by omega)]
theorem Differ.full {A B Y : List Nat} {N : Nat} (h : Differ A B Y N N) (hA : N ≤ A.length) (hB : N ≤ B.length) : Y = xorL (A.take N) (B.take N) := by
  have h1 : (A.take N).length = N := by rw [List.length_take]; omega
  have h2 : (B.take N).length = N := by rw [List.length_take]; omega
  refine getD_ext (by rw [xorL_length (by omega), h1]; exact h.len) fun i => ?_
  rw [xorL_getD _ _ (by omega), h.at_]
  by_cases hi : i < N
  · simp [List.getD, List.getElem?_take, hi]
  · simp [List.getD, List.getElem?_take, hi]

/-- The four sums together are nothing. -/
theorem four_sums (n p s N : Nat) (hn : 1 ≤ n) (hp : p < 2 ^ n) (hs : s < 2 ^ n) (A B : List Nat) (hA : A.length = N) (hB : B.length = N) (hAb : ∀ b ∈ A, b ≤ 1) (hBb : ∀ b ∈ B, b ≤ 1) :
    ((runC n p s A ^^^ runC n p s B) ^^^ runC n p s (xorL A B)) ^^^ runC n p s (List.replicate N 0) = 0 := by
  have hlen : (xorL A B).length = N := by rw [xorL_length (by omega), hA]
  have hxb : ∀ b ∈ xorL A B, b ≤ 1 := by
    intro b hb
    obtain ⟨i, hi, rfl⟩ := List.getElem_of_mem hb
    simp only [xorL, List.getElem_zipWith]
    rw [hlen] at hi
    exact xor_le (hAb _ (List.getElem_mem _)) (hBb _ (List.getElem_mem _))
  have h1 := runC_xor hn hp A B s s (by omega) hAb hBb hs hs
  have h2 := runC_xor hn hp (xorL A B) (List.replicate N 0) s s (by simp [hlen]) hxb (by simp) hs hs
  have h3 : xorL (xorL A B) (List.replicate N 0) = xorL A B := by
    refine getD_ext (by rw [xorL_length (by simp [hlen])]) fun i => ?_
    rw [xorL_getD _ _ (by simp [hlen])]
    simp [List.getD, List.getElem?_replicate]
    split <;> simp
  rw [Nat.xor_self] at h1 h2
  rw [h3] at h2
  rw [← h1, Nat.xor_assoc, ← h2, Nat.xor_self]
end Go.Proofs.YtfcmoamooafomaaDoor

namespace Go.Proofs.YtfcmoamooafomaaDoor
set_option linter.unusedVariables false
set_option linter.unusedSimpArgs false
open Go.RowKit

theorem gKinds : Tryd.prog.globalNamed "omnibus/crc.kinds" = some 1 := by kernel_rfl
theorem tKinds : (Tryd.prog.globals[1]?).map (·.type) = some 165 := by kernel_rfl
theorem cellsRule : Tryd.prog.cellsOf 154 = 3 := by kernel_rfl
theorem cellsInt : Tryd.prog.cellsOf 3 = 1 := by kernel_rfl
theorem cellsU64 : Tryd.prog.cellsOf 27 = 1 := by kernel_rfl

set_option maxRecDepth 100000 in
theorem kinds_row {H : Type} {enc : TypeId × Value → H} {w : World} {base : Nat} {sp : Nat → Bool} {held : Bool} {fuel : Nat} {cs : List Value} {a b c : Int} {p : List MemPlace}
    (h : DataW.trod enc Tryd.prog w base sp held fuel 154 cs = some (.agg [.lit (.int .i64 a), .lit (.int .u64 b), .lit (.int .u64 c)], p)) : cs = [.int .i64 a, .int .u64 b, .int .u64 c] := by
  obtain ⟨y0, y1, y2, n, hx, hl, h0, h1, h2⟩ := Go.Deep.trod_struct3 Tryd.underlying154 h
  obtain ⟨n0, c0, e0, _⟩ := DataW.trod_int Tryd.underlying3 h0
  obtain ⟨n1, c1, e1, _⟩ := DataW.trod_int Tryd.underlying27 h1
  obtain ⟨n2, c2, e2, _⟩ := DataW.trod_int Tryd.underlying27 h2
  simp only [cellsInt, cellsU64] at c0 c1 c2
  subst e0 e1 e2
  simp only [Prod.mk.injEq, DataW.agg.injEq, List.cons.injEq, DataW.lit.injEq, Lit.int.injEq, and_true, true_and] at hx
  obtain ⟨⟨rfl, rfl, rfl⟩, _⟩ := hx
  rw [cellsRule] at hl
  match cs, hl with
  | [x, y, z], _ =>
    simp at c0 c1 c2
    rw [c0, c1, c2]

theorem kinds_of {W : World} (h : laidMetH Tryd.prog [("omnibus/crc.kinds", Rows.laid_omnibus_crc_kinds)] W) : Kinds W := by
  rw [MakeChecks.laidMetH_plain _ _ _ (by kernel_rfl)] at h
  obtain ⟨ps, ⟨g0, t0, cs0, f0, p0, q0, hg0, ht0, hv0, hd0, _, _⟩, _, _⟩ := h
  obtain rfl := Option.some.inj (gKinds.symm.trans hg0)
  obtain rfl := Option.some.inj (tKinds.symm.trans ht0)
  obtain ⟨xs, m1, rfl, hx1, hlen, hn6, hel⟩ := DataW.trod_array Tryd.underlying165 hd0
  rw [cellsRule] at hel
  simp only [Prod.mk.injEq] at hx1
  obtain ⟨hx1, _⟩ := hx1
  have hrow : ∀ i a b c p, i < 6 → xs[i]? = some (.agg [.lit (.int .i64 a), .lit (.int .u64 b), .lit (.int .u64 c)], p) → cs0.toList[i * 3]? = some (.int .i64 a) ∧ cs0.toList[i * 3 + 1]? = some (.int .u64 b) ∧ cs0.toList[i * 3 + 2]? = some (.int .u64 c) := by
    intro i a b c p hi hx
    have h1 := kinds_row ((hel i hi).trans hx)
    refine ⟨?_, ?_, ?_⟩
    · have := congrArg (·[0]?) h1; simpa [List.getElem?_take, List.getElem?_drop] using this
    · have := congrArg (·[1]?) h1; simpa [List.getElem?_take, List.getElem?_drop] using this
    · have := congrArg (·[2]?) h1; simpa [List.getElem?_take, List.getElem?_drop] using this
  intro i v hv
  rw [World.var?_cell gKinds hv0 i]
  rw [← Array.getElem?_toList]
  match xs, hn6, hx1, hrow with
  | [(d0, p0), (d1, p1), (d2, p2), (d3, p3), (d4, p4), (d5, p5)], _, hx1, hrow =>
    simp only [Rows.laid_omnibus_crc_kinds, List.map_cons, List.map_nil, DataW.agg.injEq, List.cons.injEq, and_true] at hx1
    obtain ⟨rfl, rfl, rfl, rfl, rfl, rfl⟩ := hx1
    have r0 := hrow 0 _ _ _ _ (by decide) rfl
    have r1 := hrow 1 _ _ _ _ (by decide) rfl
    have r2 := hrow 2 _ _ _ _ (by decide) rfl
    have r3 := hrow 3 _ _ _ _ (by decide) rfl
    have r4 := hrow 4 _ _ _ _ (by decide) rfl
    have r5 := hrow 5 _ _ _ _ (by decide) rfl
    have hi : i < 18 := (List.getElem?_eq_some_iff.1 hv).1
    rcases (by omega : i = 0 ∨ i = 1 ∨ i = 2 ∨ i = 3 ∨ i = 4 ∨ i = 5 ∨ i = 6 ∨ i = 7 ∨ i = 8 ∨ i = 9 ∨ i = 10 ∨ i = 11 ∨ i = 12 ∨ i = 13 ∨ i = 14 ∨ i = 15 ∨ i = 16 ∨ i = 17) with rfl | rfl | rfl | rfl | rfl | rfl | rfl | rfl | rfl | rfl | rfl | rfl | rfl | rfl | rfl | rfl | rfl | rfl
    all_goals
      simp only [kindsTab, List.getElem?_cons_succ, List.getElem?_cons_zero, Option.some.injEq] at hv
      subst hv
      first
      | exact r0.1 | exact r0.2.1 | exact r0.2.2 | exact r1.1 | exact r1.2.1 | exact r1.2.2 | exact r2.1 | exact r2.2.1 | exact r2.2.2
      | exact r3.1 | exact r3.2.1 | exact r3.2.2 | exact r4.1 | exact r4.2.1 | exact r4.2.2 | exact r5.1 | exact r5.2.1 | exact r5.2.2
end Go.Proofs.YtfcmoamooafomaaDoor
