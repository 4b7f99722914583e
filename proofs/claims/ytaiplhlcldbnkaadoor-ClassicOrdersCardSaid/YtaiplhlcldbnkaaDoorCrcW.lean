
/- Contracts of the check sums' functions: find, Size, take, each, More, Sum. Condition: the package's table of kinds holds what the program's text lays there. -/
import Derived.Test.YtaiplhlcldbnkaaDoorCrcP
import Derived.RegionTactic
import Derived.StillTailTactics
namespace Go.Proofs.YtaiplhlcldbnkaaDoor
set_option linter.unusedVariables false
set_option linter.unusedSimpArgs false
open Go.RowKit

/-- The cells of the table of kinds. -/
def kindsTab : List Value := [.int .i64 0, .int .u64 0, .int .u64 0, .int .i64 15, .int .u64 17817, .int .u64 0, .int .i64 17, .int .u64 92251, .int .u64 65536, .int .i64 21, .int .u64 1058969, .int .u64 1048576, .int .i64 13, .int .u64 6631, .int .u64 1, .int .i64 32, .int .u64 4104977171, .int .u64 1]
def Kinds (w : World) : Prop := ∀ i v, kindsTab[i]? = some v → w.cell? ⟨1, i, none⟩ = some v
theorem Kinds.below {w w' : World} (h : Kinds w) (hb : Nb w w') : Kinds w' := fun i v hv => by
  have := h i v hv
  rw [hb.cell (p := ⟨1, i, none⟩) (World.block_lt_of_cell? _ _ this)]
  exact this

set_option maxHeartbeats 800000 in
set_option maxRecDepth 100000 in
theorem find_any (k : Int) (w : World) (h : Kinds w) :
    Calls Tryd.prog 73 #[.int .i64 k] w fun e w' => e = .returned (.agg #[.int .i64 (szK k), .int .u64 (polyK k), .int .u64 (startK k)]) ∧ Nb w w' := by
  by_cases h0 : k < 0
  · have e : ruleK k = (0, 0, 0) := by rcases ruleK_cases k with (h | h | h | h | h) | h <;> first | exact h.1 | omega
    simp only [szK, polyK, startK, e]
    go_enter Tryd.func73, Tryd.ntmps73
    go_wp2
    exact bodyPost_ret (v := .agg #[.int .i64 0, .int .u64 0, .int .u64 0]) (by simp [results, Tryd.results73, go_sem]) rfl ⟨rfl, Nb.rfl.al _⟩
  by_cases h6 : 6 ≤ k
  · have e : ruleK k = (0, 0, 0) := by rcases ruleK_cases k with (h | h | h | h | h) | h <;> first | exact h.1 | omega
    simp only [szK, polyK, startK, e]
    go_enter Tryd.func73, Tryd.ntmps73
    go_wp2
    exact bodyPost_ret (v := .agg #[.int .i64 0, .int .u64 0, .int .u64 0]) (by simp [results, Tryd.results73, go_sem]) rfl ⟨rfl, Nb.rfl.al _⟩
  rcases (by omega : k = 0 ∨ k = 1 ∨ k = 2 ∨ k = 3 ∨ k = 4 ∨ k = 5) with rfl | rfl | rfl | rfl | rfl | rfl
  · have c0 := h 0 _ rfl
    have c1 := h 1 _ rfl
    have c2 := h 2 _ rfl
    have hlt : 1 < w.heap.size := World.block_lt_of_cell? _ _ c0
    clear h h0 h6
    go_enter Tryd.func73, Tryd.ntmps73
    go_wp2
    exact bodyPost_ret (v := .agg #[.int .i64 (szK 0), .int .u64 (polyK 0), .int .u64 (startK 0)]) (by simp [results, Tryd.results73, go_sem]; exact ⟨rfl, rfl, rfl⟩) rfl ⟨rfl, Nb.rfl.al _⟩
  · have c0 := h 3 _ rfl
    have c1 := h 4 _ rfl
    have c2 := h 5 _ rfl
    have hlt : 1 < w.heap.size := World.block_lt_of_cell? _ _ c0
    clear h h0 h6
    go_enter Tryd.func73, Tryd.ntmps73
    go_wp2
    exact bodyPost_ret (v := .agg #[.int .i64 (szK 1), .int .u64 (polyK 1), .int .u64 (startK 1)]) (by simp [results, Tryd.results73, go_sem]; exact ⟨rfl, rfl, rfl⟩) rfl ⟨rfl, Nb.rfl.al _⟩
  · have c0 := h 6 _ rfl
    have c1 := h 7 _ rfl
    have c2 := h 8 _ rfl
    have hlt : 1 < w.heap.size := World.block_lt_of_cell? _ _ c0
    clear h h0 h6
    go_enter Tryd.func73, Tryd.ntmps73
    go_wp2
    exact bodyPost_ret (v := .agg #[.int .i64 (szK 2), .int .u64 (polyK 2), .int .u64 (startK 2)]) (by simp [results, Tryd.results73, go_sem]; exact ⟨rfl, rfl, rfl⟩) rfl ⟨rfl, Nb.rfl.al _⟩
  · have c0 := h 9 _ rfl
    have c1 := h 10 _ rfl
    have c2 := h 11 _ rfl
    have hlt : 1 < w.heap.size := World.block_lt_of_cell? _ _ c0
    clear h h0 h6
    go_enter Tryd.func73, Tryd.ntmps73
    go_wp2
    exact bodyPost_ret (v := .agg #[.int .i64 (szK 3), .int .u64 (polyK 3), .int .u64 (startK 3)]) (by simp [results, Tryd.results73, go_sem]; exact ⟨rfl, rfl, rfl⟩) rfl ⟨rfl, Nb.rfl.al _⟩
  · have c0 := h 12 _ rfl
    have c1 := h 13 _ rfl
    have c2 := h 14 _ rfl
    have hlt : 1 < w.heap.size := World.block_lt_of_cell? _ _ c0
    clear h h0 h6
    go_enter Tryd.func73, Tryd.ntmps73
    go_wp2
    exact bodyPost_ret (v := .agg #[.int .i64 (szK 4), .int .u64 (polyK 4), .int .u64 (startK 4)]) (by simp [results, Tryd.results73, go_sem]; exact ⟨rfl, rfl, rfl⟩) rfl ⟨rfl, Nb.rfl.al _⟩
  · have c0 := h 15 _ rfl
    have c1 := h 16 _ rfl
    have c2 := h 17 _ rfl
    have hlt : 1 < w.heap.size := World.block_lt_of_cell? _ _ c0
    clear h h0 h6
    go_enter Tryd.func73, Tryd.ntmps73
    go_wp2
    exact bodyPost_ret (v := .agg #[.int .i64 (szK 5), .int .u64 (polyK 5), .int .u64 (startK 5)]) (by simp [results, Tryd.results73, go_sem]; exact ⟨rfl, rfl, rfl⟩) rfl ⟨rfl, Nb.rfl.al _⟩
theorem run_rule0 (a b c : Value) (w : World) : (Instr.field 107 (.agg #[a, b, c]) 0).run Tryd.prog w = .ok a w := by kernel_rfl
theorem run_rule2 (a b c : Value) (w : World) : (Instr.field 107 (.agg #[a, b, c]) 2).run Tryd.prog w = .ok c w := by kernel_rfl


set_option maxHeartbeats 800000 in
set_option maxRecDepth 100000 in
theorem size_any (k : Int) (w : World) (h : Kinds w) :
    Calls Tryd.prog 57 #[.int .i64 k] w fun e w' => e = .returned (.int .i64 (szK k)) ∧ Nb w w' := by
  have hf := @run_rule0
  go_enter Tryd.func57, Tryd.ntmps57
  go_wp2_with fail
  refine (find_any k _ h).mono ?_
  rintro e w1 ⟨rfl, hnb⟩
  go_wp2
  go_ret
  exact ⟨rfl, hnb⟩

theorem Blk.drewN {w : World} {R : Nat} {cs : Array Value} {t : TypeId} (h : Blk w R cs t) (n : Nat) : Blk (w.drewN n) R cs t := h

theorem take_arith (n s : Nat) (h32 : n ≤ 32) (hs : s < 2 ^ n) :
    bits BinOp.and IntKind.u64 ((s : Int) * 2) (IntKind.u64.wrap (IntKind.u64.wrap (2 ^ n) - 1)) = ((s * 2 % 2 ^ n : Nat) : Int) := by
  have h1 : (2 : Nat) ^ n ≤ 4294967296 := Nat.pow_le_pow_right (by omega) h32
  have h0 : 0 < (2 : Nat) ^ n := Nat.two_pow_pos n
  have h2 := bits_and_u64_nat (s * 2) (2 ^ n - 1) (by omega) (by omega)
  rw [Nat.and_two_pow_sub_one_eq_mod] at h2
  have h3 : (2 : Int) ^ n = ((2 ^ n : Nat) : Int) := by push_cast; rfl
  have e2 : IntKind.u64.wrap (IntKind.u64.wrap (2 ^ n) - 1) = ((2 ^ n - 1 : Nat) : Int) := by
    rw [h3, IntKind.wrap_u64, IntKind.wrap_u64]
    omega
  rw [← h2, e2]
  congr 1

set_option maxHeartbeats 800000 in
set_option maxRecDepth 100000 in
theorem take_any (R n p s0 s b : Nat) (w : World) (h : Blk w R #[.int .i64 n, .int .u64 p, .int .u64 s0, .int .u64 s] 115) (hn : 1 ≤ n) (h32 : n ≤ 32) (hp : p < 2 ^ n) (hs : s < 2 ^ n) (hb : b ≤ 1) :
    Calls Tryd.prog 79 #[.pointer (some ⟨R, 0, none⟩), .int .u8 b] w fun e w' => e = .returned (.tuple #[]) ∧ Blk w' R #[.int .i64 n, .int .u64 p, .int .u64 s0, .int .u64 (stepC n p s b)] 115 ∧ Kp (· = R) w w' := by
  have c0 : w.cell? ⟨R, 0, none⟩ = some (.int .i64 n) := h.cell 0
  have c1 : w.cell? ⟨R, 1, none⟩ = some (.int .u64 p) := h.cell 1
  have c3 : w.cell? ⟨R, 3, none⟩ = some (.int .u64 s) := h.cell 3
  have f3 := h.frozen 3
  have hR := h.lt
  obtain ⟨q, hq⟩ : ∃ q, q = s / 2 ^ (n - 1) := ⟨_, rfl⟩
  obtain ⟨m, hm⟩ : ∃ m, m = s * 2 % 2 ^ n := ⟨_, rfl⟩
  have HS : Hid (stepC n p s b = if q = b then m else m ^^^ p) := Lib.hid (by rw [hq, hm]; rfl)
  have HE : Hid (bits BinOp.and IntKind.u64 ((s : Int) * 2) (IntKind.u64.wrap (IntKind.u64.wrap (2 ^ n) - 1)) = (m : Int)) := Lib.hid (by rw [hm]; exact take_arith n s h32 hs)
  have H1 : Hid ((s : Int) / 2 ^ (n - 1) = (q : Int)) := Lib.hid (by rw [hq]; push_cast; rfl)
  have HB := Lib.hid h
  have hm2 : m < 2 ^ n := by rw [hm]; exact Nat.mod_lt _ (Nat.two_pow_pos n)
  have h64 : (2 : Nat) ^ n ≤ 4294967296 := Nat.pow_le_pow_right (by omega) h32
  have hpb : p < 18446744073709551616 := by omega
  have hmb : m < 18446744073709551616 := by omega
  have hsb : s < 4294967296 := by omega
  have HX := Lib.hid (bits_xor_u64_nat m p hmb hpb)
  have hq1 : q ≤ 1 := by rw [hq]; exact top_le hn hs
  clear h hq hm hm2 h64 hp hs
  go_enter Tryd.func79, Tryd.ntmps79
  go_wp2
  go_quiet (fail)
  go_wp2
  go_region
  rw [HE.out, H1.out]
  by_cases hqb : q = b
  · have hd : ((q : Int) != (b : Int)) = false := by rw [bne_eq_false_iff_eq]; omega
    have HS2 := Lib.hid (HS.out.trans (if_pos hqb))
    clear hqb
    go_wp2
    go_end0
    rw [HS2.out]
    exact ⟨rfl, (HB.out.drewN _).set 3 _, (Kp.ofNb (Nb.drewN _ _)).tr (Kp.set (F := (· = R)) rfl) (fun _ h => .inl h)⟩
  · have hd : ((q : Int) != (b : Int)) = true := by rw [bne_iff_ne]; omega
    have HS2 := Lib.hid (HS.out.trans (if_neg hqb))
    clear hqb
    go_wp2
    go_region
    go_wp2
    go_end0
    rw [HS2.out]
    refine ⟨rfl, ?_, ?_⟩
    · have := (((HB.out.drewN (nq + 1)).set 3 (.int .u64 m)).set 3 (.int .u64 (m ^^^ p : Nat))).drewN 1
      rw [HX.out]
      exact this
    · exact (((Kp.ofNb (F := (· = R)) (Nb.drewN _ _)).tr (Kp.set (F := (· = R)) rfl) (fun _ h => .inl h)).tr (Kp.set (F := (· = R)) rfl) (fun _ h => .inl h)).tr (Kp.ofNb (Nb.drewN _ 1)) (fun _ h => .inl h)

set_option maxHeartbeats 800000 in
set_option maxRecDepth 100000 in
theorem crceach_any (F : Nat) (p : Value) (a : Option Addr) (cap : Nat) (l : List Nat) (I : Nat → World → Prop) (w : World) (hL : l.length ≤ 9223372036854775807) (h0 : I 0 w)
    (hbs : ∀ k w, I k w → Bs w a cap l)
    (hcf : ∀ args w, (callFunc F args).run Tryd.prog w = .ok (.enter F args) w)
    (hstep : ∀ k x w, I k w → l[k]? = some x → Calls Tryd.prog F #[p, .int .u8 (x : Int)] w fun e w' => e = .returned (.tuple #[]) ∧ I (k + 1) w') :
    Calls Tryd.prog 78 #[.slice a l.length cap, .func (.func F) #[p] #[]] w fun e w' => e = .returned (.tuple #[]) ∧ I l.length w' := by
  have HB := Lib.hid hbs
  have HS := Lib.hid hstep
  clear hbs hstep
  go_enter Tryd.func78, Tryd.ntmps78
  go_wp2
  go_loopw [8] (fun i wr => ∃ k : Nat, k ≤ l.length ∧ i = .int .i64 k ∧ I k wr) (fun i _ => l.length - (intOf i).toNat)
  case atStart => exact ⟨0, Nat.zero_le _, rfl, h0⟩
  case round =>
    obtain ⟨k, hk, rfl, hI⟩ := hrel
    by_cases hlt : k < l.length
    · obtain ⟨b, o, rfl, hc⟩ := (HB.out k wr hI).hcells (by omega)
      obtain ⟨x, hx⟩ : ∃ x, l[k]? = some x := ⟨l[k], by simp [hlt]⟩
      have c1 := hc k hlt
      rw [show l.getD k 0 = x from by simp [List.getD, hx]] at c1
      have HX := Lib.hid hx
      clear hc hx
      go_wp2_with fail
      refine (HS.out k x wr hI HX.out).mono ?_
      rintro e w' ⟨rfl, hI'⟩
      go_wp2
      go_roundw
      case rel => exact ⟨k + 1, by omega, by go_num, hI'⟩
      case measure => simp [intOf]; omega
    · obtain rfl : k = l.length := by omega
      go_wp2
      go_end0
      exact ⟨rfl, hI⟩
end Go.Proofs.YtaiplhlcldbnkaaDoor
