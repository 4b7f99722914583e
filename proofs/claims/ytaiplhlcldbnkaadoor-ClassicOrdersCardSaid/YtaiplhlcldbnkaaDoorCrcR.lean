
/- Contracts of the document's run, More and Sum. No conditions. -/
import Derived.Test.YtaiplhlcldbnkaaDoorCrcM
namespace Go.Proofs.YtaiplhlcldbnkaaDoor
set_option linter.unusedVariables false
set_option linter.unusedSimpArgs false
open Go.RowKit

set_option maxHeartbeats 800000 in
set_option maxRecDepth 100000 in
theorem refrun_crc (k : Int) (s : Nat) (a : Option Addr) (cap : Nat) (l : List Nat) (w : World) (h : Bs w a cap l) (hz : szK k ≠ 0) (hs : s < 2 ^ szK k) (hb : ∀ x ∈ l, x ≤ 1) :
    Calls Tryd.prog 76 #[.int .i64 k, .int .u64 s, .slice a l.length cap] w fun e w' => e = .returned (.int .u64 (runC (szK k) (polyK k) s l)) ∧ Nb w w' := by
  have hL := h.len
  have H := Lib.hid h
  have hbit := Lib.hid hb
  obtain ⟨n1, n2, n3, _, _⟩ := kindOk k hz
  have HS := Lib.hid hs
  have N3 := Lib.hid n3
  clear h hs n3 hb
  go_enter Tryd.func76, Tryd.ntmps76
  go_wp2_with fail
  refine (of_any k w).mono ?_
  rintro e w1 ⟨rfl, rfl⟩
  go_wp2
  go_loop [1, 21] (fun z i => ∃ j : Nat, j ≤ l.length ∧ i = .int .i64 j ∧ z = .int .u64 (runC (szK k) (polyK k) s (l.take j))) (fun _ i => l.length - (intOf i).toNat)
  case atStart => exact ⟨0, Nat.zero_le _, rfl, rfl⟩
  case round =>
    obtain ⟨j, hj, rfl, rfl⟩ := hrel
    by_cases hlt : j < l.length
    · obtain ⟨b, o, rfl, hcl⟩ := H.out.hcells (by omega)
      obtain ⟨x, hx⟩ : ∃ x, l[j]? = some x := ⟨l[j], by simp [hlt]⟩
      have c1 := hcl j hlt
      rw [show l.getD j 0 = x from by simp [List.getD, hx]] at c1
      have hx1 : x ≤ 1 := hbit.out x (List.mem_of_getElem? hx)
      obtain ⟨S, hS⟩ : ∃ S, S = runC (szK k) (polyK k) s (l.take j) := ⟨_, rfl⟩
      have hSl : S < 2 ^ szK k := by rw [hS]; exact runC_lt N3.out _ _ HS.out
      have HT : Hid (runC (szK k) (polyK k) s (l.take (j + 1)) = stepC (szK k) (polyK k) S x) := Lib.hid (by rw [take_snoc' hx, runC_snoc, hS])
      rw [← hS]
      obtain ⟨q, hq⟩ : ∃ q, q = S / 2 ^ (szK k - 1) := ⟨_, rfl⟩
      obtain ⟨m, hm⟩ : ∃ m, m = S * 2 % 2 ^ szK k := ⟨_, rfl⟩
      have HZ : Hid (stepC (szK k) (polyK k) S x = if q = x then m else m ^^^ polyK k) := Lib.hid (by rw [hq, hm]; rfl)
      have H1 : Hid ((S : Int) / 2 ^ (szK k - 1) = (q : Int)) := Lib.hid (by rw [hq]; push_cast; rfl)
      have hm2 : m < 2 ^ szK k := by rw [hm]; exact Nat.mod_lt _ (Nat.two_pow_pos _)
      have h64 : (2 : Nat) ^ szK k ≤ 4294967296 := Nat.pow_le_pow_right (by omega) n2
      have hpb : polyK k < 18446744073709551616 := by have := N3.out; omega
      have hmb : m < 18446744073709551616 := by omega
      have hSb : S < 4294967296 := by omega
      have HX := Lib.hid (bits_xor_u64_nat m (polyK k) hmb hpb)
      have hq1 : q ≤ 1 := by rw [hq]; exact top_le (by omega) hSl
      clear hcl hx hS hq hSl
      obtain ⟨P, hP⟩ : ∃ P, P = 2 ^ szK k := ⟨_, rfl⟩
      have hP0 : 0 < P := by rw [hP]; exact Nat.two_pow_pos _
      have hW : IntKind.u64.wrap (2 ^ szK k) = (P : Int) := by
        have e : (2 : Int) ^ szK k = ((2 ^ szK k : Nat) : Int) := by push_cast; rfl
        rw [e, IntKind.wrap_u64, hP]
        omega
      have HM : Hid ((S : Int) * 2 % (P : Int) = (m : Int)) := Lib.hid (by rw [hm, hP]; push_cast; rfl)
      have hqt : ((S : Int) / 2 ^ (szK k - 1)).tmod 2 = (q : Int) := by rw [H1.out]; rcases (by omega : q = 0 ∨ q = 1) with rfl | rfl <;> rfl
      have HJ : ∀ z : Int, z = ((runC (szK k) (polyK k) s (l.take (j + 1)) : Nat) : Int) → (∃ j1, j1 ≤ l.length ∧ Value.int IntKind.i64 ((j : Int) + 1) = Value.int IntKind.i64 (j1 : Int) ∧ Value.int .u64 z = Value.int .u64 (runC (szK k) (polyK k) s (l.take j1))) := fun z hz => ⟨j + 1, by omega, by simp, by rw [hz]⟩
      have HJ := Lib.hid HJ
      clear hm hP h64 hm2
      by_cases hqx : q = x
      · have hd : (((S : Int) / 2 ^ (szK k - 1)).tmod 2 != (x : Int)) = false := by rw [hqt, bne_eq_false_iff_eq]; omega
        have HZ2 := Lib.hid (HZ.out.trans (if_pos hqx))
        clear hqx hqt
        go_wp2
        go_round
        case rel => exact HJ.out _ (by rw [HT.out, HZ2.out, HM.out])
        case measure => simp [intOf]; omega
      · have hd : (((S : Int) / 2 ^ (szK k - 1)).tmod 2 != (x : Int)) = true := by rw [hqt, bne_iff_ne]; omega
        have HZ2 := Lib.hid (HZ.out.trans (if_neg hqx))
        clear hqx hqt
        go_wp2
        go_round
        case rel => exact HJ.out _ (by rw [HT.out, HZ2.out, HM.out, HX.out])
        case measure => simp [intOf]; omega
    · obtain rfl : j = l.length := by omega
      rw [List.take_of_length_le (Nat.le_refl _)]
      go_wp2
      go_ret
      exact ⟨rfl, Nb.rfl⟩

set_option maxHeartbeats 800000 in
set_option maxRecDepth 100000 in
theorem refmore_u (k : Int) (s : Nat) (a : Option Addr) (cap : Nat) (l : List Nat) (w : World) (h : Bs w a cap l) (hs64 : s < 18446744073709551616) :
    Calls Tryd.prog 64 #[.int .i64 k, .int .u64 s, .slice a l.length cap] w fun e w' => e = .returned (.tuple #[.int .u64 (moreN k s l), .int .i64 (moreE k s l)]) ∧ Nb w w' := by
  have hL := h.len
  have H := Lib.hid h
  clear h
  by_cases hz : szK k = 0
  · have hm : moreOk k s l = false := by simp [moreOk, hz]
    simp only [moreN, moreE, hm, Bool.false_eq_true, if_false]
    have hd1 : ((szK k : Int) == 0) = true := by rw [beq_iff_eq]; omega
    clear hm
    go_enter Tryd.func64, Tryd.ntmps64
    go_wp2_with fail
    refine (of_any k w).mono ?_
    rintro e w1 ⟨rfl, rfl⟩
    go_wp2
    go_ret2
    exact ⟨rfl, Nb.rfl⟩
  · obtain ⟨n1, n2, _, _, _⟩ := kindOk k hz
    have hd1 : ((szK k : Int) == 0) = false := by rw [beq_eq_false_iff_ne]; omega
    obtain ⟨P, hP⟩ : ∃ P, P = 2 ^ szK k := ⟨_, rfl⟩
    have h64 : P ≤ 4294967296 := by rw [hP]; exact Nat.pow_le_pow_right (by omega) n2
    have hW : IntKind.u64.wrap (2 ^ szK k) = (P : Int) := by
      have e : (2 : Int) ^ szK k = ((2 ^ szK k : Nat) : Int) := by push_cast; rfl
      rw [e, IntKind.wrap_u64, hP]
      omega
    cases hc : chk l with
    | false =>
      have hm : moreOk k s l = false := by simp [moreOk, hc]
      simp only [moreN, moreE, hm, Bool.false_eq_true, if_false]
      have HC := Lib.hid hc
      clear hm hc hP
      go_enter Tryd.func64, Tryd.ntmps64
      go_wp2_with fail
      refine (of_any k w).mono ?_
      rintro e w1 ⟨rfl, rfl⟩
      go_wp2_with fail
      refine (refcheck_bad a cap l _ H.out HC.out).mono ?_
      rintro e w1 ⟨rfl, rfl⟩
      go_wp2
      go_ret2
      exact ⟨rfl, Nb.rfl⟩
    | true =>
      have HC := Lib.hid hc
      by_cases hs : s < 2 ^ szK k
      · have hm : moreOk k s l = true := by simp [moreOk, hc, hz, hs]
        simp only [moreN, moreE, hm, if_true]
        have HS := Lib.hid hs
        have hd2 : s < P := by rw [hP]; exact hs
        have hd3 : decide (P ≤ s) = false := by rw [decide_eq_false_iff_not]; omega
        clear hm hc hP hs
        go_enter Tryd.func64, Tryd.ntmps64
        go_wp2_with fail
        refine (of_any k w).mono ?_
        rintro e w1 ⟨rfl, rfl⟩
        go_wp2_with fail
        refine (refcheck_ok a cap l _ H.out HC.out).mono ?_
        rintro e w1 ⟨rfl, rfl⟩
        go_wp2_with fail
        refine (refrun_crc k s a cap l w H.out hz HS.out (chk_bit HC.out)).mono ?_
        rintro e w1 ⟨rfl, hnb⟩
        go_wp2
        go_ret2
        exact ⟨rfl, hnb⟩
      · have hm : moreOk k s l = false := by simp [moreOk, hs]
        simp only [moreN, moreE, hm, Bool.false_eq_true, if_false]
        have hd2 : P ≤ s := by omega
        have hd3 : decide (P ≤ s) = true := by rw [decide_eq_true_eq]; omega
        clear hm hc hP hs
        go_enter Tryd.func64, Tryd.ntmps64
        go_wp2_with fail
        refine (of_any k w).mono ?_
        rintro e w1 ⟨rfl, rfl⟩
        go_wp2_with fail
        refine (refcheck_ok a cap l _ H.out HC.out).mono ?_
        rintro e w1 ⟨rfl, rfl⟩
        go_wp2
        go_ret2
        exact ⟨rfl, Nb.rfl⟩

set_option maxHeartbeats 800000 in
set_option maxRecDepth 100000 in
theorem refsum_u (k : Int) (a : Option Addr) (cap : Nat) (l : List Nat) (w : World) (h : Bs w a cap l) :
    Calls Tryd.prog 47 #[.int .i64 k, .slice a l.length cap] w fun e w' => e = .returned (.tuple #[.int .u64 (sumN k l), .int .i64 (sumE k l)]) ∧ Nb w w' := by
  have H := Lib.hid h
  have HS := Lib.hid (startK_lt k)
  clear h
  go_enter Tryd.func47, Tryd.ntmps47
  go_wp2_with fail
  refine (of_any k w).mono ?_
  rintro e w1 ⟨rfl, rfl⟩
  go_wp2_with fail
  refine (refmore_u k (startK k) a cap l _ H.out HS.out).mono ?_
  rintro e w2 ⟨rfl, hn2⟩
  go_wp2
  go_ret2
  exact ⟨rfl, hn2⟩
end Go.Proofs.YtaiplhlcldbnkaaDoor
