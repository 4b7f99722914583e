
/- Contracts of the document's Size, Code and Fit. No conditions. -/
import Derived.Test.YtaiplhlcldbnkaaDoorFrmP
namespace Go.Proofs.YtaiplhlcldbnkaaDoor
set_option linter.unusedVariables false
set_option linter.unusedSimpArgs false
open Go.RowKit

theorem size_bad {k c : Int} (h : ¬ (0 ≤ c ∧ c < (cntF k : Int))) : sizeV k c = 0 ∧ sizeE k c = 2 := by
  have hh : isC k c = false := by
    cases h1 : isC k c with
    | false => rfl
    | true => exact absurd ((isC_iff k c).1 h1) h
  simp [sizeV, sizeE, hh]
theorem size_good {k : Int} {c : Nat} (h : c < cntF k) : sizeV k c = atF k c ∧ sizeE k c = 0 := by
  have hh : isC k c = true := (isC_nat k c).2 h
  simp [sizeV, sizeE, hh]

set_option maxHeartbeats 1600000 in
set_option maxRecDepth 100000 in
theorem refsize_any (k c : Int) (w : World) :
    Calls Tryd.prog 63 #[.int .i64 k, .int .i64 c] w fun e w' => e = .returned (.tuple #[.int .i64 (sizeV k c : Nat), .int .i64 (sizeE k c : Nat)]) ∧ w = w' := by
  by_cases hg : 0 ≤ c ∧ c < (cntF k : Int)
  · obtain ⟨d, rfl⟩ := Int.eq_ofNat_of_zero_le hg.1
    have hd : d < cntF k := by omega
    rw [(size_good hd).1, (size_good hd).2]
    clear hg
    rcases kind_cases k with (rfl | rfl | rfl) | ⟨h1, h2, h3⟩
    · have h9 : d < 9 := hd
      rw [at1 d h9]
      clear hd
      go_enter Tryd.func63, Tryd.ntmps63
      go_wp2
      go_ret2
      exact ⟨rfl, rfl⟩
    · have h16 : d < 16 := hd
      by_cases h9 : d < 9
      · have e : atF 2 d = d := by simp [atF, h9]
        rw [e]
        clear hd e
        go_enter Tryd.func63, Tryd.ntmps63
        go_wp2
        go_ret2
        exact ⟨rfl, rfl⟩
      · clear hd
        rcases (by omega : d = 9 ∨ d = 10 ∨ d = 11 ∨ d = 12 ∨ d = 13 ∨ d = 14 ∨ d = 15) with rfl | rfl | rfl | rfl | rfl | rfl | rfl
        · have hix : ∀ w, (Instr.index 111 (.agg #[.int .i64 12, .int .i64 16, .int .i64 20, .int .i64 24, .int .i64 32, .int .i64 48, .int .i64 64]) (.int .i64 0)).run Tryd.prog w = .ok (.int .i64 12) w := fun _ => by kernel_rfl
          clear h9 h16
          rw [show atF 2 9 = 12 from rfl]
          go_enter Tryd.func63, Tryd.ntmps63
          go_wp2
          go_ret2
          exact ⟨rfl, rfl⟩
        · have hix : ∀ w, (Instr.index 111 (.agg #[.int .i64 12, .int .i64 16, .int .i64 20, .int .i64 24, .int .i64 32, .int .i64 48, .int .i64 64]) (.int .i64 1)).run Tryd.prog w = .ok (.int .i64 16) w := fun _ => by kernel_rfl
          clear h9 h16
          rw [show atF 2 10 = 16 from rfl]
          go_enter Tryd.func63, Tryd.ntmps63
          go_wp2
          go_ret2
          exact ⟨rfl, rfl⟩
        · have hix : ∀ w, (Instr.index 111 (.agg #[.int .i64 12, .int .i64 16, .int .i64 20, .int .i64 24, .int .i64 32, .int .i64 48, .int .i64 64]) (.int .i64 2)).run Tryd.prog w = .ok (.int .i64 20) w := fun _ => by kernel_rfl
          clear h9 h16
          rw [show atF 2 11 = 20 from rfl]
          go_enter Tryd.func63, Tryd.ntmps63
          go_wp2
          go_ret2
          exact ⟨rfl, rfl⟩
        · have hix : ∀ w, (Instr.index 111 (.agg #[.int .i64 12, .int .i64 16, .int .i64 20, .int .i64 24, .int .i64 32, .int .i64 48, .int .i64 64]) (.int .i64 3)).run Tryd.prog w = .ok (.int .i64 24) w := fun _ => by kernel_rfl
          clear h9 h16
          rw [show atF 2 12 = 24 from rfl]
          go_enter Tryd.func63, Tryd.ntmps63
          go_wp2
          go_ret2
          exact ⟨rfl, rfl⟩
        · have hix : ∀ w, (Instr.index 111 (.agg #[.int .i64 12, .int .i64 16, .int .i64 20, .int .i64 24, .int .i64 32, .int .i64 48, .int .i64 64]) (.int .i64 4)).run Tryd.prog w = .ok (.int .i64 32) w := fun _ => by kernel_rfl
          clear h9 h16
          rw [show atF 2 13 = 32 from rfl]
          go_enter Tryd.func63, Tryd.ntmps63
          go_wp2
          go_ret2
          exact ⟨rfl, rfl⟩
        · have hix : ∀ w, (Instr.index 111 (.agg #[.int .i64 12, .int .i64 16, .int .i64 20, .int .i64 24, .int .i64 32, .int .i64 48, .int .i64 64]) (.int .i64 5)).run Tryd.prog w = .ok (.int .i64 48) w := fun _ => by kernel_rfl
          clear h9 h16
          rw [show atF 2 14 = 48 from rfl]
          go_enter Tryd.func63, Tryd.ntmps63
          go_wp2
          go_ret2
          exact ⟨rfl, rfl⟩
        · have hix : ∀ w, (Instr.index 111 (.agg #[.int .i64 12, .int .i64 16, .int .i64 20, .int .i64 24, .int .i64 32, .int .i64 48, .int .i64 64]) (.int .i64 6)).run Tryd.prog w = .ok (.int .i64 64) w := fun _ => by kernel_rfl
          clear h9 h16
          rw [show atF 2 15 = 64 from rfl]
          go_enter Tryd.func63, Tryd.ntmps63
          go_wp2
          go_ret2
          exact ⟨rfl, rfl⟩
    · have h20 : d < 2048 := hd
      rw [at3]
      clear hd
      go_enter Tryd.func63, Tryd.ntmps63
      go_wp2
      go_ret2
      exact ⟨rfl, rfl⟩
    · simp [cntF, h1, h2, h3] at hd
  · rw [(size_bad hg).1, (size_bad hg).2]
    rcases kind_cases k with (rfl | rfl | rfl) | ⟨h1, h2, h3⟩
    · have hn : ¬ (0 ≤ c ∧ c < 9) := hg
      clear hg
      by_cases h0 : 0 ≤ c
      · have hb : 9 ≤ c := by omega
        clear hn
        go_enter Tryd.func63, Tryd.ntmps63
        go_wp2
        go_ret2
        exact ⟨rfl, rfl⟩
      · have hb : c < 0 := by omega
        clear hn h0
        go_enter Tryd.func63, Tryd.ntmps63
        go_wp2
        go_ret2
        exact ⟨rfl, rfl⟩
    · have hn : ¬ (0 ≤ c ∧ c < 16) := hg
      clear hg
      by_cases h0 : 0 ≤ c
      · have hb : 16 ≤ c := by omega
        clear hn
        go_enter Tryd.func63, Tryd.ntmps63
        go_wp2
        go_ret2
        exact ⟨rfl, rfl⟩
      · have hb : c < 0 := by omega
        clear hn h0
        go_enter Tryd.func63, Tryd.ntmps63
        go_wp2
        go_ret2
        exact ⟨rfl, rfl⟩
    · have hn : ¬ (0 ≤ c ∧ c < 2048) := hg
      clear hg
      by_cases h0 : 0 ≤ c
      · have hb : 2048 ≤ c := by omega
        clear hn
        go_enter Tryd.func63, Tryd.ntmps63
        go_wp2
        go_ret2
        exact ⟨rfl, rfl⟩
      · have hb : c < 0 := by omega
        clear hn h0
        go_enter Tryd.func63, Tryd.ntmps63
        go_wp2
        go_ret2
        exact ⟨rfl, rfl⟩
    · have d1 : (k == 1) = false := by simpa using h1
      have d2 : (k == 2) = false := by simpa using h2
      have d3 : (k == 3) = false := by simpa using h3
      clear h1 h2 h3 hg
      go_enter Tryd.func63, Tryd.ntmps63
      go_wp2
      go_ret2
      exact ⟨rfl, rfl⟩

set_option maxHeartbeats 1600000 in
set_option maxRecDepth 100000 in
theorem refcode_any (k s : Int) (w : World) :
    Calls Tryd.prog 46 #[.int .i64 k, .int .i64 s] w fun e w' => e = .returned (.tuple #[.int .i64 (codeV k s : Nat), .int .i64 (codeE k s : Nat)]) ∧ Nb w w' := by
  have hR := Lib.hid (refsize_any k)
  go_enter Tryd.func46, Tryd.ntmps46
  go_wp2
  go_loopw [6] (fun i wr => ∃ c : Nat, c ≤ 2048 ∧ i = .int .i64 c ∧ (∀ j : Nat, j < c → ¬ (isC k j = true ∧ (sizeV k j : Int) = s)) ∧ Nb w wr) (fun i _ => 2048 - (intOf i).toNat)
  case atStart => exact ⟨0, by omega, rfl, fun j hj => by omega, Nb.rfl⟩
  case round =>
    obtain ⟨c, hc, rfl, hall, hnb⟩ := hrel
    have HA := Lib.hid hall
    clear hall
    by_cases hlt : c < 2048
    · cases hi : isC k c with
      | false =>
        have HI := Lib.hid hi
        have hr := hR.out c wr
        rw [show sizeE k c = 2 by simp [sizeE, hi], show sizeV k c = 0 by simp [sizeV, hi]] at hr
        have H1 := Lib.hid hr
        clear hr hi
        go_wp2_with fail
        refine H1.out.mono ?_
        rintro e w2 ⟨rfl, rfl⟩
        go_wp2
        go_roundw
        case rel => exact ⟨c + 1, by omega, by go_num, fun j hj h => by
          rcases Nat.lt_succ_iff_lt_or_eq.1 hj with h1 | rfl
          · exact HA.out j h1 h
          · rw [HI.out] at h; exact Bool.noConfusion h.1, hnb⟩
        case measure => simp [intOf]; omega
      | true =>
        have hr := hR.out c wr
        rw [show sizeE k c = 0 by simp [sizeE, hi]] at hr
        have HI := Lib.hid hi
        obtain ⟨y, hy⟩ : ∃ y, sizeV k c = y := ⟨_, rfl⟩
        rw [hy] at hr
        have HY := Lib.hid hy
        have H1 := Lib.hid hr
        clear hr hi hy
        by_cases hs : (y : Int) = s
        · have hs' : ((y : Int) == s) = true := by simpa using hs
          obtain ⟨e1, e2⟩ := code_hit k s c HI.out (by rw [HY.out]; exact hs)
          have E := Lib.hid (And.intro e1 e2)
          have HSs := Lib.hid hs
          clear e1 e2 hs
          go_wp2_with fail
          refine H1.out.mono ?_
          rintro e w2 ⟨rfl, rfl⟩
          go_wp2
          go_ret2
          rw [E.out.1, E.out.2]
          exact ⟨rfl, hnb⟩
        · have hs' : ((y : Int) == s) = false := by simpa using hs
          have HSs := Lib.hid hs
          clear hs
          go_wp2_with fail
          refine H1.out.mono ?_
          rintro e w2 ⟨rfl, rfl⟩
          go_wp2
          go_roundw
          case rel => exact ⟨c + 1, by omega, by go_num, fun j hj h => by
            rcases Nat.lt_succ_iff_lt_or_eq.1 hj with h1 | rfl
            · exact HA.out j h1 h
            · rw [HY.out] at h; exact absurd h.2 (by have := HSs.out; omega), hnb⟩
          case measure => simp [intOf]; omega
    · obtain rfl : c = 2048 := by omega
      obtain ⟨e1, e2⟩ := code_none k s HA.out
      have E := Lib.hid (And.intro e1 e2)
      clear e1 e2
      go_wp2
      go_ret2
      rw [E.out.1, E.out.2]
      exact ⟨rfl, hnb⟩

end Go.Proofs.YtaiplhlcldbnkaaDoor
