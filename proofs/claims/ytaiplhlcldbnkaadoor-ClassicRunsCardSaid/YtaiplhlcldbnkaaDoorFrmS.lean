
/- Contracts of package frame's sizes: the places' methods, at, sort.Search, fit, sizesOf. Condition: the table of longer sizes holds what the program's text lays there. -/
import Derived.Test.YtaiplhlcldbnkaaDoorFrmP
import Derived.Deep.RegionHeld3
namespace Go.Proofs.YtaiplhlcldbnkaaDoor
set_option linter.unusedVariables false
set_option linter.unusedSimpArgs false
open Go.RowKit

/-- The table of the longer sizes. -/
def Longer (w : World) : Prop := ∀ c : Nat, c < 7 → w.cell? ⟨0, c, none⟩ = some (.int .i64 (longF c : Nat))
theorem Longer.below {w w' : World} (h : Longer w) (hb : Nb w w') : Longer w' := fun c hc => by
  have := h c hc
  rw [hb.cell (p := ⟨0, c, none⟩) (World.block_lt_of_cell? _ _ this)]
  exact this
theorem Longer.pos {w : World} (h : Longer w) : 0 < w.heap.size := by
  have := World.block_lt_of_cell? _ _ (h 0 (by decide))
  exact Nat.lt_of_le_of_lt (Nat.zero_le _) this

/-- How a kind's sizes are asked. -/
def ofV (k : Int) : Value := if k = 1 then .func (.func 65) #[] #[] else if k = 2 then .func (.func 66) #[] #[] else if k = 3 then .func (.func 67) #[] #[] else .nilFunc

set_option maxHeartbeats 800000 in
set_option maxRecDepth 100000 in
theorem classic_any (c : Nat) (w : World) :
    Calls Tryd.prog 65 #[.int .i64 c] w fun e w' => e = .returned (.int .i64 c) ∧ w = w' := by
  go_enter Tryd.func65, Tryd.ntmps65
  go_wp2
  go_ret
  exact ⟨rfl, rfl⟩
set_option maxHeartbeats 800000 in
set_option maxRecDepth 100000 in
theorem xl_any (c : Nat) (w : World) (hc : c < 2048) :
    Calls Tryd.prog 67 #[.int .i64 c] w fun e w' => e = .returned (.int .i64 (c + 1 : Nat)) ∧ w = w' := by
  go_enter Tryd.func67, Tryd.ntmps67
  go_wp2
  go_ret
  exact ⟨rfl, rfl⟩
set_option maxHeartbeats 800000 in
set_option maxRecDepth 100000 in
theorem fd_any (c : Nat) (w : World) (hc : c < 16) (hl : Longer w) :
    Calls Tryd.prog 66 #[.int .i64 c] w fun e w' => e = .returned (.int .i64 (atF 2 c : Nat)) ∧ w = w' := by
  have hp := hl.pos
  by_cases h9 : c < 9
  · have e : atF 2 c = c := by simp [atF, h9]
    rw [e]
    clear e hl
    go_enter Tryd.func66, Tryd.ntmps66
    go_wp2
    go_ret
    exact ⟨rfl, rfl⟩
  · obtain ⟨d, rfl⟩ : ∃ d, c = 9 + d := ⟨c - 9, by omega⟩
    have e : atF 2 (9 + d) = longF d := by
      unfold atF
      rw [if_neg (by decide), if_neg h9, Nat.add_sub_cancel_left]
    rw [e]
    have hd : d < 7 := by omega
    have c0 := hl d hd
    generalize longF d = x at c0 ⊢
    have hw : IntKind.i64.wrap (((9 + d : Nat) : Int) - 9) = (d : Int) := by rw [IntWalk.i64_in _ (by omega)]; omega
    clear e hl h9
    go_enter Tryd.func66, Tryd.ntmps66
    go_wp2
    go_ret
    exact ⟨rfl, rfl⟩

set_option maxHeartbeats 800000 in
set_option maxRecDepth 100000 in
theorem at_any (k : Int) (c : Nat) (w : World) (hc : c < cntF k) (hl : Longer w) :
    Calls Tryd.prog 51 #[.agg #[.int .i64 (cntF k : Nat), ofV k], .int .i64 c] w fun e w' => e = .returned (.int .i64 (atF k c : Nat)) ∧ Nb w w' := by
  have HL := Lib.hid hl
  clear hl
  rcases kind_cases k with (rfl | rfl | rfl) | ⟨h1, h2, h3⟩
  · have hc9 : c < 9 := hc
    have ev : ofV 1 = .func (.func 65) #[] #[] := by rfl
    rw [at1 c hc9, ev]
    clear hc ev
    go_enter Tryd.func51, Tryd.ntmps51
    go_wp2_with fail
    refine (classic_any c _).mono ?_
    rintro e w1 ⟨rfl, rfl⟩
    go_wp2
    go_ret
    exact ⟨rfl, Nb.rfl.al _⟩
  · have hc16 : c < 16 := hc
    have ev : ofV 2 = .func (.func 66) #[] #[] := by rfl
    rw [ev]
    clear hc ev
    go_enter Tryd.func51, Tryd.ntmps51
    go_wp2_with fail
    refine (fd_any c _ hc16 (HL.out.below (Nb.rfl.al _))).mono ?_
    rintro e w1 ⟨rfl, rfl⟩
    go_wp2
    go_ret
    exact ⟨rfl, Nb.rfl.al _⟩
  · have hc2 : c < 2048 := hc
    have ev : ofV 3 = .func (.func 67) #[] #[] := by rfl
    rw [at3, ev]
    clear hc ev
    go_enter Tryd.func51, Tryd.ntmps51
    go_wp2_with fail
    refine (xl_any c _ hc2).mono ?_
    rintro e w1 ⟨rfl, rfl⟩
    go_wp2
    go_ret
    exact ⟨rfl, Nb.rfl.al _⟩
  · simp [cntF, h1, h2, h3] at hc

set_option maxHeartbeats 1600000 in
set_option maxRecDepth 100000 in
/-- sort.Search: the least place at which the function says yes. -/
theorem search_any (F : Nat) (p2 p3 : Value) (n T : Nat) (w : World) (hn : n ≤ 4611686018427387903) (hT : T ≤ n)
    (hcf : ∀ args w, (callFunc F args).run Tryd.prog w = .ok (.enter F args) w)
    (hstep : ∀ (c : Nat) w', c < n → Nb w w' → Calls Tryd.prog F #[.int .i64 c, p2, p3] w' fun e w'' => e = .returned (.bool (decide (T ≤ c))) ∧ Nb w' w'') :
    Calls Tryd.prog 68 #[.int .i64 n, .func (.func F) #[] #[p2, p3]] w fun e w' => e = .returned (.int .i64 T) ∧ Nb w w' := by
  have HS := Lib.hid hstep
  clear hstep
  go_enter Tryd.func68, Tryd.ntmps68
  go_wp2
  go_loopw [5, 6] (fun v i wr => ∃ lo hi : Nat, v = .int .i64 lo ∧ i = .int .i64 hi ∧ lo ≤ T ∧ T ≤ hi ∧ hi ≤ n ∧ Nb w wr) (fun v i _ => (intOf i).toNat - (intOf v).toNat)
  case atStart => exact ⟨0, n, rfl, rfl, Nat.zero_le _, hT, Nat.le_refl _, Nb.rfl⟩
  case round =>
    obtain ⟨lo, hi, rfl, rfl, h1, h2, h3, hnb⟩ := hrel
    by_cases hlt : lo < hi
    · obtain ⟨m, hm⟩ : ∃ m, m = (lo + hi) / 2 := ⟨_, rfl⟩
      have hm1 : lo ≤ m := by omega
      have hm2 : m < hi := by omega
      have hmi : ((lo : Int) + (hi : Int)) / 2 = (m : Int) := by omega
      by_cases hd : T ≤ m
      · have hs := HS.out m wr (by omega) hnb
        rw [decide_eq_true hd] at hs
        have H2 := Lib.hid hs
        clear hs hm
        go_wp2_with fail
        refine H2.out.mono ?_
        rintro e w2 ⟨rfl, n2⟩
        go_wp2
        go_roundw
        case rel => exact ⟨lo, m, rfl, rfl, h1, hd, by omega, hnb.tr n2⟩
        case measure => simp [intOf]; omega
      · have hs := HS.out m wr (by omega) hnb
        rw [decide_eq_false hd] at hs
        have H2 := Lib.hid hs
        clear hs hm
        go_wp2_with fail
        refine H2.out.mono ?_
        rintro e w2 ⟨rfl, n2⟩
        go_wp2
        go_roundw
        case rel => exact ⟨m + 1, hi, by go_num, rfl, by omega, h2, h3, hnb.tr n2⟩
        case measure => simp [intOf]; omega
    · obtain rfl : hi = lo := by omega
      obtain rfl : T = hi := by omega
      go_wp2
      go_ret
      exact ⟨rfl, hnb⟩
end Go.Proofs.YtaiplhlcldbnkaaDoor
