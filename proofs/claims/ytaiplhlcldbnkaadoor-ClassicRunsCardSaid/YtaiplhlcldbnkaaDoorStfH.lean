
/- Contracts of package stuff's Get, Count and Take. No conditions. -/
import Derived.Test.YtaiplhlcldbnkaaDoorStfE
namespace Go.Proofs.YtaiplhlcldbnkaaDoor
set_option linter.unusedVariables false
set_option linter.unusedSimpArgs false
open Go.RowKit

/-! Take's answers. -/
def stB (l : List Nat) (n : Int) : Prop := n < 0 ∨ 65536 < n ∨ chk l = false
open Classical in
noncomputable def stE (l : List Nat) (n : Int) : Nat := if stB l n then 2 else if (readG n.toNat [] l).2 then 4 else if (tell (readG n.toNat [] l).1).length < n.toNat then 3 else 0
open Classical in
noncomputable def stL (l : List Nat) (n : Int) : List Nat := if stE l n = 0 then tell (readG n.toNat [] l).1 else []
open Classical in
noncomputable def stK (l : List Nat) (n : Int) : Nat := if stE l n = 0 then (readG n.toNat [] l).1.length else 0

/-- An answer of a new slice of bytes, a number and an error. -/
def AnsF3 (w : World) (l : List Nat) (k er : Nat) (e : Ending) (w' : World) : Prop := ∃ a c, e = .returned (.tuple #[.slice a l.length c, .int .i64 k, .int .i64 er]) ∧ Fresh w w' (.slice a l.length c) l

set_option maxHeartbeats 1600000 in
set_option maxRecDepth 100000 in
theorem stake_arg (a : Option Addr) (cap : Nat) (l : List Nat) (n : Int) (w : World) (hn : n < 0 ∨ 65536 < n) :
    Calls Tryd.prog 23 #[.slice a l.length cap, .int .i64 n] w fun e w' => AnsF3 w [] 0 2 e w' ∧ Nb w w' := by
  by_cases h0 : n < 0
  · go_enter Tryd.func23, Tryd.ntmps23
    go_wp2
    go_ret3
    exact ⟨⟨_, _, rfl, Fresh.nil _ _⟩, Nb.rfl⟩
  · have h1 : 65536 < n := by omega
    clear hn
    go_enter Tryd.func23, Tryd.ntmps23
    go_wp2
    go_ret3
    exact ⟨⟨_, _, rfl, Fresh.nil _ _⟩, Nb.rfl⟩

set_option maxHeartbeats 1600000 in
set_option maxRecDepth 100000 in
theorem stake_err (a : Option Addr) (cap : Nat) (l : List Nat) (n er : Nat) (w : World) (h : Bs w a cap l) (hn : n ≤ 65536) (he : (chk l = false ∧ er = 2) ∨ (chk l = true ∧ (readG n [] l).2 = true ∧ er = 4)) :
    Calls Tryd.prog 23 #[.slice a l.length cap, .int .i64 n] w fun e w' => AnsF3 w [] 0 er e w' ∧ Nb w w' := by
  have hd : ((er : Int) != 0) = true := by rcases he with ⟨_, rfl⟩ | ⟨_, _, rfl⟩ <;> decide
  have hrd : Calls Tryd.prog 41 #[.slice a l.length cap, .int .i64 n] w fun e w' => e = .returned (.tuple #[rdZ, .int .i64 0, .int .i64 er]) ∧ Nb w w' := by
    rcases he with ⟨hc, rfl⟩ | ⟨hc, ho, rfl⟩
    · exact read_bad a cap l n w h hc
    · exact read_wrong a cap l n w h hc hn ho
  have HR := Lib.hid hrd
  have d1 : decide ((n : Int) < 0) = false := by simp
  have d2 : decide (65536 < (n : Int)) = false := by simp; omega
  clear h he hrd
  go_enter Tryd.func23, Tryd.ntmps23
  go_wp2_with fail
  refine HR.out.mono ?_
  rintro e w2 ⟨rfl, hnb⟩
  unfold rdZ
  go_wp2
  go_ret3
  exact ⟨⟨_, _, rfl, Fresh.nil _ _⟩, hnb.al _⟩

set_option maxHeartbeats 1600000 in
set_option maxRecDepth 100000 in
theorem stake_short (a : Option Addr) (cap : Nat) (l : List Nat) (n : Nat) (w : World) (h : Bs w a cap l) (hn : n ≤ 65536) (hc : chk l = true) (pre : List Nat) (hG : readG n [] l = (pre, false)) (hs : (tell pre).length < n) :
    Calls Tryd.prog 23 #[.slice a l.length cap, .int .i64 n] w fun e w' => AnsF3 w [] 0 3 e w' ∧ Nb w w' := by
  have hrd := read_good a cap l n w h hc hn pre hG
  have HR := Lib.hid hrd
  have d1 : decide ((n : Int) < 0) = false := by simp
  have d2 : decide (65536 < (n : Int)) = false := by simp; omega
  clear h hc hrd hG
  go_enter Tryd.func23, Tryd.ntmps23
  go_wp2_with fail
  refine HR.out.mono ?_
  rintro e w2 ⟨⟨a', c', rfl, hfr⟩, hnb⟩
  unfold rdV
  clear hfr
  go_wp2
  go_ret3
  exact ⟨⟨_, _, rfl, Fresh.nil _ _⟩, hnb.al _⟩

set_option maxHeartbeats 1600000 in
set_option maxRecDepth 100000 in
theorem stake_ok (a : Option Addr) (cap : Nat) (l : List Nat) (n : Nat) (w : World) (h : Bs w a cap l) (hn : n ≤ 65536) (hc : chk l = true) (pre : List Nat) (hG : readG n [] l = (pre, false)) (hs : ¬ (tell pre).length < n) :
    Calls Tryd.prog 23 #[.slice a l.length cap, .int .i64 n] w fun e w' => AnsF3 w (tell pre) pre.length 0 e w' ∧ Nb w w' := by
  have hrd := read_good a cap l n w h hc hn pre hG
  have HR := Lib.hid hrd
  have d1 : decide ((n : Int) < 0) = false := by simp
  have d2 : decide (65536 < (n : Int)) = false := by simp; omega
  clear h hc hrd hG
  go_enter Tryd.func23, Tryd.ntmps23
  go_wp2_with fail
  refine HR.out.mono ?_
  rintro e w2 ⟨⟨a', c', rfl, hfr⟩, hnb⟩
  unfold rdV
  have HFr := Lib.hid hfr
  clear hfr
  go_wp2
  go_ret3
  exact ⟨⟨_, _, rfl, HFr.out.keep (Nb.rfl.al _)⟩, hnb.al _⟩

theorem stake_u (a : Option Addr) (cap : Nat) (l : List Nat) (n : Int) (w : World) (h : Bs w a cap l) :
    Calls Tryd.prog 23 #[.slice a l.length cap, .int .i64 n] w fun e w' => AnsF3 w (stL l n) (stK l n) (stE l n) e w' ∧ Nb w w' := by
  by_cases hb : stB l n
  · have e1 : stE l n = 2 := by simp [stE, hb]
    have e2 : stL l n = [] := by simp [stL, e1]
    have e3 : stK l n = 0 := by simp [stK, e1]
    rw [e1, e2, e3]
    by_cases hn : n < 0 ∨ 65536 < n
    · exact stake_arg a cap l n w hn
    · have hc : chk l = false := by
        rcases hb with hb | hb | hb
        · exact absurd (.inl hb) hn
        · exact absurd (.inr hb) hn
        · exact hb
      obtain ⟨m, rfl⟩ := Int.eq_ofNat_of_zero_le (by omega : 0 ≤ n)
      exact stake_err a cap l m 2 w h (by omega) (.inl ⟨hc, rfl⟩)
  · have hc : chk l = true := by
      cases hc : chk l with
      | true => rfl
      | false => exact absurd (.inr (.inr hc)) hb
    have hn0 : ¬ n < 0 := fun h => hb (.inl h)
    have hn1 : ¬ 65536 < n := fun h => hb (.inr (.inl h))
    obtain ⟨m, rfl⟩ := Int.eq_ofNat_of_zero_le (by omega : 0 ≤ n)
    obtain ⟨pre, bad, hG⟩ : ∃ pre bad, readG m [] l = (pre, bad) := ⟨_, _, rfl⟩
    cases bad with
    | true =>
      have e1 : stE l m = 4 := by simp [stE, hb, hG]
      have e2 : stL l m = [] := by simp [stL, e1]
      have e3 : stK l m = 0 := by simp [stK, e1]
      rw [e1, e2, e3]
      exact stake_err a cap l m 4 w h (by omega) (.inr ⟨hc, by rw [hG], rfl⟩)
    | false =>
      by_cases hs : (tell pre).length < m
      · have e1 : stE l m = 3 := by simp [stE, hb, hG, hs]
        have e2 : stL l m = [] := by simp [stL, e1]
        have e3 : stK l m = 0 := by simp [stK, e1]
        rw [e1, e2, e3]
        exact stake_short a cap l m w h (by omega) hc pre hG hs
      · have e1 : stE l m = 0 := by simp [stE, hb, hG]; omega
        have e2 : stL l m = tell pre := by simp [stL, e1, hG]
        have e3 : stK l m = pre.length := by simp [stK, e1, hG]
        rw [e1, e2, e3]
        exact stake_ok a cap l m w h (by omega) hc pre hG hs
end Go.Proofs.YtaiplhlcldbnkaaDoor
