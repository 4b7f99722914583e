
/- Contracts of the document's Full, Stuffed and Put. No conditions. -/
import Derived.Test.YtboobohcnlggnaaStfM
namespace Go.Proofs.Ytboobohcnlggnaa
open Go.RowKit

set_option maxHeartbeats 1600000 in
set_option maxRecDepth 100000 in
theorem full_short (a : Option Addr) (cap : Nat) (l : List Nat) (w : World) (h : l.length < 5) :
    Calls Try.prog 29 #[.slice a l.length cap] w fun e w' => e = .returned (.bool false) ∧ Nb w w' := by
  have d0 : decide (5 ≤ (l.length : Int)) = false := by simp; omega
  go_enter Try.func29, Try.ntmps29
  go_wp2
  go_quiet (fail)
  go_wp2
  go_ret
  exact ⟨rfl, Nb.drewN _ _⟩

set_option maxHeartbeats 1600000 in
set_option maxRecDepth 100000 in
theorem full_long (b o cap n x1 x2 x3 x4 x5 : Nat) (w : World) (hn : n ≤ 9223372036854775807) (h5 : 5 ≤ n)
    (c1 : w.cell? ⟨b, o + (n - 1), none⟩ = some (.int .u8 (x1 : Int))) (c2 : w.cell? ⟨b, o + (n - 2), none⟩ = some (.int .u8 (x2 : Int))) (c3 : w.cell? ⟨b, o + (n - 3), none⟩ = some (.int .u8 (x3 : Int))) (c4 : w.cell? ⟨b, o + (n - 4), none⟩ = some (.int .u8 (x4 : Int))) (c5 : w.cell? ⟨b, o + (n - 5), none⟩ = some (.int .u8 (x5 : Int))) :
    Calls Try.prog 29 #[.slice (some ⟨b, o, none⟩) n cap] w fun e w' => e = .returned (.bool (decide (x1 = x2 ∧ x1 = x3 ∧ x1 = x4 ∧ x1 = x5))) ∧ Nb w w' := by
  have d0 : decide (5 ≤ (n : Int)) = true := by simp; omega
  by_cases e2 : x1 = x2
  · subst e2
    have d2 : ((x1 : Int) == (x1 : Int)) = true := by simp
    by_cases e3 : x1 = x3
    · subst e3
      by_cases e4 : x1 = x4
      · subst e4
        by_cases e5 : x1 = x5
        · subst e5
          go_enter Try.func29, Try.ntmps29
          go_wp2
          go_quiet (fail)
          go_wp2
          go_ret
          exact ⟨congrArg (fun x => Ending.returned (Value.bool x)) (by simp), Nb.drewN _ _⟩
        · have d5 : ((x1 : Int) == (x5 : Int)) = false := by rw [beq_eq_false_iff_ne]; omega
          go_enter Try.func29, Try.ntmps29
          go_wp2
          go_quiet (fail)
          go_wp2
          go_ret
          exact ⟨congrArg (fun x => Ending.returned (Value.bool x)) (by simp; omega), Nb.drewN _ _⟩
      · have d4 : ((x1 : Int) == (x4 : Int)) = false := by rw [beq_eq_false_iff_ne]; omega
        go_enter Try.func29, Try.ntmps29
        go_wp2
        go_quiet (fail)
        go_wp2
        go_ret
        exact ⟨congrArg (fun x => Ending.returned (Value.bool x)) (by simp; omega), Nb.drewN _ _⟩
    · have d3 : ((x1 : Int) == (x3 : Int)) = false := by rw [beq_eq_false_iff_ne]; omega
      go_enter Try.func29, Try.ntmps29
      go_wp2
      go_quiet (fail)
      go_wp2
      go_ret
      exact ⟨congrArg (fun x => Ending.returned (Value.bool x)) (by simp; omega), Nb.drewN _ _⟩
  · have d2 : ((x1 : Int) == (x2 : Int)) = false := by rw [beq_eq_false_iff_ne]; omega
    go_enter Try.func29, Try.ntmps29
    go_wp2
    go_quiet (fail)
    go_wp2
    go_ret
    exact ⟨congrArg (fun x => Ending.returned (Value.bool x)) (by simp; omega), Nb.drewN _ _⟩

theorem full_any (a : Option Addr) (cap : Nat) (l : List Nat) (w : World) (h : Bs w a cap l) :
    Calls Try.prog 29 #[.slice a l.length cap] w fun e w' => e = .returned (.bool (full l)) ∧ Nb w w' := by
  by_cases h5 : 5 ≤ l.length
  · obtain ⟨b, o, rfl, hc⟩ := h.hcells (by omega)
    refine (full_long b o cap l.length _ _ _ _ _ w h.len h5 (hc _ (by omega)) (hc _ (by omega)) (hc _ (by omega)) (hc _ (by omega)) (hc _ (by omega))).mono ?_
    rintro e w' ⟨rfl, hnb⟩
    refine ⟨congrArg (fun x => Ending.returned (Value.bool x)) ?_, hnb⟩
    rw [Bool.eq_iff_iff, full_iff, decide_eq_true_eq]
    have s2 : l.length - 1 - 1 = l.length - 2 := by omega
    have s3 : l.length - 1 - 2 = l.length - 3 := by omega
    have s4 : l.length - 1 - 3 = l.length - 4 := by omega
    have s5 : l.length - 1 - 4 = l.length - 5 := by omega
    constructor
    · rintro ⟨h2, h3, h4, h6⟩
      refine ⟨h5, fun j hj => ?_⟩
      rcases (by omega : j = 0 ∨ j = 1 ∨ j = 2 ∨ j = 3 ∨ j = 4) with rfl | rfl | rfl | rfl | rfl
      · rfl
      · rw [s2, h2]
      · rw [s3, h3]
      · rw [s4, h4]
      · rw [s5, h6]
    · rintro ⟨_, hj⟩
      exact ⟨by rw [← hj 1 (by omega), s2], by rw [← hj 2 (by omega), s3], by rw [← hj 3 (by omega), s4], by rw [← hj 4 (by omega), s5]⟩
  · have hf : full l = false := by
      cases hf : full l with
      | false => rfl
      | true => exact absurd ((full_iff l).1 hf).1 h5
    rw [hf]
    exact full_short a cap l w (by omega)
end Go.Proofs.Ytboobohcnlggnaa
