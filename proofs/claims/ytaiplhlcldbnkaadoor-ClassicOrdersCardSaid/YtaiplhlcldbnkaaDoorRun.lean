
/- Contracts of Run and of the document's Run. No conditions. -/
import Derived.Test.YtaiplhlcldbnkaaDoorVoc
namespace Go.Proofs.YtaiplhlcldbnkaaDoor
set_option linter.unusedVariables false
set_option linter.unusedSimpArgs false
open Go.RowKit

/-- k is how many at the end are alike. -/
def IsRun (l : List Nat) (k : Nat) : Prop :=
  k ≤ l.length ∧ (∀ j, j < k → l.getD (l.length - 1 - j) 0 = l.getD (l.length - 1) 0) ∧ (k < l.length → l.getD (l.length - 1 - k) 0 ≠ l.getD (l.length - 1) 0)

theorem IsRun.uniq {l : List Nat} {j k : Nat} (h : IsRun l j) (h' : IsRun l k) : j = k := by
  obtain ⟨a1, a2, a3⟩ := h
  obtain ⟨b1, b2, b3⟩ := h'
  rcases Nat.lt_trichotomy j k with h | h | h
  · exact absurd (b2 j h) (a3 (by omega))
  · exact h
  · exact absurd (a2 k h) (b3 (by omega))

set_option maxHeartbeats 800000 in
set_option maxRecDepth 100000 in
theorem run_any (a : Option Addr) (cap : Nat) (l : List Nat) (w : World) (h : Bs w a cap l) :
    Calls Tryd.prog 19 #[.slice a l.length cap] w fun e w' => (∃ k : Nat, e = .returned (.int .i64 k) ∧ IsRun l k) ∧ Nb w w' := by
  have hL := h.len
  go_enter Tryd.func19, Tryd.ntmps19
  go_wp2
  go_loopw [3] (fun i wr => ∃ k : Nat, k ≤ l.length ∧ (∀ j, j < k → l.getD (l.length - 1 - j) 0 = l.getD (l.length - 1) 0) ∧ i = .int .i64 k ∧ Nb w wr) (fun i _ => l.length - (intOf i).toNat)
  case atStart => exact ⟨0, Nat.zero_le _, by simp, rfl, Nb.rfl⟩
  case round =>
    obtain ⟨k, hk, hall, rfl, hnb⟩ := hrel
    by_cases hlt : k < l.length
    · obtain ⟨b, o, rfl, hc⟩ := (h.below hnb).hcells (by omega)
      have c1 : wr.cell? ⟨b, o + (l.length - 1 - k), none⟩ = some (.int .u8 (l.getD (l.length - 1 - k) 0 : Nat)) := hc _ (by omega)
      have c2 : wr.cell? ⟨b, o + (l.length - 1), none⟩ = some (.int .u8 (l.getD (l.length - 1) 0 : Nat)) := hc _ (by omega)
      go_wp2
      go_quiet (fail)
      go_wp2
      · have he : l.getD (l.length - 1 - k) 0 = l.getD (l.length - 1) 0 := nat_of_beq ‹_›
        go_roundw
        case rel => exact ⟨k + 1, by omega, fun j hj => by rcases Nat.lt_succ_iff_lt_or_eq.1 hj with h | rfl; exact hall _ h; exact he, by go_num, hnb.tr (Nb.drewN _ _)⟩
        case measure => simp [intOf]; omega
      · have he : ¬ l.getD (l.length - 1 - k) 0 = l.getD (l.length - 1) 0 := nat_of_bne ‹_›
        go_ret
        exact ⟨⟨k, rfl, hk, hall, fun _ => he⟩, hnb.tr (Nb.drewN _ _)⟩
    · go_wp2
      refine wp_region_quiet_lit (by kernel_rfl) (by kernel_rfl) ?_
      repeat (any_goals (first | go_big_quiet_step (fail) | quiet_step (fail) | (refine wpQuiet_step (fun K hK => ?_); go_simp; split <;> (refine hK _ ?_; clear hK K))))
      all_goals (refine wpQuiet_nil ?_; intro _ hw'; obtain ⟨nq, hw''⟩ := hw'; subst hw'')
      go_wp2
      go_ret
      exact ⟨⟨k, rfl, hk, hall, fun h => absurd h hlt⟩, hnb.tr (Nb.drewN _ _)⟩
end Go.Proofs.YtaiplhlcldbnkaaDoor
