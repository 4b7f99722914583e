
/- What the law ScanTurns asks of lists: a frame of any kind with one bit turned. No program here. No conditions but the fields' own widths. -/
import Derived.Test.YtkboncpfddnoaaaGreatDoorScV
namespace Go.Proofs.YtkboncpfddnoaaaGreatDoor
set_option linter.unusedVariables false
set_option linter.unusedSimpArgs false
open Go.RowKit

def fromF (f : Hd) (l : List Nat) : Nat := if f.K = 2 then (putL (bdC f l)).length else if f.K = 3 then arbF f l else (rawF f l).length
theorem fromF_le {f : Hd} {l : List Nat} (h : okF f l = true) : fromF f l ≤ (rawF f l).length := by
  unfold fromF rawF
  by_cases h2 : f.K = 2
  · rw [if_pos h2, if_pos h2, rwD, List.length_append]; omega
  by_cases h3 : f.K = 3
  · have ho : okX f l = true := by simp [okX, h3, h]
    obtain ⟨P, hP, _, _, _, _, _, _, _, h9, _⟩ := wx_ends ho
    simp only [if_neg h2, if_pos h3, arbF]
    omega
  rw [if_neg h2, if_neg h3]
  exact Nat.le_refl _
theorem turn_any {f : Hd} {l : List Nat} (h : okF f l = true) (hW : WdX f) (hb : ∀ x ∈ l, x < 256) {k v : Nat} (hk : fromF f l ≤ k) (hk2 : k < (rawF f l).length + 9) (hv : v ≤ 1) (hne : v ≠ (wF f l).getD k 0) :
    chk ((wF f l).set k v) = true ∧ (k = ackF f l → staOf (scS true ((wF f l).set k v)) = doneS f l) ∧ (k ≠ ackF f l → (staOf (scS true ((wF f l).set k v))).k ≠ 2) := by
  obtain ⟨e1, e2, e3, e4, e5, e6, e7, hc⟩ := wF_of h hW hb
  have hch : chk ((wF f l).set k v) = true := by
    have h1 := chk_len hc
    have h2 := chk_bit hc
    refine chk_of (fun x hx => ?_) (by rw [List.length_set]; omega)
    rcases List.mem_or_eq_of_mem_set hx with hx | rfl
    · exact h2 x hx
    · exact hv
  refine ⟨hch, ?_⟩
  rw [e2]
  rw [e1] at hne ⊢
  by_cases hkr : k < (rawF f l).length
  · refine ⟨fun he => absurd he (by omega), fun _ => ?_⟩
    rw [List.getD, List.getElem?_append_left hkr, ← List.getD] at hne
    rw [List.set_append_left _ _ hkr]
    unfold fromF at hk
    by_cases h2 : f.K = 2
    · have ho : okD f l = true := by simp [okD, h2, h]
      have er : rawF f l = rwD f l := by rw [rawF, if_pos h2]
      rw [if_pos h2] at hk
      rw [er, rwD] at hkr hne ⊢
      rw [List.length_append] at hkr
      obtain ⟨j, rfl⟩ : ∃ j, k = (putL (bdC f l)).length + j := ⟨k - (putL (bdC f l)).length, by omega⟩
      rw [List.getD, List.getElem?_append_right (by omega), Nat.add_sub_cancel_left, ← List.getD] at hne
      rw [List.set_append_right _ _ (by omega), Nat.add_sub_cancel_left]
      exact lost_k (turn_fd ho hW.1 hb (by omega) hv hne _)
    by_cases h3 : f.K = 3
    · have ho : okX f l = true := by simp [okX, h3, h]
      have er : rawF f l = rwX f l := by rw [rawF, if_neg h2, if_pos h3]
      rw [if_neg h2, if_pos h3, arbF, if_neg h2, if_pos h3] at hk
      rw [er] at hkr hne ⊢
      exact turn_xl ho hW hb hk hkr hv hne _
    rw [if_neg h2, if_neg h3] at hk
    omega
  · obtain ⟨j, rfl⟩ : ∃ j, k = (rawF f l).length + j := ⟨k - (rawF f l).length, by omega⟩
    rw [List.getD, List.getElem?_append_right (by omega), Nat.add_sub_cancel_left, ← List.getD] at hne
    have hv0 : v = 0 := by
      have h1 : (ones 10).getD j 0 = 1 := by
        rw [ones, List.getD, List.getElem?_replicate, if_pos (by omega)]
        rfl
      omega
    subst hv0
    obtain ⟨t1, t2⟩ := turn_tail e6 (j := j) (by omega)
    exact ⟨fun he => by
      obtain rfl : j = 1 := by omega
      rw [t2]; rfl, fun he => lost_k (t1 (by omega))⟩
end Go.Proofs.YtkboncpfddnoaaaGreatDoor
