
/- Places put in order one by one, each behind all whose key is no higher. No program here. No conditions. -/
import Derived.Test.YtfcmoamooafomaaDoorHpP
namespace Go.Proofs.YtfcmoamooafomaaDoor
set_option linter.unusedVariables false
set_option linter.unusedSimpArgs false
open Go.RowKit

/-- While one goes up from the end: o are the places so far, it is at 'at', y stands there. -/
def mid (o : List Nat) (at' y : Nat) : List Nat := o.take at' ++ y :: o.drop at'
theorem mid_len (o : List Nat) {k : Nat} (y : Nat) (h : k ≤ o.length) : (mid o k y).length = o.length + 1 := by
  simp only [mid, List.length_append, List.length_take, List.length_cons, List.length_drop]; omega
theorem mid_start (o : List Nat) (y : Nat) : mid o o.length y = o ++ [y] := by simp [mid]
theorem mid_get (o : List Nat) {k : Nat} (y : Nat) (h : k < o.length) : (mid o (k + 1) y).getD k 0 = o.getD k 0 := by
  unfold mid
  rw [List.getD, List.getElem?_append_left (by rw [List.length_take]; omega), List.getElem?_take_of_lt (by omega), ← List.getD]
theorem mid_step (o : List Nat) {k : Nat} (y : Nat) (h : k < o.length) : (mid o (k + 1) y).set (k + 1) (o.getD k 0) = mid o k (o.getD k 0) := by
  have e : o.take (k + 1) = o.take k ++ [o.getD k 0] := by
    rw [List.take_add_one]
    simp [List.getD, h]
  have e2 : o.drop k = o.getD k 0 :: o.drop (k + 1) := by
    rw [List.drop_eq_getElem_cons h]
    simp [List.getD, h]
  unfold mid
  rw [List.set_append_right _ _ (by rw [List.length_take]; omega)]
  have : k + 1 - (o.take (k + 1)).length = 0 := by rw [List.length_take]; omega
  rw [this, List.set_cons_zero, e, e2]
  simp
theorem mid_end (o : List Nat) {k : Nat} (y z : Nat) (h : k ≤ o.length) : (mid o k y).set k z = mid o k z := by
  unfold mid
  rw [List.set_append_right _ _ (by rw [List.length_take]; omega)]
  have : k - (o.take k).length = 0 := by rw [List.length_take]; omega
  rw [this, List.set_cons_zero]
theorem mid_perm (o : List Nat) (k z : Nat) : (mid o k z).Perm (o ++ [z]) := by
  have h : (mid o k z).Perm (z :: (o.take k ++ o.drop k)) := List.perm_middle
  rw [List.take_append_drop] at h
  exact h.trans (List.perm_append_comm (l₁ := [z]) (l₂ := o))

/-- Behind the last one that is no higher. -/
theorem rk_snoc (ks : List Nat) (k n : Nat) (hn : n ≤ (rk ks).length) (hi : ∀ x ∈ (rk ks).drop n, k < ks.getD x 0) (hlo : 0 < n → ks.getD ((rk ks).getD (n - 1) 0) 0 ≤ k) : rk (ks ++ [k]) = mid (rk ks) n ks.length := by
  have hlt := rk_lt ks
  have hs := rk_sorted ks
  have hp := rk_perm ks
  have hg : ∀ x, x < ks.length → (ks ++ [k]).getD x 0 = ks.getD x 0 := fun x hx => by simp [List.getD, List.getElem?_append_left hx]
  have hk : (ks ++ [k]).getD ks.length 0 = k := by simp [List.getD]
  have hlow : ∀ x ∈ (rk ks).take n, ks.getD x 0 ≤ k := by
    intro x hx
    have h0 : 0 < n := by
      rcases Nat.eq_zero_or_pos n with h | h
      · subst h; simp at hx
      · exact h
    obtain ⟨j, hj, rfl⟩ := List.getElem_of_mem hx
    rw [List.length_take] at hj
    rw [List.getElem_take]
    have hl := hlo h0
    have e : (rk ks).getD (n - 1) 0 = (rk ks)[n - 1] := by simp [List.getD, show n - 1 < (rk ks).length by omega]
    rw [e] at hl
    rcases Nat.lt_or_ge j (n - 1) with h | h
    · have := List.pairwise_iff_getElem.1 hs j (n - 1) (by omega) (by omega) h
      unfold leP at this
      simp only at this
      omega
    · have : j = n - 1 := by omega
      subst this
      exact hl
  have hmem : ∀ x ∈ mid (rk ks) n ks.length, x < ks.length + 1 := fun x hx => by
    have := (mid_perm (rk ks) n ks.length).mem_iff.1 hx
    rcases List.mem_append.1 this with h | h
    · have := hlt x h; omega
    · simp at h; omega
  have key : (mid (rk ks) n ks.length).map (fun i => ((ks ++ [k]).getD i 0, i)) = rkP (ks ++ [k]) := by
    apply rkP_of
    · have h1 : (mid (rk ks) n ks.length).Perm (List.range (ks.length + 1)) := by
        rw [List.range_succ]
        exact (mid_perm _ _ _).trans (hp.append_right _)
      have h2 : prs (ks ++ [k]) = (List.range (ks.length + 1)).map (fun i => ((ks ++ [k]).getD i 0, i)) := by
        apply List.ext_getElem?
        intro j
        simp only [prs, List.getElem?_zipIdx, List.getElem?_map, List.getElem?_range', List.getD]
        by_cases hj : j < ks.length + 1
        · have : j < (ks ++ [k]).length := by simpa using hj
          simp [hj, this, List.getElem?_range]
        · have : (ks ++ [k]).length ≤ j := by simpa using hj
          simp [this, hj]
      rw [h2]
      exact h1.map _
    · rw [List.pairwise_map]
      unfold mid
      rw [List.pairwise_append]
      have hsub : ∀ x ∈ rk ks, ∀ y ∈ rk ks, leP (ks.getD x 0, x) (ks.getD y 0, y) → leP ((ks ++ [k]).getD x 0, x) ((ks ++ [k]).getD y 0, y) := fun x hx y hy h => by
        rw [hg x (hlt x hx), hg y (hlt y hy)]; exact h
      have hs1 := hs
      rw [← List.take_append_drop n (rk ks), List.pairwise_append] at hs1
      obtain ⟨p1, p2, p3⟩ := hs1
      refine ⟨p1.imp_of_mem (fun {x y} hx hy h => hsub x (List.mem_of_mem_take hx) y (List.mem_of_mem_take hy) h), ?_, ?_⟩
      · rw [List.pairwise_cons]
        refine ⟨fun y hy => ?_, p2.imp_of_mem (fun {x y} hx hy h => hsub x (List.mem_of_mem_drop hx) y (List.mem_of_mem_drop hy) h)⟩
        rw [hk, hg y (hlt y (List.mem_of_mem_drop hy))]
        have := hi y hy
        unfold leP
        simp only
        omega
      · intro x hx y hy
        rcases List.mem_cons.1 hy with rfl | hy
        · rw [hk, hg x (hlt x (List.mem_of_mem_take hx))]
          have h1 := hlow x hx
          have h2 := hlt x (List.mem_of_mem_take hx)
          unfold leP
          simp only
          omega
        · exact hsub x (List.mem_of_mem_take hx) y (List.mem_of_mem_drop hy) (p3 x hx y hy)
  have := congrArg (List.map (·.2)) key
  rw [List.map_map] at this
  rw [rk, ← this]
  conv => rhs; rw [← List.map_id (mid (rk ks) n ks.length)]
  rfl

/-- What a heap gives away one by one. -/
theorem rk_head {ks : List Nat} {done : List (Nat × Nat)} {rest : List (Nat × Nat)} (hp : (done ++ rest).Perm (prs ks)) (hs : done.Pairwise leP) (hd : ∀ p ∈ done, ∀ q ∈ rest, leP p q) (h0 : rest = []) : done = rkP ks := by
  subst h0
  rw [List.append_nil] at hp
  exact rkP_of hp hs
theorem take_next {ks : List Nat} {done rest rest' : List (Nat × Nat)} {p : Nat × Nat} (hp : (done ++ rest).Perm (prs ks)) (hs : done.Pairwise leP) (hd : ∀ p ∈ done, ∀ q ∈ rest, leP p q) (hr : rest.Perm (p :: rest')) (hm : ∀ q ∈ rest, leP p q) :
    ((done ++ [p]) ++ rest').Perm (prs ks) ∧ (done ++ [p]).Pairwise leP ∧ (∀ x ∈ done ++ [p], ∀ q ∈ rest', leP x q) := by
  refine ⟨?_, ?_, ?_⟩
  · rw [List.append_assoc]
    exact (hr.symm.append_left done).trans hp
  · rw [List.pairwise_append]
    refine ⟨hs, by simp, fun x hx y hy => ?_⟩
    simp at hy
    subst hy
    exact hd x hx y (hr.mem_iff.2 (by simp))
  · intro x hx q hq
    have hq' : q ∈ rest := hr.mem_iff.2 (by simp [hq])
    rcases List.mem_append.1 hx with h | h
    · exact hd x h q hq'
    · simp at h
      subst h
      exact hm q hq'
end Go.Proofs.YtfcmoamooafomaaDoor
