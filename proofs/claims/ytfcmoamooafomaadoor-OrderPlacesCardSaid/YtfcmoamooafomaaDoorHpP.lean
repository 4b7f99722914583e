
/- Places by rising keys: a heap's order on lists of pairs, ranks. No program here. No conditions. -/
import Derived.Test.YtfcmoamooafomaaDoorGa
namespace Go.Proofs.YtfcmoamooafomaaDoor
set_option linter.unusedVariables false
set_option linter.unusedSimpArgs false
open Go.RowKit

/-! Places by rising keys: pairs of a key and a place. -/
def leP (p q : Nat × Nat) : Prop := p.1 < q.1 ∨ p.1 = q.1 ∧ p.2 ≤ q.2
instance (p q : Nat × Nat) : Decidable (leP p q) := by unfold leP; infer_instance
def leB (p q : Nat × Nat) : Bool := decide (leP p q)
/-- Is p told ahead of q? -/
def ahB (p q : Nat × Nat) : Bool := if p.1 = q.1 then decide (p.2 < q.2) else decide (p.1 < q.1)
theorem ahB_iff (p q : Nat × Nat) : ahB p q = true ↔ ¬ leP q p := by
  unfold ahB leP
  split <;> simp <;> omega
theorem leP_refl (p : Nat × Nat) : leP p p := by unfold leP; omega
theorem leP_trans {p q r : Nat × Nat} (h : leP p q) (k : leP q r) : leP p r := by unfold leP at *; omega
theorem leP_total (p q : Nat × Nat) : leP p q ∨ leP q p := by unfold leP; omega
theorem leP_anti {p q : Nat × Nat} (h : leP p q) (k : leP q p) : p = q := by
  obtain ⟨a, b⟩ := p
  obtain ⟨c, d⟩ := q
  unfold leP at *
  simp only at h k
  have : a = c ∧ b = d := by omega
  rw [this.1, this.2]
theorem leP_not {p q : Nat × Nat} (h : ¬ leP p q) : leP q p := (leP_total p q).resolve_left h

abbrev d0 : Nat × Nat := (0, 0)
def swp (l : List (Nat × Nat)) (i j : Nat) : List (Nat × Nat) := (l.set i (l.getD j d0)).set j (l.getD i d0)
theorem swp_len (l : List (Nat × Nat)) (i j : Nat) : (swp l i j).length = l.length := by simp [swp]
theorem swp_get (l : List (Nat × Nat)) {i j : Nat} (hi : i < l.length) (hj : j < l.length) (k : Nat) :
    (swp l i j).getD k d0 = if k = j then l.getD i d0 else if k = i then l.getD j d0 else l.getD k d0 := by
  unfold swp
  generalize l.getD j d0 = u
  generalize l.getD i d0 = v
  by_cases h1 : k = j
  · subst h1
    simp [List.getD, hj]
  · rw [if_neg h1, List.getD, List.getElem?_set_ne (Ne.symm h1)]
    by_cases h2 : k = i
    · subst h2
      simp [hi]
    · rw [if_neg h2, List.getElem?_set_ne (Ne.symm h2)]; rfl
theorem swp_perm (l : List (Nat × Nat)) {i j : Nat} (hi : i < l.length) (hj : j < l.length) : (swp l i j).Perm l := by
  have e1 : l.getD j d0 = l[j] := by simp [List.getD, hj]
  have e2 : l.getD i d0 = l[i] := by simp [List.getD, hi]
  unfold swp
  rw [e1, e2]
  exact List.set_set_perm hi hj

/-- The parents from i0 on are ahead of their children. -/
def HpF (l : List (Nat × Nat)) (n i0 : Nat) : Prop := ∀ c, 0 < c → c < n → i0 ≤ (c - 1) / 2 → leP (l.getD ((c - 1) / 2) d0) (l.getD c d0)
theorem HpF.half (l : List (Nat × Nat)) {n i0 : Nat} (h : n ≤ 2 * i0 + 1) : HpF l n i0 := fun c h1 h2 h3 => by omega
theorem HpF.min {l : List (Nat × Nat)} {n : Nat} (h : HpF l n 0) : ∀ c, c < n → leP (l.getD 0 d0) (l.getD c d0) := by
  intro c
  induction c using Nat.strongRecOn with
  | _ c ih =>
    intro hc
    by_cases h0 : c = 0
    · subst h0; exact leP_refl _
    · exact leP_trans (ih ((c - 1) / 2) (by omega) (by omega)) (h c (by omega) hc (Nat.zero_le _))
theorem HpF.less {l : List (Nat × Nat)} {n m i0 : Nat} (h : HpF l n i0) (hm : m ≤ n) : HpF l m i0 := fun c h1 h2 h3 => h c h1 (by omega) h3
theorem HpF.congr {l l' : List (Nat × Nat)} {n i0 : Nat} (h : HpF l n i0) (he : ∀ k, i0 ≤ k → k < n → l'.getD k d0 = l.getD k d0) : HpF l' n i0 := fun c h1 h2 h3 => by
  rw [he _ h3 (by omega), he c (by omega) h2]
  exact h c h1 h2 h3
/-- While one of n goes down from i0, at i now. -/
structure DnI (l0 l : List (Nat × Nat)) (n i0 i : Nat) : Prop where
  len : l.length = l0.length
  perm : l.Perm l0
  rest : ∀ k, n ≤ k → l.getD k d0 = l0.getD k d0
  heap : ∀ c, 0 < c → c < n → i0 ≤ (c - 1) / 2 → (c - 1) / 2 ≠ i → leP (l.getD ((c - 1) / 2) d0) (l.getD c d0)
  over : i0 < i → ∀ c, 0 < c → c < n → (c - 1) / 2 = i → leP (l.getD ((i - 1) / 2) d0) (l.getD c d0)
  from0 : i0 ≤ i
  par : i0 < i → i0 ≤ (i - 1) / 2
theorem DnI.start {l : List (Nat × Nat)} {n i0 : Nat} (h : HpF l n (i0 + 1)) : DnI l l n i0 i0 :=
  ⟨rfl, List.Perm.refl _, fun _ _ => rfl, fun c h1 h2 h3 h4 => h c h1 h2 (by omega), fun h => by omega, Nat.le_refl _, fun h => by omega⟩
/-- The smaller child of i. -/
def kid (l : List (Nat × Nat)) (n i : Nat) : Nat := if 2 * i + 2 < n ∧ ahB (l.getD (2 * i + 2) d0) (l.getD (2 * i + 1) d0) = true then 2 * i + 2 else 2 * i + 1
theorem kid_or (l : List (Nat × Nat)) (n i : Nat) : (kid l n i = 2 * i + 1 ∨ kid l n i = 2 * i + 2 ∧ 2 * i + 2 < n) := by
  unfold kid
  split
  · rename_i h; exact .inr ⟨rfl, h.1⟩
  · exact .inl rfl
theorem kid_min {l : List (Nat × Nat)} {n i c : Nat} (h0 : 0 < c) (hc : c < n) (hp : (c - 1) / 2 = i) : leP (l.getD (kid l n i) d0) (l.getD c d0) := by
  have : c = 2 * i + 1 ∨ c = 2 * i + 2 := by omega
  unfold kid
  split
  · rename_i h
    rcases this with rfl | rfl
    · exact leP_not ((ahB_iff _ _).1 h.2)
    · exact leP_refl _
  · rename_i h
    rcases this with rfl | rfl
    · exact leP_refl _
    · by_cases hb : ahB (l.getD (2 * i + 2) d0) (l.getD (2 * i + 1) d0) = true
      · exact absurd ⟨hc, hb⟩ h
      · have := mt (ahB_iff _ _).2 hb
        exact Decidable.not_not.1 this
theorem DnI.stop1 {l0 l : List (Nat × Nat)} {n i0 i : Nat} (h : DnI l0 l n i0 i) (hn : n ≤ 2 * i + 1) : HpF l n i0 := fun c h1 h2 h3 => h.heap c h1 h2 h3 (by omega)
theorem DnI.stop2 {l0 l : List (Nat × Nat)} {n i0 i : Nat} (h : DnI l0 l n i0 i) (hk : ahB (l.getD (kid l n i) d0) (l.getD i d0) = false) : HpF l n i0 := fun c h1 h2 h3 => by
  by_cases hc : (c - 1) / 2 = i
  · rw [hc]
    have h4 : leP (l.getD i d0) (l.getD (kid l n i) d0) := by
      have := mt (ahB_iff (l.getD (kid l n i) d0) (l.getD i d0)).2 (by rw [hk]; simp)
      exact Decidable.not_not.1 this
    exact leP_trans h4 (kid_min h1 h2 hc)
  · exact h.heap c h1 h2 h3 hc
theorem DnI.step {l0 l : List (Nat × Nat)} {n i0 i : Nat} (h : DnI l0 l n i0 i) (hn : 2 * i + 1 < n) (hl : n ≤ l.length) (hk : ahB (l.getD (kid l n i) d0) (l.getD i d0) = true) :
    DnI l0 (swp l i (kid l n i)) n i0 (kid l n i) := by
  have hj := kid_or l n i
  have hm := fun c h0 hc hp => kid_min (l := l) (n := n) (i := i) (c := c) h0 hc hp
  generalize hkk : kid l n i = j at *
  have hle : leP (l.getD j d0) (l.getD i d0) := leP_not ((ahB_iff _ _).1 hk)
  have hi : i < l.length := by omega
  have hjl : j < l.length := by omega
  have g := swp_get l hi hjl
  have f0 := h.from0
  refine ⟨by rw [swp_len, h.len], (swp_perm l hi hjl).trans h.perm, fun k hk => ?_, fun c h1 h2 h3 h4 => ?_, fun h0 c h1 h2 h3 => ?_, by omega, fun _ => by omega⟩
  · rw [g, if_neg (by omega), if_neg (by omega)]
    exact h.rest k hk
  · by_cases hp : (c - 1) / 2 = i
    · rw [hp, g, if_neg (by omega), if_pos rfl, g]
      by_cases hcj : c = j
      · rw [if_pos hcj]; exact hle
      · rw [if_neg hcj, if_neg (by omega)]
        exact hm c h1 h2 hp
    · have hcj : c ≠ j := by omega
      rw [g, if_neg h4, if_neg hp, g, if_neg hcj]
      by_cases hci : c = i
      · subst hci
        rw [if_pos rfl]
        exact h.over (by omega) j (by omega) (by omega) (by omega)
      · rw [if_neg hci]
        exact h.heap c h1 h2 h3 hp
  · have e : (j - 1) / 2 = i := by omega
    rw [e, g, if_neg (by omega), if_pos rfl, g, if_neg (by omega), if_neg (by omega)]
    have := h.heap c h1 h2 (by omega) (by omega)
    rwa [h3] at this
theorem getD_ext' {l m : List (Nat × Nat)} (hl : l.length = m.length) (h : ∀ k, k < l.length → l.getD k d0 = m.getD k d0) : l = m := by
  apply List.ext_getElem hl
  intro k h1 h2
  have := h k h1
  simpa [List.getD, h1, h2] using this
theorem DnI.head {l0 l : List (Nat × Nat)} {n i0 i : Nat} (h : DnI l0 l n i0 i) (hn : n ≤ l0.length) : (l.take n).Perm (l0.take n) := by
  have e : l.drop n = l0.drop n := by
    apply getD_ext' (by simp [h.len])
    intro k _
    have := h.rest (n + k) (by omega)
    simpa [List.getD, List.getElem?_drop] using this
  have hp := h.perm
  rw [← List.take_append_drop n l, ← List.take_append_drop n l0, e] at hp
  exact (List.perm_append_right_iff _).1 hp

/-! Ranks. -/
def prs (ks : List Nat) : List (Nat × Nat) := ks.zipIdx
def rkP (ks : List Nat) : List (Nat × Nat) := (prs ks).mergeSort leB
def rk (ks : List Nat) : List Nat := (rkP ks).map (·.2)
theorem rkP_perm (ks : List Nat) : (rkP ks).Perm (prs ks) := List.mergeSort_perm _ _
theorem rkP_sorted (ks : List Nat) : (rkP ks).Pairwise leP := by
  have := List.pairwise_mergeSort (le := leB) (fun a b c h k => by simp only [leB, decide_eq_true_eq] at *; exact leP_trans h k) (fun a b => by simp only [leB, Bool.or_eq_true, decide_eq_true_eq]; exact leP_total a b) (prs ks)
  exact this.imp (fun h => by simpa [leB] using h)
/-- Whatever is in order and has the same pairs is the ranks. -/
theorem rkP_of {ks : List Nat} {l : List (Nat × Nat)} (hp : l.Perm (prs ks)) (hs : l.Pairwise leP) : l = rkP ks :=
  List.Perm.eq_of_pairwise (fun _ _ _ _ h k => leP_anti h k) hs (rkP_sorted ks) (hp.trans (rkP_perm ks).symm)
theorem rk_len (ks : List Nat) : (rk ks).length = ks.length := by
  rw [rk, List.length_map, (rkP_perm ks).length_eq, prs, List.length_zipIdx]
theorem prs_snoc (ks : List Nat) (k : Nat) : prs (ks ++ [k]) = prs ks ++ [(k, ks.length)] := by simp [prs, List.zipIdx_append]
theorem mem_prs {ks : List Nat} {p : Nat × Nat} (h : p ∈ prs ks) : p.2 < ks.length ∧ ks.getD p.2 0 = p.1 := by
  obtain ⟨k, i⟩ := p
  rw [prs, List.mem_zipIdx_iff_getElem?] at h
  simp only at h
  exact ⟨(List.getElem?_eq_some_iff.1 h).1, by simp [List.getD, h]⟩
theorem prs_map (ks : List Nat) : (prs ks).map (·.2) = List.range ks.length := by
  rw [prs]
  simp [List.range_eq_range']
theorem rk_perm (ks : List Nat) : (rk ks).Perm (List.range ks.length) := by
  rw [← prs_map]
  exact (rkP_perm ks).map _
theorem rk_nodup (ks : List Nat) : (rk ks).Nodup := (rk_perm ks).nodup_iff.2 List.nodup_range
theorem rk_lt (ks : List Nat) : ∀ x ∈ rk ks, x < ks.length := fun x hx => List.mem_range.1 ((rk_perm ks).mem_iff.1 hx)
theorem rkP_eq (ks : List Nat) : rkP ks = (rk ks).map fun i => (ks.getD i 0, i) := by
  rw [rk, List.map_map]
  conv => lhs; rw [← List.map_id (rkP ks)]
  apply List.map_congr_left
  intro p hp
  have := mem_prs ((rkP_perm ks).mem_iff.1 hp)
  obtain ⟨a, b⟩ := p
  simp only [Function.comp, id]
  simp only at this
  rw [this.2]
theorem rk_sorted (ks : List Nat) : (rk ks).Pairwise fun i j => leP (ks.getD i 0, i) (ks.getD j 0, j) := by
  have h := rkP_sorted ks
  rw [rkP_eq, List.pairwise_map] at h
  exact h
end Go.Proofs.YtfcmoamooafomaaDoor
