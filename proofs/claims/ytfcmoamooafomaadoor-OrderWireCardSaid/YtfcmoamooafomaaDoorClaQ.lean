
/- What the laws on wires ask of a frame's bits on the wire. No conditions. -/
import Derived.Test.YtfcmoamooafomaaDoorClaP
namespace Go.Proofs.YtfcmoamooafomaaDoor
set_option linter.unusedVariables false
set_option linter.unusedSimpArgs false
open Go.RowKit

theorem run_ones (X : List Nat) (k : Nat) : k ≤ (runS (X ++ ones k)).2 := by
  by_cases h : k = 0
  · omega
  · exact (runS_ones X k (by omega)).1
theorem head_zero (X R : Bool) (i : Nat) (T : List Nat) : (headC X R i ++ T).getD 0 0 = 0 := by
  cases X <;> simp [headC]
theorem wire_ends {f : Hd} {l : List Nat} (h : okC f l = true) : ∃ P : Nat, P = (putL (bodyC f l)).length ∧ chk (wireC f l) = true ∧ (wireC f l).length = P + 10 ∧ 34 ≤ P ∧ P ≤ 300 ∧ (wireC f l).getD 0 0 = 0 ∧
    wAckC f l = P + 1 ∧ 12 ≤ wArbC f l ∧ wArbC f l + 9 ≤ P ∧ 10 ≤ (runS (wireC f l)).2 ∧ (runS ((wireC f l).take P)).2 ≤ 5 := by
  have hb := body_len h
  have h8 := len8 h
  have h2 := putL_len2 (bodyC f l)
  have hw := wire_len h
  refine ⟨_, rfl, ?_, hw, by split at hb <;> omega, by split at hb <;> omega, ?_, by rw [wAckC, if_pos h], ?_, ?_, ?_, ?_⟩
  · exact chk_of wire_bit (by split at hb <;> omega)
  · have e : bodyC f l = headC f.X f.R f.I.toNat ++ (bitsN l.length 4 ++ bytesBits l ++ sumC 1 (preC f.X f.R f.I.toNat l)) := by
      rw [bodyC, if_pos h, bodyN, preC]; simp
    have h0 : 0 < (bodyC f l).length := by split at hb <;> omega
    have := (put_getD h0 (p := 0) (by simp [putL_nil, full_nil])).2.1
    rw [wireC, if_pos h, List.getD, List.getElem?_append_left (by omega), ← List.getD, this, e]
    exact head_zero _ _ _ _
  · rw [wArbC, if_pos h]
    have := (putL_len2 (headC f.X f.R f.I.toNat)).2
    rw [headC_len] at this
    split at this <;> omega
  · rw [wArbC, if_pos h]
    have e : bodyC f l = headC f.X f.R f.I.toNat ++ (bitsN l.length 4 ++ bytesBits l ++ sumC 1 (preC f.X f.R f.I.toNat l)) := by
      rw [bodyC, if_pos h, bodyN, preC]; simp
    have := putL_more (headC f.X f.R f.I.toNat) (bitsN l.length 4 ++ bytesBits l ++ sumC 1 (preC f.X f.R f.I.toNat l))
    rw [← e] at this
    have h3 : (bitsN l.length 4 ++ bytesBits l ++ sumC 1 (preC f.X f.R f.I.toNat l)).length = 4 + 8 * l.length + 15 := by
      rw [List.length_append, List.length_append, bitsN_length, bytesBits_len, sumC_len]
      rfl
    omega
  · rw [wireC, if_pos h]
    exact run_ones _ _
  · exact wire_run h (Nat.le_refl _)
theorem stepR_zero (b : Nat) : (stepR (0, 0) b).2 = 1 := by
  unfold stepR
  split <;> rfl
/-- A run that goes on. -/
theorem run_step {W : List Nat} {j : Nat} (hj : j < W.length) : (runS (W.take (j + 1))).2 = if 0 < j ∧ W.getD j 0 = W.getD (j - 1) 0 then (runS (W.take j)).2 + 1 else 1 := by
  rw [getD_take hj, runS_snoc]
  by_cases h0 : j = 0
  · subst h0
    rw [if_neg (by omega)]
    exact stepR_zero _
  · have hl : (runS (W.take j)).1 = W.getD (j - 1) 0 := by
      have := lastB_getD (W.take j)
      rw [List.length_take, Nat.min_eq_left (by omega)] at this
      have e : (W.take j).getD (j - 1) 0 = W.getD (j - 1) 0 := by simp [List.getD, show j - 1 < j by omega]
      rw [e] at this
      exact this
    unfold stepR
    rw [hl]
    by_cases he : W.getD j 0 = W.getD (j - 1) 0
    · rw [if_pos he, if_pos ⟨by omega, he⟩]
    · rw [if_neg he, if_neg (by intro h; exact he h.2)]
/-- The wires of two frames that differ in the identifier alone. -/
theorem wire_less {f : Hd} {l : List Nat} {i j : Nat} (hf : okC { f with I := (i : Int) } l = true) (hg : okC { f with I := (j : Int) } l = true) (h : i < j) :
    ∃ d, d < min (wArbC { f with I := (i : Int) } l) (wArbC { f with I := (j : Int) } l) ∧ (wireC { f with I := (i : Int) } l).take d = (wireC { f with I := (j : Int) } l).take d ∧
      (wireC { f with I := (i : Int) } l).getD d 0 = 0 ∧ (wireC { f with I := (j : Int) } l).getD d 0 = 1 := by
  obtain ⟨i', _, ei, _, _, _, _⟩ := okC_parts hf (Int.natCast_nonneg i)
  obtain ⟨j', _, ej, _, _, xj, bj⟩ := okC_parts hg (Int.natCast_nonneg j)
  simp only [Int.toNat_natCast] at ei ej
  subst ei
  subst ej
  have hl := put_less (head_less f.X f.R f.R i j h xj bj)
  obtain ⟨d, h1, h2, h3, h4, h5⟩ := hl
  have key : ∀ (k : Nat), okC { f with I := (k : Int) } l = true → ∃ Y, wireC { f with I := (k : Int) } l = putL (headC f.X f.R k) ++ Y ∧ wArbC { f with I := (k : Int) } l = (putL (headC f.X f.R k)).length := by
    intro k hk
    obtain ⟨Y, hY⟩ := putL_append (headC f.X f.R k) (bitsN l.length 4 ++ bytesBits l ++ sumC 1 (preC f.X f.R k l))
    refine ⟨Y ++ ones 10, ?_, by simp only [wArbC, hk, if_true, Int.toNat_natCast]⟩
    simp only [wireC, bodyC, hk, if_true, Int.toNat_natCast]
    rw [← List.append_assoc, ← hY]
    congr 2
    rw [bodyN, preC]
    simp
  obtain ⟨Y, y1, y2⟩ := key i hf
  obtain ⟨Z, z1, z2⟩ := key j hg
  rw [y1, z1, y2, z2]
  refine ⟨d, by omega, ?_, ?_, ?_⟩
  · rw [List.take_append_of_le_length (by omega), List.take_append_of_le_length (by omega), h3]
  · rwa [List.getD, List.getElem?_append_left h1, ← List.getD]
  · rwa [List.getD, List.getElem?_append_left h2, ← List.getD]
theorem getD_of_take {A B : List Nat} {d k : Nat} (h : A.take d = B.take d) (hk : k < d) : A.getD k 0 = B.getD k 0 := by
  have h1 : (A.take d).getD k 0 = A.getD k 0 := by simp [List.getD, hk]
  have h2 : (B.take d).getD k 0 = B.getD k 0 := by simp [List.getD, hk]
  rw [← h1, ← h2, h]
theorem wire_order {f : Hd} {l : List Nat} {i j : Nat} (hf : okC { f with I := (i : Int) } l = true) (hg : okC { f with I := (j : Int) } l = true) (h : i ≠ j) :
    ∃ d, d < wArbC { f with I := (i : Int) } l ∧ d < wArbC { f with I := (j : Int) } l ∧ (∀ k, k < d → (wireC { f with I := (i : Int) } l).getD k 0 = (wireC { f with I := (j : Int) } l).getD k 0) ∧
      ((i < j ∧ (wireC { f with I := (i : Int) } l).getD d 0 = 0 ∧ (wireC { f with I := (j : Int) } l).getD d 0 = 1) ∨ (j < i ∧ (wireC { f with I := (i : Int) } l).getD d 0 = 1 ∧ (wireC { f with I := (j : Int) } l).getD d 0 = 0)) := by
  rcases Nat.lt_or_gt_of_ne h with h | h
  · obtain ⟨d, h1, h2, h3, h4⟩ := wire_less hf hg h
    exact ⟨d, by omega, by omega, fun k hk => getD_of_take h2 hk, .inl ⟨h, h3, h4⟩⟩
  · obtain ⟨d, h1, h2, h3, h4⟩ := wire_less hg hf h
    exact ⟨d, by omega, by omega, fun k hk => (getD_of_take h2 hk).symm, .inr ⟨h, h4, h3⟩⟩
theorem take_eq_step {A B : List Nat} {k : Nat} (hA : k < A.length) (hB : k < B.length) : A.take (k + 1) = B.take (k + 1) ↔ A.take k = B.take k ∧ A.getD k 0 = B.getD k 0 := by
  rw [getD_take hA, getD_take hB]
  constructor
  · intro h
    have hl : (A.take k).length = (B.take k).length := by rw [List.length_take, List.length_take]; omega
    obtain ⟨h1, h2⟩ := List.append_inj h hl
    exact ⟨h1, by simpa using h2⟩
  · rintro ⟨h1, h2⟩
    rw [h1, h2]
/-- Do two rows differ among their first bits? -/
def diffB (A B : List Nat) (k : Nat) : Bool := !decide (A.take k = B.take k)
theorem diffB_zero (A B : List Nat) : diffB A B 0 = false := by simp [diffB]
theorem bne_nat (a b : Nat) : ((a : Int) != (b : Int)) = !decide (a = b) := by
  by_cases hq : a = b
  · subst hq
    simp
  · have : ¬ (a : Int) = (b : Int) := by omega
    rw [decide_eq_false hq]
    simp [this, bne]
theorem diffB_step {A B : List Nat} {k : Nat} (hA : k < A.length) (hB : k < B.length) : diffB A B (k + 1) = (diffB A B k || ((A.getD k 0 : Int) != (B.getD k 0 : Int))) := by
  have h := take_eq_step hA hB
  have e := bne_nat (A.getD k 0) (B.getD k 0)
  rw [e]
  unfold diffB
  by_cases h1 : A.take k = B.take k
  · by_cases h2 : A.getD k 0 = B.getD k 0
    · rw [decide_eq_true (h.2 ⟨h1, h2⟩), decide_eq_true h1, decide_eq_true h2]; rfl
    · rw [decide_eq_false (fun x => h2 (h.1 x).2), decide_eq_true h1, decide_eq_false h2]; rfl
  · rw [decide_eq_false (fun x => h1 (h.1 x).1), decide_eq_false h1]; rfl
end Go.Proofs.YtfcmoamooafomaaDoor
