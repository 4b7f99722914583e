
/- How many bits are left up to a stuff bit, how many raw bits there are, tallies: lists alone. No conditions. -/
import Derived.Test.YtjccmnmjbffikaaFixP
namespace Go.Proofs.Ytjccmnmjbffikaa
open Go.RowKit

/-- How many bits are left up to the next stuff bit, ahead of bit number n. -/
def leftF (E : Nat) (A : Bool) (n : Nat) : Nat := if n = 0 then (if A then 0 else E) else (E - n % E) % E
theorem leftF_zero (E : Nat) (A : Bool) : leftF E A 0 = if A then 0 else E := rfl
theorem leftF_le {E : Nat} (A : Bool) (n : Nat) : leftF E A n ≤ E := by
  unfold leftF
  split
  · split <;> omega
  · by_cases h : E = 0
    · subst h; simp
    · exact Nat.le_of_lt (Nat.mod_lt _ (by omega))
theorem leftF_due {E : Nat} (hE : 1 ≤ E) (A : Bool) (n : Nat) : decide (leftF E A n = 0) = dueF E A n := by
  unfold leftF dueF
  by_cases h0 : n = 0
  · rw [if_pos h0, if_pos h0]
    cases A with
    | true => rfl
    | false => simp; omega
  · rw [if_neg h0, if_neg h0]
    have hlt := Nat.mod_lt n (show 0 < E by omega)
    by_cases hm : n % E = 0
    · rw [hm, Nat.sub_zero, Nat.mod_self]
    · rw [Nat.mod_eq_of_lt (by omega)]
      rw [decide_eq_false hm, decide_eq_false (by omega)]
theorem leftF_succ {E : Nat} (hE : 1 ≤ E) (A : Bool) (n : Nat) : leftF E A (n + 1) = (if dueF E A n then E else leftF E A n) - 1 := by
  unfold leftF dueF
  rw [if_neg (by omega)]
  have hlt := Nat.mod_lt n (show 0 < E by omega)
  have hs : (n + 1) % E = if n % E + 1 = E then 0 else n % E + 1 := by
    rw [Nat.add_mod]
    by_cases h1 : E = 1
    · subst h1; simp [Nat.mod_one]
    · rw [Nat.mod_eq_of_lt (show 1 < E by omega)]
      by_cases h : n % E + 1 = E
      · rw [if_pos h, h, Nat.mod_self]
      · rw [if_neg h, Nat.mod_eq_of_lt (by omega)]
  rw [hs]
  by_cases h0 : n = 0
  · subst h0
    rw [Nat.zero_mod, if_pos rfl]
    have e : (if (if 0 = 0 then A else decide True) = true then E else (if 0 = 0 then (if A = true then 0 else E) else (E - 0) % E)) - 1 = E - 1 := by cases A <;> simp
    by_cases h1 : 0 + 1 = E
    · rw [if_pos h1, Nat.sub_zero, Nat.mod_self]
      cases A <;> simp <;> omega
    · rw [if_neg h1, Nat.mod_eq_of_lt (by omega)]
      cases A <;> simp
  · rw [if_neg h0, if_neg h0]
    by_cases hm : n % E = 0
    · simp only [hm, decide_true, if_true]
      by_cases h1 : 0 + 1 = E
      · rw [if_pos h1, Nat.sub_zero, Nat.mod_self]; omega
      · rw [if_neg h1, Nat.mod_eq_of_lt (by omega)]
    · simp only [hm, decide_false, Bool.false_eq_true, if_false]
      rw [Nat.mod_eq_of_lt (show E - n % E < E by omega)]
      by_cases h1 : n % E + 1 = E
      · rw [if_pos h1, Nat.sub_zero, Nat.mod_self]; omega
      · rw [if_neg h1, Nat.mod_eq_of_lt (by omega)]; omega
theorem leftF_pos {E : Nat} (hE : 1 ≤ E) {A : Bool} {n : Nat} (h : dueF E A n = false) : 1 ≤ leftF E A n := by
  have := leftF_due hE A n
  rw [h] at this
  have := of_decide_eq_false this
  omega

theorem szF_zero (E : Nat) (A : Bool) : szF E A 0 = 0 := rfl
theorem szF_succ {E : Nat} (A : Bool) (n : Nat) : szF E A (n + 1) = szF E A n + 1 + (if dueF E A n then 1 else 0) := by
  unfold szF dueF
  by_cases h0 : n = 0
  · rw [if_neg (by omega), if_pos h0, if_pos h0, h0]
    cases A <;> simp
  · rw [if_neg (by omega), if_neg h0, if_neg h0, Nat.add_sub_cancel, div_step (by omega : 0 < n)]
    by_cases hm : n % E = 0
    · simp [hm]; omega
    · simp [hm]; omega
theorem szF_le (E : Nat) (A : Bool) (n : Nat) : szF E A n ≤ 2 * n + 1 := by
  unfold szF
  split
  · omega
  · have := Nat.div_le_self (n - 1) E
    have := Bool.toNat_le A
    omega
theorem szF_le2 (E : Nat) (A : Bool) (n : Nat) : szF E A n ≤ 2 * n := by
  unfold szF
  split
  · omega
  · have := Nat.div_le_self (n - 1) E
    have := Bool.toNat_le A
    omega
theorem szF_ge (E : Nat) (A : Bool) (n : Nat) : n ≤ szF E A n := by
  unfold szF
  generalize (n - 1) / E = q
  split <;> omega

/-- The bits left, while reading. -/
def leftG (E : Nat) (A : Bool) (s : FxS) : Nat := if s.last then E else leftF E A s.out.length
theorem fgS_last (E : Nat) (A : Bool) (p : Nat) (l : List Nat) : (fgS E A p l).last = true → dueF E A (fgS E A p l).out.length = true := by
  refine snocInd (P := fun l => (fgS E A p l).last = true → dueF E A (fgS E A p l).out.length = true) (by simp [fgS]) (fun l b _ => ?_) l
  have hd := fgS_due E A p l
  rw [fgS_snoc]
  unfold fgStep
  simp only
  intro h
  rw [h] at hd
  rw [if_pos h]
  have := hd.symm
  rw [Bool.and_eq_true] at this
  exact this.2
theorem leftG_due {E : Nat} (hE : 1 ≤ E) (A : Bool) (p : Nat) (l : List Nat) : decide (leftG E A (fgS E A p l) = 0) = (fgS E A p l).due := by
  rw [fgS_due]
  unfold leftG
  cases (fgS E A p l).last with
  | true => simp; omega
  | false => simp only [Bool.false_eq_true, if_false, Bool.not_false, Bool.true_and]; exact leftF_due hE A _
theorem leftG_pos {E : Nat} (hE : 1 ≤ E) {A : Bool} {p : Nat} {l : List Nat} (h : (fgS E A p l).due = false) : 1 ≤ leftG E A (fgS E A p l) := by
  have := leftG_due hE A p l
  rw [h] at this
  have := of_decide_eq_false this
  omega
theorem leftG_le {E : Nat} (A : Bool) (s : FxS) : leftG E A s ≤ E := by
  unfold leftG
  split
  · exact Nat.le_refl _
  · exact leftF_le A _
theorem leftG_stuff {E : Nat} {A : Bool} {p : Nat} {l : List Nat} (b : Nat) (h : (fgS E A p l).due = true) : leftG E A (fgS E A p (l ++ [b])) = E := by
  rw [fgS_snoc]
  unfold leftG fgStep
  simp only [h, if_true]
theorem leftG_plain {E : Nat} (hE : 1 ≤ E) {A : Bool} {p : Nat} {l : List Nat} (b : Nat) (h : (fgS E A p l).due = false) : leftG E A (fgS E A p (l ++ [b])) = leftG E A (fgS E A p l) - 1 := by
  have hl := fgS_last E A p l
  have hd := fgS_due E A p l
  rw [h] at hd
  rw [fgS_snoc]
  unfold leftG fgStep
  simp only [h, Bool.false_eq_true, if_false, List.length_append, List.length_singleton]
  rw [leftF_succ hE]
  cases hs : (fgS E A p l).last with
  | true => rw [hl hs]
  | false =>
    rw [hs] at hd
    rw [← (by simpa using hd : false = dueF E A (fgS E A p l).out.length)]

/-! Tallies. -/
def tallyL (n : Nat) : List Nat := bitsN ((2 * (n % 8)) ^^^ (n % 8)) 4
theorem tallyL_mod (n : Nat) : tallyL n = tallyL (n % 8) := by unfold tallyL; rw [Nat.mod_mod]
/-- Twice the number, and the last bit, of so many bits of a tally. -/
def tellS (l : List Nat) : Nat × Nat := l.foldl (fun s b => (2 * s.1 + (s.2 + b) % 2, (s.2 + b) % 2)) (0, 0)
theorem tellS_snoc (l : List Nat) (b : Nat) : tellS (l ++ [b]) = (2 * (tellS l).1 + ((tellS l).2 + b) % 2, ((tellS l).2 + b) % 2) := by simp [tellS]
theorem tellS_odd (l : List Nat) : (tellS l).2 ≤ 1 := by
  refine snocInd (P := fun l => (tellS l).2 ≤ 1) (by simp [tellS]) (fun l b _ => ?_) l
  rw [tellS_snoc]
  simp only
  omega
theorem tellS_lt (l : List Nat) : (tellS l).1 < 2 ^ l.length := by
  refine snocInd (P := fun l => (tellS l).1 < 2 ^ l.length) (by simp [tellS]) (fun l b ih => ?_) l
  rw [tellS_snoc, List.length_append, List.length_singleton, Nat.pow_succ]
  simp only
  omega
theorem four_bits {l : List Nat} (h4 : l.length = 4) (hb : ∀ x ∈ l, x ≤ 1) : ∃ a b c d, l = [a, b, c, d] ∧ a ≤ 1 ∧ b ≤ 1 ∧ c ≤ 1 ∧ d ≤ 1 := by
  match l, h4 with
  | [a, b, c, d], _ => exact ⟨a, b, c, d, rfl, hb a (by simp), hb b (by simp), hb c (by simp), hb d (by simp)⟩
def tlOk (l : List Nat) : Bool := decide (l.length = 4) && chk l
def tlE (l : List Nat) : Nat := if tlOk l then (if (tellS l).2 = 1 then 6 else 0) else 2
def tlN (l : List Nat) : Nat := if tlE l = 0 then (tellS l).1 / 2 else 0
theorem tl_four {l : List Nat} (h4 : l.length = 4) (hb : ∀ x ∈ l, x ≤ 1) : (∀ k, k < 8 → (l = tallyL k ↔ (tellS l).2 = 0 ∧ (tellS l).1 / 2 = k)) ∧ ((tellS l).2 = 0 → (tellS l).1 / 2 < 8) := by
  obtain ⟨a, b, c, d, rfl, ha, hb, hc, hd⟩ := four_bits h4 hb
  rcases (by omega : a = 0 ∨ a = 1) with rfl | rfl <;> rcases (by omega : b = 0 ∨ b = 1) with rfl | rfl <;> rcases (by omega : c = 0 ∨ c = 1) with rfl | rfl <;> rcases (by omega : d = 0 ∨ d = 1) with rfl | rfl <;> decide
theorem tallyL_len (n : Nat) : (tallyL n).length = 4 := bitsN_length _ _
theorem tallyL_bit (n : Nat) : ∀ x ∈ tallyL n, x ≤ 1 := fun x hx => by have := bitsN_lt _ _ x hx; omega
theorem tallyL_tells (n : Nat) : tlE (tallyL n) = 0 ∧ tlN (tallyL n) = n % 8 := by
  have h := (tl_four (tallyL_len n) (tallyL_bit n)).1 (n % 8) (Nat.mod_lt _ (by omega))
  have h := h.1 (tallyL_mod n)
  have ho : tlOk (tallyL n) = true := by
    simp only [tlOk, tallyL_len, decide_true, Bool.true_and, chk, Bool.and_eq_true, decide_eq_true_eq, List.all_eq_true]
    exact ⟨by omega, tallyL_bit n⟩
  have e : tlE (tallyL n) = 0 := by simp [tlE, ho, h.1]
  exact ⟨e, by simp [tlN, e, h.2]⟩
/-- A bit turned in a tally. -/
theorem tally_turned (n k : Nat) (hk : k < 4) : tlE ((tallyL n).set k ((tallyL n).getD k 0 ^^^ 1)) = 6 := by
  rw [tallyL_mod]
  have h8 := Nat.mod_lt n (show 0 < 8 by omega)
  generalize n % 8 = r at *
  rcases (by omega : k = 0 ∨ k = 1 ∨ k = 2 ∨ k = 3) with rfl | rfl | rfl | rfl <;>
    rcases (by omega : r = 0 ∨ r = 1 ∨ r = 2 ∨ r = 3 ∨ r = 4 ∨ r = 5 ∨ r = 6 ∨ r = 7) with rfl | rfl | rfl | rfl | rfl | rfl | rfl | rfl <;> decide
/-- In how many of the first k places two rows differ. -/
def dif (a b : List Nat) (k : Nat) : Nat := (List.range k).countP fun i => a.getD i 0 != b.getD i 0
theorem dif_succ (a b : List Nat) (k : Nat) : dif a b (k + 1) = dif a b k + (if a.getD k 0 = b.getD k 0 then 0 else 1) := by
  unfold dif
  rw [List.range_succ, List.countP_append]
  congr 1
  by_cases h : a.getD k 0 = b.getD k 0
  · rw [if_pos h, List.countP_singleton, if_neg (by rw [h]; simp)]
  · rw [if_neg h, List.countP_singleton, if_pos (by rw [bne_iff_ne]; exact h)]
theorem dif_le (a b : List Nat) (k : Nat) : dif a b k ≤ k := by
  unfold dif
  have := List.countP_le_length (p := fun i => a.getD i 0 != b.getD i 0) (l := List.range k)
  rwa [List.length_range] at this
theorem dif_tally (n : Nat) : dif (tallyL n) (tallyL (n + 1)) 4 = 2 := by
  rw [tallyL_mod n, tallyL_mod (n + 1), Nat.add_mod]
  have h8 := Nat.mod_lt n (show 0 < 8 by omega)
  generalize n % 8 = r at *
  rcases (by omega : r = 0 ∨ r = 1 ∨ r = 2 ∨ r = 3 ∨ r = 4 ∨ r = 5 ∨ r = 6 ∨ r = 7) with rfl | rfl | rfl | rfl | rfl | rfl | rfl | rfl <;> decide
end Go.Proofs.Ytjccmnmjbffikaa
