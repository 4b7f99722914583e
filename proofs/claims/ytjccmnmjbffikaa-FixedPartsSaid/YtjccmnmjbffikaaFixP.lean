
/- Bits with stuff bits behind each so many, and what they tell, as functions on lists. No conditions. -/
import Derived.Test.YtjccmnmjbffikaaStfP
namespace Go.Proofs.Ytjccmnmjbffikaa
open Go.RowKit

/-- Is a stuff bit ahead of bit number n? -/
def dueF (E : Nat) (A : Bool) (n : Nat) : Bool := if n = 0 then A else decide (n % E = 0)
/-- The last raw bit, or the one ahead of all. -/
def lastP (p : Nat) (l : List Nat) : Nat := if l = [] then p else l.getD (l.length - 1) 0
theorem lastP_nil (p : Nat) : lastP p [] = p := rfl
theorem lastP_snoc (p : Nat) (l : List Nat) (b : Nat) : lastP p (l ++ [b]) = b := by simp [lastP]
theorem lastP_append (p : Nat) (l m : List Nat) : lastP p (l ++ m) = lastP (lastP p l) m := by
  by_cases h : m = []
  · subst h; simp [lastP]
  · unfold lastP
    rw [if_neg (by simp [h]), if_neg h]
    have : 0 < m.length := List.length_pos_iff.2 h
    simp only [List.getD, List.length_append]
    rw [List.getElem?_append_right (by omega)]
    congr 2
    omega
theorem lastP_le {p : Nat} {l : List Nat} (hp : p ≤ 1) (h : ∀ x ∈ l, x ≤ 1) : lastP p l ≤ 1 := by
  unfold lastP
  split
  · exact hp
  · rename_i hl
    have hp : l.length - 1 < l.length := by have := List.length_pos_iff.2 hl; omega
    exact h _ (List.mem_of_getElem? (i := l.length - 1) (by simp [List.getD, List.getElem?_eq_getElem hp]))

/-- Bits with stuff bits behind each E, and ahead if A is so. -/
def fxStep (E : Nat) (A : Bool) (p : Nat) (s : Nat × List Nat) (b : Nat) : Nat × List Nat := (s.1 + 1, if dueF E A s.1 then s.2 ++ [1 - lastP p s.2, b] else s.2 ++ [b])
theorem fxStep_eq (E : Nat) (A : Bool) (p : Nat) (s : Nat × List Nat) (b : Nat) : fxStep E A p s b = (s.1 + 1, if dueF E A s.1 then s.2 ++ [1 - lastP p s.2, b] else s.2 ++ [b]) := rfl
def fxPut (E : Nat) (A : Bool) (p : Nat) (l : List Nat) : List Nat := (l.foldl (fxStep E A p) (0, [])).2
theorem fx_fst (E : Nat) (A : Bool) (p : Nat) (l : List Nat) : ∀ s : Nat × List Nat, (l.foldl (fxStep E A p) s).1 = s.1 + l.length := by
  induction l with
  | nil => intro s; rfl
  | cons b l ih => intro s; rw [List.foldl_cons, ih]; simp [fxStep]; omega
theorem fxPut_nil (E : Nat) (A : Bool) (p : Nat) : fxPut E A p [] = [] := rfl
theorem fxPut_snoc (E : Nat) (A : Bool) (p : Nat) (l : List Nat) (b : Nat) : fxPut E A p (l ++ [b]) = if dueF E A l.length then fxPut E A p l ++ [1 - lastP p (fxPut E A p l), b] else fxPut E A p l ++ [b] := by
  have h := fx_fst E A p l (0, [])
  unfold fxPut
  rw [List.foldl_append, List.foldl_cons, List.foldl_nil, fxStep_eq, h]
  simp

theorem fxPut_bit {E : Nat} {A : Bool} {p : Nat} {l : List Nat} : (∀ x ∈ l, x ≤ 1) → ∀ x ∈ fxPut E A p l, x ≤ 1 := by
  refine snocInd (P := fun l => (∀ x ∈ l, x ≤ 1) → ∀ x ∈ fxPut E A p l, x ≤ 1) (by simp [fxPut]) (fun l b ih hl => ?_) l
  have ih := ih (fun x hx => hl x (by simp [hx]))
  have hb := hl b (by simp)
  rw [fxPut_snoc]
  split
  · intro x hx
    rcases List.mem_append.1 hx with h | h
    · exact ih x h
    · simp at h; omega
  · intro x hx
    rcases List.mem_append.1 hx with h | h
    · exact ih x h
    · simp at h; omega

/-- How many raw bits n bits have. -/
def szF (E : Nat) (A : Bool) (n : Nat) : Nat := if n = 0 then 0 else n + (n - 1) / E + A.toNat
theorem div_step {E n : Nat} (hn : 0 < n) : n / E = (n - 1) / E + (if n % E = 0 then 1 else 0) := by
  obtain ⟨m, rfl⟩ : ∃ m, n = m + 1 := ⟨n - 1, by omega⟩
  rw [Nat.add_sub_cancel, Nat.succ_div]
  simp only [Nat.dvd_iff_mod_eq_zero]
theorem fxPut_len {E : Nat} (A : Bool) (p : Nat) (l : List Nat) : (fxPut E A p l).length = szF E A l.length := by
  refine snocInd (P := fun l => (fxPut E A p l).length = szF E A l.length) (by simp [fxPut, szF]) (fun l b ih => ?_) l
  rw [fxPut_snoc, List.length_append, List.length_singleton]
  have hs : szF E A (l.length + 1) = szF E A l.length + 1 + (dueF E A l.length).toNat := by
    unfold szF dueF
    by_cases h0 : l.length = 0
    · rw [if_neg (by omega), if_pos h0, if_pos h0, h0]
      simp
    · rw [if_neg (by omega), if_neg h0, if_neg h0, Nat.add_sub_cancel, div_step (by omega : 0 < l.length)]
      by_cases hm : l.length % E = 0
      · simp [hm]; omega
      · simp [hm]; omega
  rw [hs, ← ih]
  split
  · rename_i h; rw [h]; simp
  · rename_i h; rw [Bool.not_eq_true] at h; rw [h]; simp

/-- Reading: is a stuff bit due, what was told, was the last one a stuff bit, the bit ahead, was each stuff bit one. -/
structure FxS where
  due : Bool
  out : List Nat
  last : Bool
  prev : Nat
  ok : Bool
def fgStep (E : Nat) (s : FxS) (b : Nat) : FxS :=
  { due := !s.due && decide ((s.out ++ [b]).length % E = 0), out := if s.due then s.out else s.out ++ [b], last := s.due, prev := b, ok := s.ok && !(s.due && b == s.prev) }
def fgS (E : Nat) (A : Bool) (p : Nat) (l : List Nat) : FxS := l.foldl (fgStep E) ⟨A, [], false, p, true⟩
theorem fgS_snoc (E : Nat) (A : Bool) (p : Nat) (l : List Nat) (b : Nat) : fgS E A p (l ++ [b]) = fgStep E (fgS E A p l) b := by simp [fgS]
theorem fgS_nil (E : Nat) (A : Bool) (p : Nat) : fgS E A p [] = ⟨A, [], false, p, true⟩ := rfl
theorem fgS_prev (E : Nat) (A : Bool) (p : Nat) (l : List Nat) : (fgS E A p l).prev = lastP p l := by
  refine snocInd (P := fun l => (fgS E A p l).prev = lastP p l) rfl (fun l b _ => ?_) l
  rw [fgS_snoc, lastP_snoc]
  rfl
theorem fgS_len (E : Nat) (A : Bool) (p : Nat) (l : List Nat) : (fgS E A p l).out.length ≤ l.length := by
  refine snocInd (P := fun l => (fgS E A p l).out.length ≤ l.length) (by simp [fgS]) (fun l b ih => ?_) l
  rw [fgS_snoc]
  unfold fgStep
  simp only
  split <;> simp <;> omega
theorem fgS_due (E : Nat) (A : Bool) (p : Nat) (l : List Nat) : (fgS E A p l).due = (!(fgS E A p l).last && dueF E A (fgS E A p l).out.length) := by
  refine snocInd (P := fun l => (fgS E A p l).due = (!(fgS E A p l).last && dueF E A (fgS E A p l).out.length)) (by simp [fgS, dueF]) (fun l b ih => ?_) l
  rw [fgS_snoc]
  unfold fgStep
  simp only
  cases hd : (fgS E A p l).due with
  | true => simp
  | false => simp [dueF]
theorem fgS_ok_left (E : Nat) (A : Bool) (p : Nat) (l m : List Nat) : (fgS E A p (l ++ m)).ok = true → (fgS E A p l).ok = true := by
  refine snocInd (P := fun m => (fgS E A p (l ++ m)).ok = true → (fgS E A p l).ok = true) (by simp) (fun m b ih h => ?_) m
  rw [← List.append_assoc, fgS_snoc] at h
  unfold fgStep at h
  simp only [Bool.and_eq_true] at h
  exact ih h.1
theorem fgS_bit {E : Nat} {A : Bool} {p : Nat} {l : List Nat} : (∀ x ∈ l, x ≤ 1) → ∀ x ∈ (fgS E A p l).out, x ≤ 1 := by
  refine snocInd (P := fun l => (∀ x ∈ l, x ≤ 1) → ∀ x ∈ (fgS E A p l).out, x ≤ 1) (by simp [fgS]) (fun l b ih hl => ?_) l
  have ih := ih (fun x hx => hl x (by simp [hx]))
  have hb := hl b (by simp)
  rw [fgS_snoc]
  unfold fgStep
  simp only
  split
  · exact ih
  · intro x hx
    rcases List.mem_append.1 hx with h | h
    · exact ih x h
    · simp at h; omega

/-- What is put is got. -/
theorem fg_put {E : Nat} {A : Bool} {p : Nat} (hp : p ≤ 1) {l : List Nat} : (∀ x ∈ l, x ≤ 1) → (fgS E A p (fxPut E A p l)).out = l ∧ (fgS E A p (fxPut E A p l)).last = false ∧ (fgS E A p (fxPut E A p l)).ok = true ∧ (fgS E A p (fxPut E A p l)).due = dueF E A l.length := by
  refine snocInd (P := fun l => (∀ x ∈ l, x ≤ 1) → (fgS E A p (fxPut E A p l)).out = l ∧ (fgS E A p (fxPut E A p l)).last = false ∧ (fgS E A p (fxPut E A p l)).ok = true ∧ (fgS E A p (fxPut E A p l)).due = dueF E A l.length) (by simp [fxPut, fgS, dueF]) (fun l b ih hl => ?_) l
  have hl' : ∀ x ∈ l, x ≤ 1 := fun x hx => hl x (by simp [hx])
  obtain ⟨i1, i2, i3, i4⟩ := ih hl'
  have hle := lastP_le hp (fxPut_bit (E := E) (A := A) (p := p) hl')
  have hpv := fgS_prev E A p (fxPut E A p l)
  rw [fxPut_snoc]
  cases hd : dueF E A l.length with
  | true =>
    rw [if_pos rfl, show fxPut E A p l ++ [1 - lastP p (fxPut E A p l), b] = (fxPut E A p l ++ [1 - lastP p (fxPut E A p l)]) ++ [b] from by simp, fgS_snoc, fgS_snoc]
    unfold fgStep
    simp only [i1, i3, i4, hd, hpv]
    simp [dueF]
    omega
  | false =>
    simp only [Bool.false_eq_true, if_false]
    rw [fgS_snoc]
    unfold fgStep
    simp only [i1, i3, i4, hd, hpv]
    simp [dueF]

/-- What is got is put as it was. -/
theorem put_fg {E : Nat} {A : Bool} {p : Nat} (hp : p ≤ 1) {l : List Nat} : (∀ x ∈ l, x ≤ 1) → (fgS E A p l).ok = true →
    ((fgS E A p l).last = false → fxPut E A p (fgS E A p l).out = l) ∧ ((fgS E A p l).last = true → dueF E A (fgS E A p l).out.length = true ∧ fxPut E A p (fgS E A p l).out ++ [1 - lastP p (fxPut E A p (fgS E A p l).out)] = l) := by
  refine snocInd (P := fun l => (∀ x ∈ l, x ≤ 1) → (fgS E A p l).ok = true → ((fgS E A p l).last = false → fxPut E A p (fgS E A p l).out = l) ∧ ((fgS E A p l).last = true → dueF E A (fgS E A p l).out.length = true ∧ fxPut E A p (fgS E A p l).out ++ [1 - lastP p (fxPut E A p (fgS E A p l).out)] = l)) (by simp [fxPut, fgS]) (fun l b ih hl ho => ?_) l
  have hl' : ∀ x ∈ l, x ≤ 1 := fun x hx => hl x (by simp [hx])
  have hb := hl b (by simp)
  have hle := lastP_le hp hl'
  have hpv := fgS_prev E A p l
  have hdue := fgS_due E A p l
  rw [fgS_snoc] at ho ⊢
  unfold fgStep at ho ⊢
  simp only [Bool.and_eq_true, Bool.not_eq_true', Bool.and_eq_false_iff, beq_eq_false_iff_ne, hpv] at ho
  simp only
  obtain ⟨i1, i2⟩ := ih hl' ho.1
  cases hd : (fgS E A p l).due with
  | true =>
    rw [hd] at hdue
    have hs := hdue.symm
    rw [Bool.and_eq_true, Bool.not_eq_true'] at hs
    refine ⟨by simp, fun _ => ?_⟩
    rw [if_pos rfl, i1 hs.1]
    refine ⟨hs.2, ?_⟩
    rcases ho.2 with h | h
    · rw [hd] at h; cases h
    · rw [show 1 - lastP p l = b from by omega]
  | false =>
    refine ⟨fun _ => ?_, by simp⟩
    simp only [Bool.false_eq_true, if_false]
    rw [fxPut_snoc]
    cases hs : (fgS E A p l).last with
    | true =>
      obtain ⟨j1, j2⟩ := i2 hs
      rw [j1, if_pos rfl]
      conv => rhs; rw [← j2]
      simp
    | false =>
      rw [hd, hs] at hdue
      rw [Bool.not_false, Bool.true_and] at hdue
      rw [← hdue, i1 hs]
      simp

/-- A stuff bit turned. -/
theorem fg_turned {E : Nat} {A : Bool} {p : Nat} (hp : p ≤ 1) {x : List Nat} {i y : Nat} (hx : ∀ z ∈ x, z ≤ 1) (ho : (fgS E A p x).ok = true) (hi : i < x.length) (hd : (fgS E A p (x.take i)).due = true) (hy : y ≤ 1) (hne : y ≠ x.getD i 0) : (fgS E A p (x.set i y)).ok = false := by
  cases hq : (fgS E A p (x.set i y)).ok with
  | false => rfl
  | true =>
    have h1 := hq
    rw [← List.take_append_drop (i + 1) (x.set i y)] at h1
    have h1 := fgS_ok_left _ _ _ _ _ h1
    have h2 := ho
    rw [← List.take_append_drop (i + 1) x] at h2
    have h2 := fgS_ok_left _ _ _ _ _ h2
    have e0 : (x.set i y).take i = x.take i := List.take_set_of_le (Nat.le_refl _)
    have e1 : (x.set i y).take (i + 1) = x.take i ++ [y] := by
      rw [take_snoc' (x := y) (by simp [hi]), e0]
    have e2 : x.take (i + 1) = x.take i ++ [x.getD i 0] := take_snoc' (by simp [List.getD, List.getElem?_eq_getElem hi])
    have hpv := fgS_prev E A p (x.take i)
    have hle := lastP_le hp (l := x.take i) (fun z hz => hx z (List.mem_of_mem_take hz))
    have h4 : x.getD i 0 ≤ 1 := hx _ (List.mem_of_getElem? (i := i) (by simp [List.getD, List.getElem?_eq_getElem hi]))
    rw [e1, fgS_snoc] at h1
    rw [e2, fgS_snoc] at h2
    unfold fgStep at h1 h2
    simp only [hd, hpv, Bool.true_and, Bool.and_eq_true, Bool.not_eq_true', beq_eq_false_iff_ne] at h1 h2
    omega

/-- Each raw bit is a bit or a stuff bit. -/
theorem fg_count {E : Nat} {A : Bool} {p : Nat} (l : List Nat) (b : Nat) : (fgS E A p (l ++ [b])).out.length = (fgS E A p l).out.length + (if (fgS E A p l).due then 0 else 1) := by
  rw [fgS_snoc]
  unfold fgStep
  simp only
  split <;> simp

/-- Whole parts, one behind the other. -/
theorem fx_parts {E : Nat} (A : Bool) (p : Nat) {l1 : List Nat} (h1 : 0 < l1.length) (hm : l1.length % E = 0) (l2 : List Nat) : fxPut E A p (l1 ++ l2) = fxPut E A p l1 ++ fxPut E true (lastP p (fxPut E A p l1)) l2 := by
  refine snocInd (P := fun l2 => fxPut E A p (l1 ++ l2) = fxPut E A p l1 ++ fxPut E true (lastP p (fxPut E A p l1)) l2) (by simp [fxPut_nil]) (fun l2 b ih => ?_) l2
  rw [← List.append_assoc, fxPut_snoc, ih, fxPut_snoc]
  have hd : dueF E A (l1 ++ l2).length = dueF E true l2.length := by
    unfold dueF
    rw [List.length_append, if_neg (by omega)]
    by_cases h0 : l2.length = 0
    · rw [if_pos h0, h0, Nat.add_zero, hm]; rfl
    · rw [if_neg h0, Nat.add_mod, hm, Nat.zero_add, Nat.mod_mod]
  rw [hd, lastP_append]
  split <;> simp
end Go.Proofs.Ytjccmnmjbffikaa
