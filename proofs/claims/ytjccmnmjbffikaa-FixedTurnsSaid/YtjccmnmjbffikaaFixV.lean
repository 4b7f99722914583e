
/- Where the stuff bits of a row are: lists alone. No conditions. -/
import Derived.Test.YtjccmnmjbffikaaFixL
namespace Go.Proofs.Ytjccmnmjbffikaa
open Go.RowKit

theorem fgS_zero (E : Nat) (A : Bool) (p : Nat) (l : List Nat) : (fgS E A p l).out.length = 0 → l.length = 0 ∨ (fgS E A p l).last = true := by
  refine snocInd (P := fun l => (fgS E A p l).out.length = 0 → l.length = 0 ∨ (fgS E A p l).last = true) (fun _ => .inl rfl) (fun l b _ => ?_) l
  rw [fgS_snoc]
  unfold fgStep
  cases hd : (fgS E A p l).due with
  | true => intro _; exact .inr rfl
  | false => intro h; simp at h

/-- The places of the stuff bits among the first k of a row. -/
structure PlJ (E : Nat) (A : Bool) (p : Nat) (X : List Nat) (k : Nat) (ps : List Nat) : Prop where
  len : ps.length + (fgS E A p (X.take k)).out.length = k
  last : (fgS E A p (X.take k)).last = decide (0 < ps.length ∧ ps.getD (ps.length - 1) 0 + 1 = k)
  all : ∀ z ∈ ps, z < k ∧ z < X.length ∧ (fgS E A p (X.take z)).due = true

theorem PlJ.zero (E : Nat) (A : Bool) (p : Nat) (X : List Nat) : PlJ E A p X 0 [] := ⟨rfl, rfl, by simp⟩
theorem PlJ.due {E : Nat} {A : Bool} {p : Nat} {X : List Nat} {k : Nat} {ps : List Nat} (h : PlJ E A p X k ps) (hk : k ≤ X.length) :
    (fgS E A p (X.take k)).due = if k = 0 then A else (decide (0 < (fgS E A p (X.take k)).out.length) && decide ((fgS E A p (X.take k)).out.length % E = 0) && !decide (0 < ps.length ∧ ps.getD (ps.length - 1) 0 + 1 = k)) := by
  have hd := fgS_due E A p (X.take k)
  have hz := fgS_zero E A p (X.take k)
  rw [hd, ← h.last]
  by_cases h0 : k = 0
  · subst h0
    simp [fgS, dueF]
  · rw [if_neg h0]
    by_cases hn : (fgS E A p (X.take k)).out.length = 0
    · rcases hz hn with h1 | h1
      · rw [List.length_take] at h1; omega
      · rw [h1]; simp
    · unfold dueF
      rw [if_neg hn, decide_eq_true (show 0 < (fgS E A p (X.take k)).out.length by omega), Bool.true_and, Bool.and_comm]
theorem PlJ.getLt {E : Nat} {A : Bool} {p : Nat} {X : List Nat} {k : Nat} {ps : List Nat} (h : PlJ E A p X k ps) (h0 : 0 < ps.length) : ps.getD (ps.length - 1) 0 < k := by
  refine (h.all _ ?_).1
  have : ps.length - 1 < ps.length := by omega
  exact List.mem_of_getElem? (i := ps.length - 1) (by simp [List.getD, List.getElem?_eq_getElem this])
theorem PlJ.place {E : Nat} {A : Bool} {p : Nat} {X : List Nat} {k x : Nat} {ps : List Nat} (h : PlJ E A p X k ps) (hx : X[k]? = some x) (hd : (fgS E A p (X.take k)).due = true) : PlJ E A p X (k + 1) (ps ++ [k]) := by
  have hk : k < X.length := (List.getElem?_eq_some_iff.1 hx).1
  have hs : fgS E A p (X.take (k + 1)) = fgStep E (fgS E A p (X.take k)) x := by rw [take_snoc' hx, fgS_snoc]
  obtain ⟨t1, t2, _⟩ := fgStep_due (E := E) x hd
  have hl := h.len
  refine ⟨?_, ?_, fun z hz => ?_⟩
  · rw [hs, t1, List.length_append, List.length_singleton]; omega
  · rw [hs, t2]
    symm
    rw [decide_eq_true_eq]
    simp [List.getD]
  · rcases List.mem_append.1 hz with h1 | h1
    · have := h.all z h1
      exact ⟨by omega, this.2⟩
    · simp at h1
      subst h1
      exact ⟨by omega, hk, hd⟩
theorem PlJ.nott {E : Nat} {A : Bool} {p : Nat} {X : List Nat} {k x : Nat} {ps : List Nat} (h : PlJ E A p X k ps) (hx : X[k]? = some x) (hd : (fgS E A p (X.take k)).due = false) : PlJ E A p X (k + 1) ps ∧ (fgS E A p (X.take (k + 1))).out.length = (fgS E A p (X.take k)).out.length + 1 := by
  have hs : fgS E A p (X.take (k + 1)) = fgStep E (fgS E A p (X.take k)) x := by rw [take_snoc' hx, fgS_snoc]
  obtain ⟨t1, t2, _⟩ := fgStep_not (E := E) x hd
  have hl := h.len
  have ho : (fgS E A p (X.take (k + 1))).out.length = (fgS E A p (X.take k)).out.length + 1 := by rw [hs, t1, List.length_append, List.length_singleton]
  refine ⟨⟨by omega, ?_, fun z hz => ?_⟩, ho⟩
  · rw [hs, t2]
    symm
    rw [decide_eq_false_iff_not]
    intro ⟨h1, h2⟩
    have := h.getLt h1
    omega
  · have := h.all z hz
    exact ⟨by omega, this.2⟩

/-- A turned stuff bit is told. -/
theorem fg_told {p : Nat} {l : List Nat} {E : Int} {A : Bool} {i : Nat} (h : fpOk p l E A = true) (hi : i < (fpL p l E A).length) (hd : (fgS E.toNat A p ((fpL p l E A).take i)).due = true) :
    fgE p ((fpL p l E A).set i ((fpL p l E A).getD i 0 ^^^ 1)) E A = 4 := by
  have e1 : fpL p l E A = fxPut E.toNat A p l := by simp [fpL, h]
  obtain ⟨m, rfl, h1, h2, hp1, hc, hs⟩ := fp_nat h
  rw [Int.toNat_natCast] at e1 hd
  rw [e1] at hi hd ⊢
  obtain ⟨i1, i2, i3, _⟩ := fg_put (E := m) (A := A) hp1 (chk_bit hc)
  have hb := fxPut_bit (E := m) (A := A) (p := p) (chk_bit hc)
  have hl := fxPut_len (E := m) A p l
  have hv : (fxPut m A p l).getD i 0 ≤ 1 := hb _ (List.mem_of_getElem? (i := i) (by simp [List.getD, List.getElem?_eq_getElem hi]))
  have hf := fg_turned (E := m) (A := A) hp1 hb i3 hi hd (xor1_le _ hv) (xor1_ne _ hv)
  have hk : chk ((fxPut m A p l).set i ((fxPut m A p l).getD i 0 ^^^ 1)) = true := chk_mk (set_bits hb i _ (xor1_le _ hv)) (by rw [List.length_set]; omega)
  have hg := bgOk_of (E := m) hp1 h1 h2
  have hok : fgOk p ((fxPut m A p l).set i ((fxPut m A p l).getD i 0 ^^^ 1)) m = true := by rw [fgOk, hg, hk]; rfl
  unfold fgE
  rw [if_pos hok, Int.toNat_natCast, hf, if_neg (by simp)]
theorem fp_out {p : Nat} {l : List Nat} {E : Int} {A : Bool} (h : fpOk p l E A = true) : (fgS E.toNat A p (fpL p l E A)).out.length = l.length ∧ (∀ x ∈ fpL p l E A, x ≤ 1) ∧ (fpL p l E A).length ≤ 2 * l.length := by
  have e1 : fpL p l E A = fxPut E.toNat A p l := by simp [fpL, h]
  obtain ⟨m, rfl, h1, h2, hp1, hc, hs⟩ := fp_nat h
  rw [Int.toNat_natCast] at e1 ⊢
  rw [e1]
  obtain ⟨i1, _⟩ := fg_put (E := m) (A := A) hp1 (chk_bit hc)
  rw [i1]
  exact ⟨rfl, fxPut_bit (chk_bit hc), by rw [fxPut_len]; exact szF_le2 m A _⟩
end Go.Proofs.Ytjccmnmjbffikaa
