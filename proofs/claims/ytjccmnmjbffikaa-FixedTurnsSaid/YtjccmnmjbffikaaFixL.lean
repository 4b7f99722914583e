
/- What is put is got, what is got is put as it was: layer 4's answers. No conditions. -/
import Derived.Test.YtjccmnmjbffikaaFixA
namespace Go.Proofs.Ytjccmnmjbffikaa
open Go.RowKit

theorem chk_mk {l : List Nat} (h : ∀ x ∈ l, x ≤ 1) (hl : l.length ≤ 65536) : chk l = true := by
  simp only [chk, Bool.and_eq_true, decide_eq_true_eq, List.all_eq_true]
  exact ⟨hl, h⟩
theorem fp_nat {p : Nat} {l : List Nat} {E : Int} {A : Bool} (h : fpOk p l E A = true) : ∃ m : Nat, E = m ∧ 1 ≤ m ∧ m ≤ 64 ∧ p ≤ 1 ∧ chk l = true ∧ szF m A l.length ≤ 65536 := by
  simp only [fpOk, Bool.and_eq_true, decide_eq_true_eq] at h
  obtain ⟨m, rfl, h1, h2, hp1⟩ := bgOk_nat h.1.1
  exact ⟨m, rfl, h1, h2, hp1, h.1.2, h.2⟩
theorem fp_back {p : Nat} {l : List Nat} {E : Int} {A : Bool} (h : fpOk p l E A = true) :
    fpE p l E A = 0 ∧ fgE p (fpL p l E A) E A = 0 ∧ fgL p (fpL p l E A) E A = l ∧ fzE l.length E = 0 ∧ fzN l.length E A = (fpL p l E A).length ∧ (fpL p l E A).length ≤ 65536 := by
  have e1 : fpL p l E A = fxPut E.toNat A p l := by simp [fpL, h]
  have e2 : fpE p l E A = 0 := by simp [fpE, h]
  obtain ⟨m, rfl, h1, h2, hp1, hc, hs⟩ := fp_nat h
  rw [Int.toNat_natCast] at e1
  obtain ⟨i1, i2, i3, _⟩ := fg_put (E := m) (A := A) hp1 (chk_bit hc)
  have hl := fxPut_len (E := m) A p l
  have hk : chk (fxPut m A p l) = true := chk_mk (fxPut_bit (chk_bit hc)) (by omega)
  have hg := bgOk_of (E := m) hp1 h1 h2
  have hf : fgOk p (fxPut m A p l) m = true := by rw [fgOk, hg, hk]; rfl
  have e3 : fgE p (fxPut m A p l) m A = 0 := by simp [fgE, hf, i2, i3]
  have hg0 := bgOk_of (p := 0) (E := m) (by omega) h1 h2
  have hlen := chk_len hc
  have hz : fzOk l.length m = true := by
    simp only [fzOk, hg0, Bool.true_and, Bool.and_eq_true, decide_eq_true_eq]
    omega
  rw [e1]
  exact ⟨e2, e3, by simp [fgL, e3, i1], by simp [fzE, hz], by simp [fzN, hz, hl], by omega⟩
theorem fg_back {p : Nat} {r : List Nat} {E : Int} {A : Bool} (h : fgE p r E A = 0) : fpE p (fgL p r E A) E A = 0 ∧ fpL p (fgL p r E A) E A = r := by
  have hok : fgOk p r E = true := by
    cases hq : fgOk p r E with
    | true => rfl
    | false => simp [fgE, hq] at h
  have e1 : fgL p r E A = (fgS E.toNat A p r).out := by simp [fgL, h]
  have hk : (fgS E.toNat A p r).ok = true := by
    cases hq : (fgS E.toNat A p r).ok with
    | true => rfl
    | false => simp [fgE, hok, hq] at h
  have hl : (fgS E.toNat A p r).last = false := by
    cases hq : (fgS E.toNat A p r).last with
    | false => rfl
    | true => simp [fgE, hok, hk, hq] at h
  have hok' := hok
  simp only [fgOk, Bool.and_eq_true] at hok
  obtain ⟨m, rfl, h1, h2, hp1⟩ := bgOk_nat hok.1
  rw [Int.toNat_natCast] at e1 hk hl
  have hb := (put_fg (E := m) (A := A) hp1 (chk_bit hok.2) hk).1 hl
  have hol := fgS_len m A p r
  have hrl := chk_len hok.2
  have hc : chk (fgS m A p r).out = true := chk_mk (fgS_bit (chk_bit hok.2)) (by omega)
  have hpl := fxPut_len (E := m) A p (fgS m A p r).out
  rw [hb] at hpl
  have hfp : fpOk p (fgS m A p r).out m A = true := by
    simp only [fpOk, hok.1, hc, Bool.true_and, decide_eq_true_eq, Int.toNat_natCast]
    omega
  rw [e1]
  exact ⟨by simp [fpE, hfp], by simp [fpL, hfp, hb]⟩
theorem fg_err {p : Nat} {r : List Nat} {E : Int} {A : Bool} (h : fgE p r E A ≠ 0) : fgL p r E A = [] := by simp [fgL, h]
theorem fp_err {p : Nat} {l : List Nat} {E : Int} {A : Bool} (h : fpOk p l E A = false) : fpE p l E A = 2 ∧ fpL p l E A = [] := by simp [fpE, fpL, h]
theorem fgE_le (p : Nat) (r : List Nat) (E : Int) (A : Bool) : fgE p r E A ≤ 7 := by
  unfold fgE
  split
  · split
    · split <;> omega
    · omega
  · omega
end Go.Proofs.Ytjccmnmjbffikaa
