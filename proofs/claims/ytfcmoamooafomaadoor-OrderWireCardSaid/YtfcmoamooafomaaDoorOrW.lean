
/- What arbitrates on the wire, by keys. No program here. No conditions but the fields' own widths. -/
import Derived.Test.YtfcmoamooafomaaDoorOrP
import Derived.Test.YtfcmoamooafomaaDoorScK
namespace Go.Proofs.YtfcmoamooafomaaDoor
set_option linter.unusedVariables false
set_option linter.unusedSimpArgs false
open Go.RowKit

/-! On the wire. -/
theorem wF_head {f : Hd} {l : List Nat} (h : okF f l = true) (hI : 0 ≤ f.I) : ∃ T X, wF f l = putL (hdF f ++ T) ++ X ∧ arbF f l = (putL (hdF f)).length := by
  rcases okF_kind h with hk | hk | hk
  · have ho : okC f l = true := by simp [okC, hk, h]
    have n2 : ¬ f.K = 2 := by omega
    have n3 : ¬ f.K = 3 := by omega
    have e : hdF f = headC f.X f.R f.I.toNat := by
      unfold hdF hiF tlF headC
      simp only [n2, n3, if_false]
      cases f.X <;> rfl
    refine ⟨bitsN l.length 4 ++ bytesBits l ++ sumC 1 (preC f.X f.R f.I.toNat l), ones 10, ?_, ?_⟩
    · rw [wF, if_neg n2, if_neg n3, wireC, if_pos ho, bodyC, if_pos ho, e, bodyN]
      conv => lhs; rw [preC]
      simp only [List.append_assoc]
      rw [preC]
    · rw [arbF, if_neg n2, if_neg n3, wArbC, if_pos ho, e]
  · have ho : okD f l = true := by simp [okD, hk, h]
    obtain ⟨i, e1, e2, _, hi⟩ := okD_parts ho hI
    have hx : f.X = false := by rw [e1]
    have e : hdF f = headD f.I.toNat := by
      unfold hdF hiF tlF headD
      rw [hx, if_pos hk]
      rfl
    refine ⟨[bitB f.B, bitB f.E] ++ (bitsN (codeV 2 (l.length : Int)) 4 ++ bytesBits l), fixD l.length (putL (bdC f l)) (bdC f l) ++ ones 10, ?_, ?_⟩
    · rw [wF, if_pos hk, wdC, if_pos ho, rwD, List.append_assoc, e]
      congr 2
      rw [bdC, if_pos ho, bodyD]
    · rw [arbF, if_pos hk, wArbD, if_pos ho, e]
  · have ho : okX f l = true := by simp [okX, hk, h]
    obtain ⟨i, e1, e2, _, _, hi⟩ := okX_parts ho hI
    have hx : f.X = false := by rw [e1]
    have n2 : ¬ f.K = 2 := by omega
    have e : hdF f = headX f.I.toNat := by
      unfold hdF hiF tlF headX
      rw [hx, if_neg n2, if_pos hk]
      rfl
    refine ⟨[], startX ++ (fxPut 8 false 1 (bxC f l) ++ (stopX ++ ones 10)), ?_, ?_⟩
    · rw [wF, if_neg n2, if_pos hk, wxC, if_pos ho, rwX, e, List.append_nil]
      simp only [List.append_assoc]
    · rw [arbF, if_neg n2, if_pos hk, wArbX, if_pos ho, e]
/-- Where frames of other keys differ first on the wire. -/
theorem key_wire {f g : Hd} {l m : List Nat} (hf : okF f l = true) (hg : okF g m = true) (hI : 0 ≤ f.I) (hJ : 0 ≤ g.I) :
    (keyF f = keyF g ∧ arbF f l = arbF g m ∧ ∀ k, k < arbF f l → (wF f l).getD k 0 = (wF g m).getD k 0) ∨
    ∃ d, d < arbF f l ∧ d < arbF g m ∧ (∀ k, k < d → (wF f l).getD k 0 = (wF g m).getD k 0) ∧
      ((keyF f < keyF g ∧ (wF f l).getD d 0 = 0 ∧ (wF g m).getD d 0 = 1) ∨ (keyF g < keyF f ∧ (wF f l).getD d 0 = 1 ∧ (wF g m).getD d 0 = 0)) := by
  obtain ⟨T, X, y1, y2⟩ := wF_head hf hI
  obtain ⟨T', X', z1, z2⟩ := wF_head hg hJ
  have sf := shp_of hf hI
  have sg := shp_of hg hJ
  rw [y1, y2, z1, z2]
  rcases Nat.lt_trichotomy (keyF f) (keyF g) with h | h | h
  · obtain ⟨d, h1, h2, h3, h4, h5⟩ := wire_less_gen (T := T) (T' := T') (X := X) (X' := X') (hd_less sf sg h)
    exact .inr ⟨d, h1, h2, h3, .inl ⟨h, h4, h5⟩⟩
  · have e : hdF f = hdF g := by
      obtain ⟨k1, k2, k3, k4⟩ := key_same sf sg h
      unfold hdF hiF tlF
      rw [k1, k2, k3, k4]
    rw [e]
    refine .inl ⟨h, rfl, fun k hk => ?_⟩
    obtain ⟨Y, hY⟩ := putL_append (hdF g) T
    obtain ⟨Y', hY'⟩ := putL_append (hdF g) T'
    rw [hY, hY', List.append_assoc, List.append_assoc]
    simp [List.getD, List.getElem?_append_left hk]
  · obtain ⟨d, h1, h2, h3, h4, h5⟩ := wire_less_gen (T := T') (T' := T) (X := X') (X' := X) (hd_less sg sf h)
    exact .inr ⟨d, h2, h1, fun k hk => (h3 k hk).symm, .inr ⟨h, h5, h4⟩⟩
end Go.Proofs.YtfcmoamooafomaaDoor
