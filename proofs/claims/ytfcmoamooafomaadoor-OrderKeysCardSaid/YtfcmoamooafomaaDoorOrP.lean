
/- Frames' keys as numbers and as bits, and what arbitrates. No program here. No conditions but the fields' own widths. -/
import Derived.Test.YtfcmoamooafomaaDoorHpP
import Derived.Test.YtfcmoamooafomaaDoorClaP
namespace Go.Proofs.YtfcmoamooafomaaDoor
set_option linter.unusedVariables false
set_option linter.unusedSimpArgs false
open Go.RowKit

theorem numN_app (a b : List Nat) : numN (a ++ b) = numN a * 2 ^ b.length + numN b := by
  refine snocInd (P := fun b => numN (a ++ b) = numN a * 2 ^ b.length + numN b) (by simp [numN]) (fun l x ih => ?_) b
  rw [← List.append_assoc, numN_snoc, ih, numN_snoc, List.length_append, List.length_singleton, Nat.pow_succ, Nat.add_mul]
  rw [Nat.mul_assoc]
  omega

/-- A frame's key. -/
def keyS (K : Int) (R : Bool) (i : Nat) : Nat := i * 8388608 + bitB R * 4194304 + bitB (K != 1) * 1048576 + bitB (K == 3) * 524288
def keyX (R : Bool) (i : Nat) : Nat := i / 262144 * 8388608 + 6291456 + i % 262144 * 8 + bitB R * 4
def keyF (f : Hd) : Nat := if f.X then keyX f.R f.I.toNat else keyS f.K f.R f.I.toNat
def keyV (f : Hd) (l : List Nat) : Nat := if okF f l then keyF f else 0
def kbS (K : Int) (R : Bool) (i : Nat) : List Nat := bitsN i 11 ++ ([bitB R, 0, bitB (K != 1), bitB (K == 3)] ++ List.replicate 19 0)
def kbX (R : Bool) (i : Nat) : List Nat := bitsN (i / 262144) 11 ++ ([1, 1] ++ (bitsN (i % 262144) 18 ++ [bitB R, 0, 0]))
theorem kbS_len (K : Int) (R : Bool) (i : Nat) : (kbS K R i).length = 34 := by simp [kbS, bitsN_length]
theorem kbX_len (R : Bool) (i : Nat) : (kbX R i).length = 34 := by simp [kbX, bitsN_length]
theorem kbS_bit (K : Int) (R : Bool) (i : Nat) : ∀ x ∈ kbS K R i, x ≤ 1 := by
  intro x hx
  have h1 := bitB_le R
  have h2 := bitB_le (K != 1)
  have h3 := bitB_le (K == 3)
  simp only [kbS, List.mem_append, List.mem_cons, List.not_mem_nil, or_false, List.mem_replicate] at hx
  rcases hx with hx | (rfl | rfl | rfl | rfl) | hx
  · exact bitsN_le _ _ x hx
  all_goals omega
theorem kbX_bit (R : Bool) (i : Nat) : ∀ x ∈ kbX R i, x ≤ 1 := by
  intro x hx
  have h1 := bitB_le R
  simp only [kbX, List.mem_append, List.mem_cons, List.not_mem_nil, or_false] at hx
  rcases hx with hx | (rfl | rfl) | hx | (rfl | rfl | rfl)
  · exact bitsN_le _ _ x hx
  · omega
  · omega
  · exact bitsN_le _ _ x hx
  all_goals omega
theorem kbS_num (K : Int) (R : Bool) (i : Nat) (h : i < 2048) : numN (kbS K R i) = keyS K R i := by
  have h1 := numN_bitsN i 11 (by omega)
  have h2 : numN (List.replicate 19 0) = 0 := by decide
  have h3 : numN [bitB R, 0, bitB (K != 1), bitB (K == 3)] = bitB R * 8 + bitB (K != 1) * 2 + bitB (K == 3) := by
    simp only [numN, List.foldl]
    omega
  rw [kbS, numN_app, numN_app, h1, h2, h3, keyS]
  simp only [List.length_append, List.length_cons, List.length_nil, List.length_replicate]
  omega
theorem kbX_num (R : Bool) (i : Nat) (h : i < 536870912) : numN (kbX R i) = keyX R i := by
  have h1 := numN_bitsN (i / 262144) 11 (by omega)
  have h2 := numN_bitsN (i % 262144) 18 (by omega)
  have h3 : numN [bitB R, 0, 0] = bitB R * 4 := by
    simp only [numN, List.foldl]
    omega
  have h4 : numN [1, 1] = 3 := by decide
  rw [kbX, numN_app, numN_app, numN_app, h1, h2, h3, h4, keyX]
  simp only [List.length_append, List.length_cons, List.length_nil, bitsN_length]
  omega
theorem keyS_lt (K : Int) (R : Bool) (i : Nat) (h : i < 2048) : keyS K R i < 17179869184 := by
  have := numN_lt _ (kbS_bit K R i)
  rw [kbS_num K R i h, kbS_len] at this
  exact this
theorem keyX_lt (R : Bool) (i : Nat) (h : i < 536870912) : keyX R i < 17179869184 := by
  have := numN_lt _ (kbX_bit R i)
  rw [kbX_num R i h, kbX_len] at this
  exact this
theorem or_add (a b i : Nat) (h : b < 2 ^ i) (ha : a % 2 ^ i = 0) : a ||| b = a + b := by
  have e : a = 2 ^ i * (a / 2 ^ i) := by
    have := Nat.div_add_mod a (2 ^ i)
    omega
  rw [e, ← Nat.two_pow_add_eq_or_of_lt h]

/-- What frames that may be look like. -/
inductive Shp (f : Hd) : Prop
  | cl (h : f.K = 1) (hx : f.X = false) (hi : f.I.toNat < 2048)
  | cx (h : f.K = 1) (hx : f.X = true) (hi : f.I.toNat < 536870912)
  | fd (h : f.K = 2) (hx : f.X = false) (hr : f.R = false) (hi : f.I.toNat < 2048)
  | xl (h : f.K = 3) (hx : f.X = false) (hr : f.R = false) (hi : f.I.toNat < 2048)
theorem kind_of {f : Hd} {l : List Nat} (h : okF f l = true) : f.K = 1 ∨ f.K = 2 ∨ f.K = 3 := by
  simp only [okF, Bool.and_eq_true] at h
  exact hasF_kind h.1
theorem shp_of {f : Hd} {l : List Nat} (h : okF f l = true) (hI : 0 ≤ f.I) : Shp f := by
  have hk := kind_of h
  obtain ⟨K, I, X, R, B, E, S, D, V, A⟩ := f
  simp only at hk hI
  rcases hk with rfl | rfl | rfl
  · obtain ⟨i, _, e2, _, _, hx, hi⟩ := okC_parts (f := ⟨1, I, X, R, B, E, S, D, V, A⟩) (l := l) (by simp [okC, h]) hI
    cases X with
    | false => exact .cl rfl rfl (by rw [e2]; exact hx rfl)
    | true => exact .cx rfl rfl (by rw [e2]; exact hi)
  · rw [okF_fd] at h
    simp only [okFd, Bool.and_eq_true, Bool.not_eq_true', decide_eq_true_eq] at h
    obtain ⟨_, hi, rfl, rfl, _⟩ := h
    exact .fd rfl rfl rfl (by show I.toNat < 2048; omega)
  · rw [okF_xl] at h
    simp only [okXl, Bool.and_eq_true, Bool.not_eq_true', decide_eq_true_eq] at h
    obtain ⟨_, hi, rfl, rfl, _⟩ := h
    exact .xl rfl rfl rfl (by show I.toNat < 2048; omega)
theorem keyF_lt {f : Hd} (h : Shp f) : keyF f < 17179869184 := by
  unfold keyF
  cases h with
  | cl h hx hi => rw [hx]; exact keyS_lt _ _ _ hi
  | cx h hx hi => rw [hx]; exact keyX_lt _ _ hi
  | fd h hx hr hi => rw [hx]; exact keyS_lt _ _ _ hi
  | xl h hx hr hi => rw [hx]; exact keyS_lt _ _ _ hi

/-- What arbitrates, ahead of all stuffing. -/
def hiF (f : Hd) : Nat := if f.X then f.I.toNat / 262144 else f.I.toNat
def loF (f : Hd) : Nat := if f.X then 6291456 + f.I.toNat % 262144 * 8 + bitB f.R * 4 else bitB f.R * 4194304 + bitB (f.K != 1) * 1048576 + bitB (f.K == 3) * 524288
def tlF (f : Hd) : List Nat := if f.X then [1, 1] ++ (bitsN (f.I.toNat % 262144) 18 ++ [bitB f.R, 0, 0]) else if f.K = 2 then [0, 0, 1, 0] else if f.K = 3 then [0, 0, 1, 1, 0] else [bitB f.R, 0, 0]
def hdF (f : Hd) : List Nat := [0] ++ (bitsN (hiF f) 11 ++ tlF f)
theorem keyF_parts (f : Hd) : keyF f = hiF f * 8388608 + loF f := by
  unfold keyF hiF loF keyX keyS
  split <;> omega
theorem loF_lt {f : Hd} : loF f < 8388608 := by
  have h1 := bitB_le f.R
  have h2 := bitB_le (f.K != 1)
  have h3 := bitB_le (f.K == 3)
  unfold loF
  split <;> omega
theorem hiF_lt {f : Hd} (h : Shp f) : hiF f < 2048 := by
  unfold hiF
  cases h with
  | cl h hx hi => rw [hx]; exact hi
  | cx h hx hi => rw [hx]; show _ / _ < _; omega
  | fd h hx hr hi => rw [hx]; exact hi
  | xl h hx hr hi => rw [hx]; exact hi
/-- What tells a frame's tail. -/
theorem tl_of {f : Hd} (h : Shp f) :
    (f.X = true ∧ loF f = 6291456 + f.I.toNat % 262144 * 8 + bitB f.R * 4 ∧ tlF f = [1, 1] ++ (bitsN (f.I.toNat % 262144) 18 ++ [bitB f.R, 0, 0])) ∨
    (f.X = false ∧ f.K = 1 ∧ f.R = false ∧ loF f = 0 ∧ tlF f = [0, 0, 0]) ∨ (f.X = false ∧ f.K = 1 ∧ f.R = true ∧ loF f = 4194304 ∧ tlF f = [1, 0, 0]) ∨
    (f.X = false ∧ f.K = 2 ∧ f.R = false ∧ loF f = 1048576 ∧ tlF f = [0, 0, 1, 0]) ∨ (f.X = false ∧ f.K = 3 ∧ f.R = false ∧ loF f = 1572864 ∧ tlF f = [0, 0, 1, 1, 0]) := by
  unfold loF tlF
  cases h with
  | cl h hx hi => cases hr : f.R <;> simp [h, hx, bitB]
  | cx h hx hi => simp [h, hx]
  | fd h hx hr hi => simp [h, hx, hr, bitB]
  | xl h hx hr hi => simp [h, hx, hr, bitB]
theorem Less.at {a b : List Nat} (d : Nat) (h1 : d < a.length) (h2 : d < b.length) (h3 : a.take d = b.take d) (h4 : a.getD d 0 = 0) (h5 : b.getD d 0 = 1) : Less a b := ⟨d, h1, h2, h3, h4, h5⟩
theorem tl_less {f g : Hd} (hf : Shp f) (hg : Shp g) (h : loF f < loF g) : Less (tlF f) (tlF g) := by
  have b1 := bitB_le f.R
  have b2 := bitB_le g.R
  rcases tl_of hf with ⟨_, e1, e2⟩ | ⟨_, _, _, e1, e2⟩ | ⟨_, _, _, e1, e2⟩ | ⟨_, _, _, e1, e2⟩ | ⟨_, _, _, e1, e2⟩ <;>
  rcases tl_of hg with ⟨_, g1, g2⟩ | ⟨_, _, _, g1, g2⟩ | ⟨_, _, _, g1, g2⟩ | ⟨_, _, _, g1, g2⟩ | ⟨_, _, _, g1, g2⟩ <;>
  rw [e1, g1] at h <;> first | (exfalso; omega) | rw [e2, g2]
  · refine Less.pre ?_ _
    by_cases he : f.I.toNat % 262144 = g.I.toNat % 262144
    · rw [he]
      refine Less.pre (Less.at (a := [bitB f.R, 0, 0]) (b := [bitB g.R, 0, 0]) 0 (by simp) (by simp) rfl ?_ ?_) _
      · show bitB f.R = 0; omega
      · show bitB g.R = 1; omega
    · exact (bitsN_less 18 _ _ (by omega) (by omega)).post _ _
  all_goals first
    | exact Less.at 0 (by simp) (by simp) rfl rfl rfl
    | exact Less.at 1 (by simp) (by simp) rfl rfl rfl
    | exact Less.at 2 (by simp) (by simp) rfl rfl rfl
    | exact Less.at 3 (by simp) (by simp) rfl rfl rfl
theorem hd_less {f g : Hd} (hf : Shp f) (hg : Shp g) (h : keyF f < keyF g) : Less (hdF f) (hdF g) := by
  have l1 := loF_lt (f := f)
  have l2 := loF_lt (f := g)
  have m2 := hiF_lt hg
  rw [keyF_parts, keyF_parts] at h
  unfold hdF
  refine Less.pre ?_ _
  by_cases he : hiF f = hiF g
  · rw [he] at h ⊢
    exact (tl_less hf hg (by omega)).pre _
  · exact (bitsN_less 11 _ _ (by omega) (by omega)).post _ _
theorem shp_x {f : Hd} (h : Shp f) : f.X = true → f.K = 1 := fun hx => by
  cases h with
  | cl h _ _ => exact h
  | cx h _ _ => exact h
  | fd _ h _ _ => rw [h] at hx; cases hx
  | xl _ h _ _ => rw [h] at hx; cases hx
theorem key_same {f g : Hd} (hf : Shp f) (hg : Shp g) (h : keyF f = keyF g) : f.K = g.K ∧ f.I.toNat = g.I.toNat ∧ f.X = g.X ∧ f.R = g.R := by
  have l1 := loF_lt (f := f)
  have l2 := loF_lt (f := g)
  have b1 := bitB_le f.R
  have b2 := bitB_le g.R
  rw [keyF_parts, keyF_parts] at h
  have hh : hiF f = hiF g := by omega
  have hl : loF f = loF g := by omega
  clear h
  have k1 := shp_x hf
  have k2 := shp_x hg
  rcases tl_of hf with ⟨x1, e1, e2⟩ | ⟨x1, y1, z1, e1, e2⟩ | ⟨x1, y1, z1, e1, e2⟩ | ⟨x1, y1, z1, e1, e2⟩ | ⟨x1, y1, z1, e1, e2⟩ <;>
  rcases tl_of hg with ⟨x2, g1, g2⟩ | ⟨x2, y2, z2, g1, g2⟩ | ⟨x2, y2, z2, g1, g2⟩ | ⟨x2, y2, z2, g1, g2⟩ | ⟨x2, y2, z2, g1, g2⟩ <;>
  rw [e1, g1] at hl <;> first | (exfalso; omega) | skip
  · simp only [hiF, x1, x2, if_true] at hh
    refine ⟨by rw [k1 x1, k2 x2], by omega, by rw [x1, x2], ?_⟩
    have : bitB f.R = bitB g.R := by omega
    exact bitB_inj this
  all_goals
    simp only [hiF, x1, x2, Bool.false_eq_true, if_false] at hh
    exact ⟨by rw [y1, y2], hh, by rw [x1, x2], by rw [z1, z2]⟩

end Go.Proofs.YtfcmoamooafomaaDoor
