
/- Plain mathematics: a number's bits and bits' bytes are each other's inverses. No program. -/
import Derived.Test.YtaiplhlcldbnkaaDoorChk
/-
  Plain: bits' bytes.
-/
namespace Go.Proofs.YtaiplhlcldbnkaaDoor
set_option linter.unusedVariables false
set_option linter.unusedSimpArgs false

def packN (l : List Nat) : List Nat := (List.range (l.length / 8)).map fun i => numN ((l.drop (8 * i)).take 8)
def octStep (l : List Nat) (s x : Nat) : List Nat := if s % 8 = 0 then l ++ [x] else l.set (l.length - 1) (l.getD (l.length - 1) 0 * 2 + x)
def octsK (l : List Nat) : Nat → List Nat
  | 0 => []
  | k + 1 => octStep (octsK l k) k (l.getD k 0)

theorem octsK_spec (l : List Nat) : ∀ k, k ≤ l.length → (octsK l k).length = (k + 7) / 8 ∧ ∀ i, i < (k + 7) / 8 → (octsK l k).getD i 0 = numN ((l.drop (8 * i)).take (min 8 (k - 8 * i))) := by
  intro k
  induction k with
  | zero => intro _; exact ⟨rfl, fun i hi => by omega⟩
  | succ k ih =>
    intro hk
    obtain ⟨h1, h2⟩ := ih (by omega)
    obtain ⟨x, hx⟩ : ∃ x, l[k]? = some x := ⟨l[k], by simp⟩
    have hxd : l.getD k 0 = x := by simp [List.getD, hx]
    by_cases h8 : k % 8 = 0
    · simp only [octsK, octStep, h8, if_true, hxd]
      refine ⟨by rw [List.length_append, h1, List.length_singleton]; omega, fun i hi => ?_⟩
      by_cases hi2 : i < (k + 7) / 8
      · have e : (octsK l k ++ [x]).getD i 0 = (octsK l k).getD i 0 := by simp [List.getD, List.getElem?_append_left (by omega : i < (octsK l k).length)]
        rw [e, h2 i hi2, show min 8 (k - 8 * i) = 8 from by omega, show min 8 (k + 1 - 8 * i) = 8 from by omega]
      · have hi3 : i = (k + 7) / 8 := by omega
        have e : (octsK l k ++ [x]).getD i 0 = x := by simp [List.getD, hi3, ← h1]
        rw [e, show min 8 (k + 1 - 8 * i) = 0 + 1 from by omega, take_snoc' (x := x) (by rw [List.getElem?_drop, show 8 * i + 0 = k from by omega]; exact hx)]
        simp [numN]
    · simp only [octsK, octStep, h8, if_false, hxd]
      have hl : (octsK l k).length - 1 = k / 8 := by omega
      refine ⟨by rw [List.length_set, h1]; omega, fun i hi => ?_⟩
      by_cases hi2 : i = k / 8
      · subst hi2
        rw [hl]
        have e : ((octsK l k).set (k / 8) ((octsK l k).getD (k / 8) 0 * 2 + x)).getD (k / 8) 0 = (octsK l k).getD (k / 8) 0 * 2 + x := by simp [List.getD, List.getElem?_set_self (by omega : k / 8 < (octsK l k).length)]
        rw [e, h2 (k / 8) (by omega), show min 8 (k + 1 - 8 * (k / 8)) = (k - 8 * (k / 8)) + 1 from by omega, show min 8 (k - 8 * (k / 8)) = k - 8 * (k / 8) from by omega,
          take_snoc' (x := x) (by rw [List.getElem?_drop, show 8 * (k / 8) + (k - 8 * (k / 8)) = k from by omega]; exact hx), numN_snoc]
      · rw [hl]
        have e : ((octsK l k).set (k / 8) ((octsK l k).getD (k / 8) 0 * 2 + x)).getD i 0 = (octsK l k).getD i 0 := by simp [List.getD, List.getElem?_set_ne (by omega : k / 8 ≠ i)]
        rw [e, h2 i (by omega), show min 8 (k - 8 * i) = 8 from by omega, show min 8 (k + 1 - 8 * i) = 8 from by omega]

theorem octsK_last (l : List Nat) (hb : ∀ x ∈ l, x ≤ 1) (k : Nat) (hk : k ≤ l.length) (h8 : k % 8 ≠ 0) : (octsK l k).getD ((octsK l k).length - 1) 0 < 128 := by
  obtain ⟨h1, h2⟩ := octsK_spec l k hk
  rw [h2 _ (by omega)]
  have := numN_lt ((l.drop (8 * ((octsK l k).length - 1))).take (min 8 (k - 8 * ((octsK l k).length - 1)))) (fun x hx => hb x (List.mem_of_mem_drop (List.mem_of_mem_take hx)))
  refine Nat.lt_of_lt_of_le this ?_
  refine Nat.le_trans (Nat.pow_le_pow_right (by omega) (?_ : _ ≤ 7)) (by decide)
  rw [List.length_take]
  omega

theorem octsK_full (l : List Nat) (h8 : l.length % 8 = 0) : octsK l l.length = packN l := by
  obtain ⟨h1, h2⟩ := octsK_spec l l.length (Nat.le_refl _)
  apply List.ext_getElem?
  intro i
  by_cases hi : i < l.length / 8
  · have h3 := h2 i (by omega)
    have e1 : (octsK l l.length)[i]? = some ((octsK l l.length).getD i 0) := by simp [List.getD, (by omega : i < (octsK l l.length).length)]
    rw [e1, h3]
    simp only [packN, List.getElem?_map, List.getElem?_range hi, Option.map_some, Option.some.injEq]
    rw [show min 8 (l.length - 8 * i) = 8 from by omega]
  · rw [List.getElem?_eq_none (by omega), List.getElem?_eq_none (by simp [packN]; omega)]

theorem packN_length (l : List Nat) : (packN l).length = l.length / 8 := by simp [packN]
theorem packN_lt (l : List Nat) (hb : ∀ x ∈ l, x ≤ 1) : ∀ x ∈ packN l, x < 256 := by
  intro x hx
  obtain ⟨i, _, rfl⟩ := List.mem_map.1 hx
  have := numN_lt ((l.drop (8 * i)).take 8) (fun x hx => hb x (List.mem_of_mem_drop (List.mem_of_mem_take hx)))
  refine Nat.lt_of_lt_of_le this (Nat.le_trans (Nat.pow_le_pow_right (by omega) (?_ : _ ≤ 8)) (by decide))
  rw [List.length_take]
  omega

theorem bitsN_numN (l : List Nat) (hb : ∀ x ∈ l, x ≤ 1) : bitsN (numN l) l.length = l := by
  apply List.ext_getElem?
  intro i
  by_cases hi : i < l.length
  · simp only [bitsN, List.getElem?_map, List.getElem?_range hi, Option.map_some]
    have key : ∀ (m : Nat) (l : List Nat), l.length = m → (∀ x ∈ l, x ≤ 1) → ∀ i, i < m → numN l / 2 ^ (m - 1 - i) % 2 = l.getD i 0 := by
      intro m
      induction m with
      | zero => intro l _ _ i hi; omega
      | succ m ih =>
        intro l hl hb i hi
        have hs : l = l.take m ++ [l.getD m 0] := by
          have := take_snoc' (l := l) (k := m) (x := l.getD m 0) (by simp [List.getD, hl])
          rw [List.take_of_length_le (by omega)] at this
          exact this
        have hlast : l.getD m 0 ≤ 1 := by
          have : l.getD m 0 ∈ l := by simp [List.getD, hl]
          exact hb _ this
        rw [hs, numN_snoc]
        by_cases him : i = m
        · subst him
          have e : (l.take i ++ [l.getD i 0]).getD i 0 = l.getD i 0 := by rw [← hs]
          rw [e, show i + 1 - 1 - i = 0 from by omega, Nat.pow_zero, Nat.div_one]
          omega
        · have e : (l.take m ++ [l.getD m 0]).getD i 0 = (l.take m).getD i 0 := by
            simp only [List.getD]
            rw [List.getElem?_append_left (by rw [List.length_take]; omega)]
          rw [e, show m + 1 - 1 - i = (m - 1 - i) + 1 from by omega, Nat.pow_succ, Nat.mul_comm (2 ^ (m - 1 - i)) 2, ← Nat.div_div_eq_div_mul, show (numN (l.take m) * 2 + l.getD m 0) / 2 = numN (l.take m) from by omega]
          exact ih (l.take m) (by rw [List.length_take]; omega) (fun x hx => hb x (List.mem_of_mem_take hx)) i (by omega)
    rw [key l.length l rfl hb i hi]
    simp [List.getD, hi]
  · rw [List.getElem?_eq_none (by simp [bitsN_length]; omega), List.getElem?_eq_none (by omega)]

theorem numN_bitsN (n size : Nat) (hn : n < 2 ^ size) : numN (bitsN n size) = n := by
  have key : ∀ k, k ≤ size → numN ((bitsN n size).take k) = n / 2 ^ (size - k) := by
    intro k
    induction k with
    | zero => intro _; rw [Nat.sub_zero, Nat.div_eq_of_lt hn]; simp [numN]
    | succ k ih =>
      intro hk
      rw [bitsN_take_succ n size k (by omega), numN_snoc, ih (by omega), show size - k = (size - 1 - k) + 1 from by omega, show size - (k + 1) = size - 1 - k from by omega, Nat.pow_succ, ← Nat.div_div_eq_div_mul]
      omega
  have := key size (Nat.le_refl _)
  rw [List.take_of_length_le (by rw [bitsN_length]; exact Nat.le_refl _)] at this
  simpa using this

theorem packN_bytes (l : List Nat) (hl : ∀ x ∈ l, x < 256) : packN (l.flatMap fun x => bitsN x 8) = l := by
  have hlen : ∀ l : List Nat, (l.flatMap fun x => bitsN x 8).length = 8 * l.length := by
    intro l
    induction l with
    | nil => rfl
    | cons x l ih => rw [List.flatMap_cons, List.length_append, ih, bitsN_length, List.length_cons]; omega
  have hch : ∀ (l : List Nat) (i : Nat) (x : Nat), l[i]? = some x → ((l.flatMap fun x => bitsN x 8).drop (8 * i)).take 8 = bitsN x 8 := by
    intro l
    induction l with
    | nil => intro i x h; simp at h
    | cons y l ih =>
      intro i x h
      cases i with
      | zero =>
        simp at h
        subst h
        rw [List.flatMap_cons, Nat.mul_zero, List.drop_zero, List.take_left' (bitsN_length _ _)]
      | succ i =>
        rw [List.getElem?_cons_succ] at h
        rw [List.flatMap_cons, show 8 * (i + 1) = 8 + 8 * i from by omega, ← List.drop_drop, List.drop_left' (bitsN_length _ _)]
        exact ih i x h
  apply List.ext_getElem?
  intro i
  by_cases hi : i < l.length
  · have h8 : (l.flatMap fun x => bitsN x 8).length / 8 = l.length := by rw [hlen]; omega
    simp only [packN, List.getElem?_map, h8, List.getElem?_range hi, Option.map_some]
    rw [hch l i l[i] (by simp [hi]), numN_bitsN _ _ (hl _ (List.getElem_mem hi))]
    simp [hi]
  · rw [List.getElem?_eq_none (by rw [packN_length, hlen]; omega), List.getElem?_eq_none (by omega)]

theorem bytes_packN (l : List Nat) (hb : ∀ x ∈ l, x ≤ 1) (h8 : l.length % 8 = 0) : ((packN l).flatMap fun x => bitsN x 8) = l := by
  have key : ∀ m, m ≤ l.length / 8 → (((packN l).take m).flatMap fun x => bitsN x 8) = l.take (8 * m) := by
    intro m
    induction m with
    | zero => intro _; simp
    | succ m ih =>
      intro hm
      have hx : (packN l)[m]? = some (numN ((l.drop (8 * m)).take 8)) := by
        simp only [packN, List.getElem?_map, List.getElem?_range (by omega : m < l.length / 8), Option.map_some]
      have hlen8 : ((l.drop (8 * m)).take 8).length = 8 := by rw [List.length_take, List.length_drop]; omega
      have hbn := bitsN_numN ((l.drop (8 * m)).take 8) (fun x hx => hb x (List.mem_of_mem_drop (List.mem_of_mem_take hx)))
      rw [hlen8] at hbn
      rw [take_snoc' hx, List.flatMap_append, ih (by omega), List.flatMap_singleton, hbn, show 8 * (m + 1) = 8 * m + 8 from by omega, List.take_add]
  have := key (l.length / 8) (Nat.le_refl _)
  rw [List.take_of_length_le (by rw [packN_length]; exact Nat.le_refl _), List.take_of_length_le (by omega)] at this
  exact this
end Go.Proofs.YtaiplhlcldbnkaaDoor
