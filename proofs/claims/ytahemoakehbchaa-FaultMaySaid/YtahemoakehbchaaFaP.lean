
/- Error counters as numbers: what may be, how it is, what comes of an event. No program here. No conditions. -/
import Derived.Test.YtahemoakehbchaaVoc
namespace Go.Proofs.Ytahemoakehbchaa
set_option linter.unusedVariables false
set_option linter.unusedSimpArgs false
open Go.RowKit

/-- A node's counters. -/
structure Fa where
  T : Int
  R : Int
  O : Bool
@[ext] theorem Fa.ext' {a b : Fa} (h1 : a.T = b.T) (h2 : a.R = b.R) (h3 : a.O = b.O) : a = b := by
  cases a; cases b; simp_all
def Fa.zero : Fa := ⟨0, 0, false⟩
/-- Its cells. -/
def Fa.cs (s : Fa) : Array Value := #[.int .i64 s.T, .int .i64 s.R, .bool s.O]
/-- May it be? -/
def okFa (s : Fa) : Bool := decide (0 ≤ s.T) && (decide (s.T ≤ 263) && (decide (0 ≤ s.R) && (decide (s.R ≤ 255) && (s.O == decide (255 < s.T)))))
theorem okFa_iff (s : Fa) : okFa s = true ↔ 0 ≤ s.T ∧ s.T ≤ 263 ∧ 0 ≤ s.R ∧ s.R ≤ 255 ∧ s.O = decide (255 < s.T) := by
  simp [okFa]
def errFa (s : Fa) : Nat := if okFa s then 0 else 2
/-- How it is. -/
def isFa (s : Fa) : Nat := if s.O then 2 else if 127 < s.T ∨ 127 < s.R then 1 else 0
/-- What comes of an event. -/
def doFa (s : Fa) (e : Int) : Fa :=
  if s.O then (if e = 6 then Fa.zero else s)
  else if e = 1 then ⟨max 0 (s.T - 1), s.R, false⟩
  else if e = 2 then ⟨s.T, if 127 < s.R then 120 else max 0 (s.R - 1), false⟩
  else if e = 3 then ⟨s.T + 8, s.R, decide (255 < s.T + 8)⟩
  else if e = 4 then ⟨s.T, min 255 (s.R + 1), false⟩
  else if e = 5 then (if isFa s = 0 then ⟨s.T + 8, s.R, decide (255 < s.T + 8)⟩ else s)
  else s
def evOk (e : Int) : Bool := decide (1 ≤ e) && decide (e ≤ 6)
theorem evOk_iff (e : Int) : evOk e = true ↔ 1 ≤ e ∧ e ≤ 6 := by simp [evOk]
/-- Next: the state, the error. -/
def nxFa (s : Fa) (e : Int) : Fa := if okFa s && evOk e then doFa s e else Fa.zero
def nxE (s : Fa) (e : Int) : Nat := if okFa s && evOk e then 0 else 2
theorem doFa_ok {s : Fa} (h : okFa s = true) (e : Int) : okFa (doFa s e) = true := by
  obtain ⟨T, R, O⟩ := s
  rw [okFa_iff] at h ⊢
  simp only at h
  obtain ⟨h1, h2, h3, h4, h5⟩ := h
  unfold doFa isFa
  simp only
  cases O with
  | true =>
    have ht : 255 < T := by simpa using h5.symm
    simp only [if_true]
    split
    · simp [Fa.zero]
    · exact ⟨h1, h2, h3, h4, by simpa using ht⟩
  | false =>
    have ht : ¬ 255 < T := by simpa using h5.symm
    simp only [Bool.false_eq_true, if_false]
    split
    · refine ⟨?_, ?_, h3, h4, ?_⟩ <;> simp only <;> (try simp) <;> omega
    split
    · refine ⟨h1, h2, ?_, ?_, ?_⟩ <;> simp only <;> first | (split <;> omega) | (simp; omega)
    split
    · refine ⟨?_, ?_, h3, h4, ?_⟩ <;> simp only <;> omega
    split
    · refine ⟨h1, h2, ?_, ?_, ?_⟩ <;> simp only <;> first | omega | (simp; omega)
    split
    · by_cases hp : 127 < T ∨ 127 < R
      · rw [if_pos hp, if_neg (by omega)]
        exact ⟨h1, h2, h3, h4, by simp; omega⟩
      · rw [if_neg hp, if_pos rfl]
        refine ⟨?_, ?_, h3, h4, ?_⟩ <;> simp only <;> omega
    · exact ⟨h1, h2, h3, h4, by simp; omega⟩
/-- Off is told by the counter: what the document says of a state that may be. -/
theorem off_iff {s : Fa} (h : okFa s = true) : s.O = decide (255 < s.T) := ((okFa_iff s).1 h).2.2.2.2

/-! After: event by event. -/
def afFa (s : Fa) (l : List Int) : Fa := if okFa s && l.all evOk then l.foldl doFa s else Fa.zero
def afE (s : Fa) (l : List Int) : Nat := if okFa s && l.all evOk then 0 else 2
theorem fold_ok {s : Fa} (h : okFa s = true) (l : List Int) : okFa (l.foldl doFa s) = true := by
  induction l generalizing s with
  | nil => exact h
  | cons e l ih => exact ih (doFa_ok h e)
theorem afE_parts {s : Fa} {l m : List Int} (h : afE s l = 0) : afFa (afFa s l) m = afFa s (l ++ m) ∧ afE (afFa s l) m = afE s (l ++ m) := by
  unfold afE at h
  split at h
  · rename_i hc
    simp only [Bool.and_eq_true] at hc
    have e : afFa s l = l.foldl doFa s := by rw [afFa, if_pos (by simp [hc])]
    have o := fold_ok hc.1 l
    rw [e]
    unfold afFa afE
    rw [o, hc.1, List.all_append, hc.2]
    simp [List.foldl_append]
  · omega
theorem afE_bad {s : Fa} {l m : List Int} (h : afE s l ≠ 0) : afE s l = 2 ∧ afE s (l ++ m) = 2 := by
  unfold afE at h ⊢
  split at h
  · exact absurd rfl h
  · rename_i hc
    rw [if_neg hc]
    refine ⟨rfl, ?_⟩
    rw [if_neg]
    intro h2
    apply hc
    simp only [Bool.and_eq_true, List.all_append] at h2 ⊢
    exact ⟨h2.1, h2.2.1⟩

/-! What the laws ask. -/
/-- FaultMay. -/
theorem fa_may {s : Fa} (h : okFa s = true) (hO : s.O = false) {e : Int} (he : evOk e = true) :
    (doFa s e).T ≤ s.T + 8 ∧ (doFa s e).R ≤ s.R + 1 ∧ ((doFa s e).T < s.T → e = 1) ∧ ((doFa s e).R < s.R → e = 2) ∧ (s.T < (doFa s e).T ↔ e = 3 ∨ (e = 5 ∧ s.T ≤ 127 ∧ s.R ≤ 127)) := by
  obtain ⟨T, R, O⟩ := s
  simp only at hO
  subst hO
  obtain ⟨h1, h2, h3, h4, h5⟩ := (okFa_iff _).1 h
  simp only at h1 h2 h3 h4
  obtain ⟨g1, g2⟩ := (evOk_iff e).1 he
  unfold doFa isFa
  simp only [Bool.false_eq_true, if_false]
  rcases (by omega : e = 1 ∨ e = 2 ∨ e = 3 ∨ e = 4 ∨ e = 5 ∨ e = 6) with rfl | rfl | rfl | rfl | rfl | rfl
  · simp; omega
  · simp; split <;> omega
  · simp; omega
  · simp; omega
  · by_cases hp : 127 < T ∨ 127 < R
    · simp [hp]; omega
    · simp [hp]; omega
  · simp; omega
/-- Off: what is left, or a new one. -/
theorem fa_off {s : Fa} (hO : s.O = true) (e : Int) : doFa s e = if e = 6 then Fa.zero else s := by
  unfold doFa
  rw [if_pos hO]
/-- FaultOff: without errors in sending the counter falls. -/
theorem fa_low {s : Fa} (h : okFa s = true) (hO : s.O = false) {e : Int} (he : evOk e = true) (h3 : e ≠ 3) (h5 : e ≠ 5) : (doFa s e).O = false ∧ (doFa s e).T ≤ s.T := by
  have ok := doFa_ok h e
  have hm := (fa_may h hO he).2.2.2.2
  have hT : (doFa s e).T ≤ s.T := by
    by_cases hlt : s.T < (doFa s e).T
    · rcases hm.1 hlt with h1 | ⟨h1, _⟩
      · exact absurd h1 h3
      · exact absurd h1 h5
    · omega
  refine ⟨?_, hT⟩
  have o1 := off_iff h
  rw [hO] at o1
  have : ¬ 255 < s.T := by simpa using o1.symm
  rw [off_iff ok]
  simp; omega
/-- .. and errors in sending, one by one. -/
theorem fa_sends {s : Fa} (hO : s.O = false) : doFa s 3 = ⟨s.T + 8, s.R, decide (255 < s.T + 8)⟩ := by
  unfold doFa
  simp [hO]
theorem fold_sends (n : Nat) (s : Fa) (h : okFa s = true) (hn : s.T + 8 * n ≤ 255) : (List.replicate n (3 : Int)).foldl doFa s = ⟨s.T + 8 * n, s.R, false⟩ := by
  induction n generalizing s with
  | zero =>
    obtain ⟨T, R, O⟩ := s
    have := off_iff h
    simp only at this hn
    simp only [List.replicate_zero, List.foldl_nil, this, Fa.mk.injEq]
    refine ⟨by omega, trivial, ?_⟩
    simp; omega
  | succ n ih =>
    rw [List.replicate_succ, List.foldl_cons]
    have hO : s.O = false := by rw [off_iff h]; simp; omega
    rw [ih _ (doFa_ok h 3) (by rw [fa_sends hO]; simp only; omega), fa_sends hO]
    simp only [Fa.mk.injEq, and_true, true_and]
    omega
/-- FaultHeals: sent, n times. -/
theorem fold_sent (n : Nat) (s : Fa) (hO : s.O = false) (hn : (n : Int) ≤ s.T) : (List.replicate n (1 : Int)).foldl doFa s = ⟨s.T - n, s.R, false⟩ := by
  induction n generalizing s with
  | zero =>
    obtain ⟨T, R, O⟩ := s
    simp only at hO
    subst hO
    simp
  | succ n ih =>
    rw [List.replicate_succ, List.foldl_cons]
    have e : doFa s 1 = ⟨s.T - 1, s.R, false⟩ := by
      unfold doFa
      simp only [hO, Bool.false_eq_true, if_false, if_true, Fa.mk.injEq, and_true]
      omega
    rw [e, ih _ rfl (by simp only; omega)]
    simp only [Fa.mk.injEq, and_true]
    omega
theorem fa_heals {s : Fa} (h : okFa s = true) (hO : s.O = false) (n : Nat) (hn : (n : Int) = max 0 (s.T - 127)) :
    isFa (doFa ((List.replicate n (1 : Int)).foldl doFa s) 2) = 0 ∧ (0 < n → isFa (doFa ((List.replicate (n - 1) (1 : Int)).foldl doFa s) 2) = 1) := by
  obtain ⟨h1, h2, h3, h4, h5⟩ := (okFa_iff s).1 h
  constructor
  · rw [fold_sent n s hO (by omega)]
    unfold doFa isFa
    simp only [Bool.false_eq_true, if_false, show ¬ (2 : Int) = 1 by omega, if_true]
    rw [if_neg]
    intro hc
    rcases hc with hc | hc
    · omega
    · split at hc <;> omega
  · intro h0
    rw [fold_sent (n - 1) s hO (by omega)]
    unfold doFa isFa
    simp only [Bool.false_eq_true, if_false, show ¬ (2 : Int) = 1 by omega, if_true]
    rw [if_pos]
    left
    omega
end Go.Proofs.Ytahemoakehbchaa
