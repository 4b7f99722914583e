/- Bits with stuff bits behind each so many, and what they tell, as functions on lists. No conditions. Contracts of package fixed's state: begin, due, add, stuff, plain. No conditions but small numbers. How many bits are left up to a stuff bit, how many raw bits there are, tallies: lists alone. No conditions. Contracts of package fixed's Size and Put. No conditions. Contracts of tallies: package fixed's Tally and Tells. No conditions. -/
import Derived.Test.YtfcmoamooafomaaDoorGs
import Derived.Test.YtfcmoamooafomaaDoorGa
namespace Go.Proofs.YtfcmoamooafomaaDoor
set_option linter.unusedVariables false
set_option linter.unusedSimpArgs false
open Go.RowKit

/-- Is a stuff bit ahead of bit number n? -/
def dueF (E : Nat) (A : Bool) (n : Nat) : Bool := if n = 0 then A else decide (n % E = 0)
/-- The last raw bit, or the one ahead of all. -/
def lastP (p : Nat) (l : List Nat) : Nat := if l = [] then p else l.getD (l.length - 1) 0
theorem lastP_nil (p : Nat) : lastP p [] = p := rfl
theorem lastP_snoc (p : Nat) (l : List Nat) (b : Nat) : lastP p (l ++ [b]) = b := by simp [lastP]
theorem lastP_append (p : Nat) (l m : List Nat) : lastP p (l ++ m) = lastP (lastP p l) m := by
  by_cases h : m = []
  · subst h; simp [lastP]
  · unfold lastP
    rw [if_neg (by simp [h]), if_neg h]
    have : 0 < m.length := List.length_pos_iff.2 h
    simp only [List.getD, List.length_append]
    rw [List.getElem?_append_right (by omega)]
    congr 2
    omega
theorem lastP_le {p : Nat} {l : List Nat} (hp : p ≤ 1) (h : ∀ x ∈ l, x ≤ 1) : lastP p l ≤ 1 := by
  unfold lastP
  split
  · exact hp
  · rename_i hl
    have hp : l.length - 1 < l.length := by have := List.length_pos_iff.2 hl; omega
    exact h _ (List.mem_of_getElem? (i := l.length - 1) (by simp [List.getD, List.getElem?_eq_getElem hp]))

/-- Bits with stuff bits behind each E, and ahead if A is so. -/
def fxStep (E : Nat) (A : Bool) (p : Nat) (s : Nat × List Nat) (b : Nat) : Nat × List Nat := (s.1 + 1, if dueF E A s.1 then s.2 ++ [1 - lastP p s.2, b] else s.2 ++ [b])
theorem fxStep_eq (E : Nat) (A : Bool) (p : Nat) (s : Nat × List Nat) (b : Nat) : fxStep E A p s b = (s.1 + 1, if dueF E A s.1 then s.2 ++ [1 - lastP p s.2, b] else s.2 ++ [b]) := rfl
def fxPut (E : Nat) (A : Bool) (p : Nat) (l : List Nat) : List Nat := (l.foldl (fxStep E A p) (0, [])).2
theorem fx_fst (E : Nat) (A : Bool) (p : Nat) (l : List Nat) : ∀ s : Nat × List Nat, (l.foldl (fxStep E A p) s).1 = s.1 + l.length := by
  induction l with
  | nil => intro s; rfl
  | cons b l ih => intro s; rw [List.foldl_cons, ih]; simp [fxStep]; omega
theorem fxPut_nil (E : Nat) (A : Bool) (p : Nat) : fxPut E A p [] = [] := rfl
theorem fxPut_snoc (E : Nat) (A : Bool) (p : Nat) (l : List Nat) (b : Nat) : fxPut E A p (l ++ [b]) = if dueF E A l.length then fxPut E A p l ++ [1 - lastP p (fxPut E A p l), b] else fxPut E A p l ++ [b] := by
  have h := fx_fst E A p l (0, [])
  unfold fxPut
  rw [List.foldl_append, List.foldl_cons, List.foldl_nil, fxStep_eq, h]
  simp

theorem fxPut_bit {E : Nat} {A : Bool} {p : Nat} {l : List Nat} : (∀ x ∈ l, x ≤ 1) → ∀ x ∈ fxPut E A p l, x ≤ 1 := by
  refine snocInd (P := fun l => (∀ x ∈ l, x ≤ 1) → ∀ x ∈ fxPut E A p l, x ≤ 1) (by simp [fxPut]) (fun l b ih hl => ?_) l
  have ih := ih (fun x hx => hl x (by simp [hx]))
  have hb := hl b (by simp)
  rw [fxPut_snoc]
  split
  · intro x hx
    rcases List.mem_append.1 hx with h | h
    · exact ih x h
    · simp at h; omega
  · intro x hx
    rcases List.mem_append.1 hx with h | h
    · exact ih x h
    · simp at h; omega

/-- How many raw bits n bits have. -/
def szF (E : Nat) (A : Bool) (n : Nat) : Nat := if n = 0 then 0 else n + (n - 1) / E + A.toNat
theorem div_step {E n : Nat} (hn : 0 < n) : n / E = (n - 1) / E + (if n % E = 0 then 1 else 0) := by
  obtain ⟨m, rfl⟩ : ∃ m, n = m + 1 := ⟨n - 1, by omega⟩
  rw [Nat.add_sub_cancel, Nat.succ_div]
  simp only [Nat.dvd_iff_mod_eq_zero]
theorem fxPut_len {E : Nat} (A : Bool) (p : Nat) (l : List Nat) : (fxPut E A p l).length = szF E A l.length := by
  refine snocInd (P := fun l => (fxPut E A p l).length = szF E A l.length) (by simp [fxPut, szF]) (fun l b ih => ?_) l
  rw [fxPut_snoc, List.length_append, List.length_singleton]
  have hs : szF E A (l.length + 1) = szF E A l.length + 1 + (dueF E A l.length).toNat := by
    unfold szF dueF
    by_cases h0 : l.length = 0
    · rw [if_neg (by omega), if_pos h0, if_pos h0, h0]
      simp
    · rw [if_neg (by omega), if_neg h0, if_neg h0, Nat.add_sub_cancel, div_step (by omega : 0 < l.length)]
      by_cases hm : l.length % E = 0
      · simp [hm]; omega
      · simp [hm]; omega
  rw [hs, ← ih]
  split
  · rename_i h; rw [h]; simp
  · rename_i h; rw [Bool.not_eq_true] at h; rw [h]; simp

/-- Reading: is a stuff bit due, what was told, was the last one a stuff bit, the bit ahead, was each stuff bit one. -/
structure FxS where
  due : Bool
  out : List Nat
  last : Bool
  prev : Nat
  ok : Bool
def fgStep (E : Nat) (s : FxS) (b : Nat) : FxS :=
  { due := !s.due && decide ((s.out ++ [b]).length % E = 0), out := if s.due then s.out else s.out ++ [b], last := s.due, prev := b, ok := s.ok && !(s.due && b == s.prev) }
def fgS (E : Nat) (A : Bool) (p : Nat) (l : List Nat) : FxS := l.foldl (fgStep E) ⟨A, [], false, p, true⟩
theorem fgS_snoc (E : Nat) (A : Bool) (p : Nat) (l : List Nat) (b : Nat) : fgS E A p (l ++ [b]) = fgStep E (fgS E A p l) b := by simp [fgS]
theorem fgS_nil (E : Nat) (A : Bool) (p : Nat) : fgS E A p [] = ⟨A, [], false, p, true⟩ := rfl
theorem fgS_prev (E : Nat) (A : Bool) (p : Nat) (l : List Nat) : (fgS E A p l).prev = lastP p l := by
  refine snocInd (P := fun l => (fgS E A p l).prev = lastP p l) rfl (fun l b _ => ?_) l
  rw [fgS_snoc, lastP_snoc]
  rfl
theorem fgS_len (E : Nat) (A : Bool) (p : Nat) (l : List Nat) : (fgS E A p l).out.length ≤ l.length := by
  refine snocInd (P := fun l => (fgS E A p l).out.length ≤ l.length) (by simp [fgS]) (fun l b ih => ?_) l
  rw [fgS_snoc]
  unfold fgStep
  simp only
  split <;> simp <;> omega
theorem fgS_due (E : Nat) (A : Bool) (p : Nat) (l : List Nat) : (fgS E A p l).due = (!(fgS E A p l).last && dueF E A (fgS E A p l).out.length) := by
  refine snocInd (P := fun l => (fgS E A p l).due = (!(fgS E A p l).last && dueF E A (fgS E A p l).out.length)) (by simp [fgS, dueF]) (fun l b ih => ?_) l
  rw [fgS_snoc]
  unfold fgStep
  simp only
  cases hd : (fgS E A p l).due with
  | true => simp
  | false => simp [dueF]
theorem fgS_ok_left (E : Nat) (A : Bool) (p : Nat) (l m : List Nat) : (fgS E A p (l ++ m)).ok = true → (fgS E A p l).ok = true := by
  refine snocInd (P := fun m => (fgS E A p (l ++ m)).ok = true → (fgS E A p l).ok = true) (by simp) (fun m b ih h => ?_) m
  rw [← List.append_assoc, fgS_snoc] at h
  unfold fgStep at h
  simp only [Bool.and_eq_true] at h
  exact ih h.1
theorem fgS_bit {E : Nat} {A : Bool} {p : Nat} {l : List Nat} : (∀ x ∈ l, x ≤ 1) → ∀ x ∈ (fgS E A p l).out, x ≤ 1 := by
  refine snocInd (P := fun l => (∀ x ∈ l, x ≤ 1) → ∀ x ∈ (fgS E A p l).out, x ≤ 1) (by simp [fgS]) (fun l b ih hl => ?_) l
  have ih := ih (fun x hx => hl x (by simp [hx]))
  have hb := hl b (by simp)
  rw [fgS_snoc]
  unfold fgStep
  simp only
  split
  · exact ih
  · intro x hx
    rcases List.mem_append.1 hx with h | h
    · exact ih x h
    · simp at h; omega

/-- What is put is got. -/
theorem fg_put {E : Nat} {A : Bool} {p : Nat} (hp : p ≤ 1) {l : List Nat} : (∀ x ∈ l, x ≤ 1) → (fgS E A p (fxPut E A p l)).out = l ∧ (fgS E A p (fxPut E A p l)).last = false ∧ (fgS E A p (fxPut E A p l)).ok = true ∧ (fgS E A p (fxPut E A p l)).due = dueF E A l.length := by
  refine snocInd (P := fun l => (∀ x ∈ l, x ≤ 1) → (fgS E A p (fxPut E A p l)).out = l ∧ (fgS E A p (fxPut E A p l)).last = false ∧ (fgS E A p (fxPut E A p l)).ok = true ∧ (fgS E A p (fxPut E A p l)).due = dueF E A l.length) (by simp [fxPut, fgS, dueF]) (fun l b ih hl => ?_) l
  have hl' : ∀ x ∈ l, x ≤ 1 := fun x hx => hl x (by simp [hx])
  obtain ⟨i1, i2, i3, i4⟩ := ih hl'
  have hle := lastP_le hp (fxPut_bit (E := E) (A := A) (p := p) hl')
  have hpv := fgS_prev E A p (fxPut E A p l)
  rw [fxPut_snoc]
  cases hd : dueF E A l.length with
  | true =>
    rw [if_pos rfl, show fxPut E A p l ++ [1 - lastP p (fxPut E A p l), b] = (fxPut E A p l ++ [1 - lastP p (fxPut E A p l)]) ++ [b] from by simp, fgS_snoc, fgS_snoc]
    unfold fgStep
    simp only [i1, i3, i4, hd, hpv]
    simp [dueF]
    omega
  | false =>
    simp only [Bool.false_eq_true, if_false]
    rw [fgS_snoc]
    unfold fgStep
    simp only [i1, i3, i4, hd, hpv]
    simp [dueF]

/-- What is got is put as it was. -/
theorem put_fg {E : Nat} {A : Bool} {p : Nat} (hp : p ≤ 1) {l : List Nat} : (∀ x ∈ l, x ≤ 1) → (fgS E A p l).ok = true →
    ((fgS E A p l).last = false → fxPut E A p (fgS E A p l).out = l) ∧ ((fgS E A p l).last = true → dueF E A (fgS E A p l).out.length = true ∧ fxPut E A p (fgS E A p l).out ++ [1 - lastP p (fxPut E A p (fgS E A p l).out)] = l) := by
  refine snocInd (P := fun l => (∀ x ∈ l, x ≤ 1) → (fgS E A p l).ok = true → ((fgS E A p l).last = false → fxPut E A p (fgS E A p l).out = l) ∧ ((fgS E A p l).last = true → dueF E A (fgS E A p l).out.length = true ∧ fxPut E A p (fgS E A p l).out ++ [1 - lastP p (fxPut E A p (fgS E A p l).out)] = l)) (by simp [fxPut, fgS]) (fun l b ih hl ho => ?_) l
  have hl' : ∀ x ∈ l, x ≤ 1 := fun x hx => hl x (by simp [hx])
  have hb := hl b (by simp)
  have hle := lastP_le hp hl'
  have hpv := fgS_prev E A p l
  have hdue := fgS_due E A p l
  rw [fgS_snoc] at ho ⊢
  unfold fgStep at ho ⊢
  simp only [Bool.and_eq_true, Bool.not_eq_true', Bool.and_eq_false_iff, beq_eq_false_iff_ne, hpv] at ho
  simp only
  obtain ⟨i1, i2⟩ := ih hl' ho.1
  cases hd : (fgS E A p l).due with
  | true =>
    rw [hd] at hdue
    have hs := hdue.symm
    rw [Bool.and_eq_true, Bool.not_eq_true'] at hs
    refine ⟨by simp, fun _ => ?_⟩
    rw [if_pos rfl, i1 hs.1]
    refine ⟨hs.2, ?_⟩
    rcases ho.2 with h | h
    · rw [hd] at h; cases h
    · rw [show 1 - lastP p l = b from by omega]
  | false =>
    refine ⟨fun _ => ?_, by simp⟩
    simp only [Bool.false_eq_true, if_false]
    rw [fxPut_snoc]
    cases hs : (fgS E A p l).last with
    | true =>
      obtain ⟨j1, j2⟩ := i2 hs
      rw [j1, if_pos rfl]
      conv => rhs; rw [← j2]
      simp
    | false =>
      rw [hd, hs] at hdue
      rw [Bool.not_false, Bool.true_and] at hdue
      rw [← hdue, i1 hs]
      simp

/-- A stuff bit turned. -/
theorem fg_turned {E : Nat} {A : Bool} {p : Nat} (hp : p ≤ 1) {x : List Nat} {i y : Nat} (hx : ∀ z ∈ x, z ≤ 1) (ho : (fgS E A p x).ok = true) (hi : i < x.length) (hd : (fgS E A p (x.take i)).due = true) (hy : y ≤ 1) (hne : y ≠ x.getD i 0) : (fgS E A p (x.set i y)).ok = false := by
  cases hq : (fgS E A p (x.set i y)).ok with
  | false => rfl
  | true =>
    have h1 := hq
    rw [← List.take_append_drop (i + 1) (x.set i y)] at h1
    have h1 := fgS_ok_left _ _ _ _ _ h1
    have h2 := ho
    rw [← List.take_append_drop (i + 1) x] at h2
    have h2 := fgS_ok_left _ _ _ _ _ h2
    have e0 : (x.set i y).take i = x.take i := List.take_set_of_le (Nat.le_refl _)
    have e1 : (x.set i y).take (i + 1) = x.take i ++ [y] := by
      rw [take_snoc' (x := y) (by simp [hi]), e0]
    have e2 : x.take (i + 1) = x.take i ++ [x.getD i 0] := take_snoc' (by simp [List.getD, List.getElem?_eq_getElem hi])
    have hpv := fgS_prev E A p (x.take i)
    have hle := lastP_le hp (l := x.take i) (fun z hz => hx z (List.mem_of_mem_take hz))
    have h4 : x.getD i 0 ≤ 1 := hx _ (List.mem_of_getElem? (i := i) (by simp [List.getD, List.getElem?_eq_getElem hi]))
    rw [e1, fgS_snoc] at h1
    rw [e2, fgS_snoc] at h2
    unfold fgStep at h1 h2
    simp only [hd, hpv, Bool.true_and, Bool.and_eq_true, Bool.not_eq_true', beq_eq_false_iff_ne] at h1 h2
    omega

/-- Each raw bit is a bit or a stuff bit. -/
theorem fg_count {E : Nat} {A : Bool} {p : Nat} (l : List Nat) (b : Nat) : (fgS E A p (l ++ [b])).out.length = (fgS E A p l).out.length + (if (fgS E A p l).due then 0 else 1) := by
  rw [fgS_snoc]
  unfold fgStep
  simp only
  split <;> simp

/-- Whole parts, one behind the other. -/
theorem fx_parts {E : Nat} (A : Bool) (p : Nat) {l1 : List Nat} (h1 : 0 < l1.length) (hm : l1.length % E = 0) (l2 : List Nat) : fxPut E A p (l1 ++ l2) = fxPut E A p l1 ++ fxPut E true (lastP p (fxPut E A p l1)) l2 := by
  refine snocInd (P := fun l2 => fxPut E A p (l1 ++ l2) = fxPut E A p l1 ++ fxPut E true (lastP p (fxPut E A p l1)) l2) (by simp [fxPut_nil]) (fun l2 b ih => ?_) l2
  rw [← List.append_assoc, fxPut_snoc, ih, fxPut_snoc]
  have hd : dueF E A (l1 ++ l2).length = dueF E true l2.length := by
    unfold dueF
    rw [List.length_append, if_neg (by omega)]
    by_cases h0 : l2.length = 0
    · rw [if_pos h0, h0, Nat.add_zero, hm]; rfl
    · rw [if_neg h0, Nat.add_mod, hm, Nat.zero_add, Nat.mod_mod]
  rw [hd, lastP_append]
  split <;> simp
end Go.Proofs.YtfcmoamooafomaaDoor

namespace Go.Proofs.YtfcmoamooafomaaDoor
set_option linter.unusedVariables false
set_option linter.unusedSimpArgs false
open Go.RowKit

/-- A state in block R. -/
def StA (w : World) (R : Nat) (E lf ls sz : Nat) : Prop := Blk w R #[.int .i64 E, .int .i64 lf, .int .i64 ls, .int .i64 sz] 144
theorem StA.keep {F : Nat → Prop} {w w' : World} {R E lf ls sz : Nat} (h : StA w R E lf ls sz) (hk : Kp F w w') (hn : ¬ F R) : StA w' R E lf ls sz := Blk.keep h hk hn

/-- What a step of a state leaves. -/
def StStep (w : World) (R E lf ls sz : Nat) (w' : World) : Prop := StA w' R E lf ls sz ∧ Kp (fun k => k = R) w w'

theorem StStep.drew {w : World} {R E lf ls sz : Nat} {w' : World} (h : StStep w R E lf ls sz w') : StStep w R E lf ls sz w'.drew :=
  ⟨h.1, h.2.tr (F' := fun k => k = R) (Kp.ofNb (Nb.drewN w' 1)) (fun _ h => .inl h)⟩

set_option maxHeartbeats 800000 in
set_option maxRecDepth 100000 in
theorem fxdue_any (R E lf ls sz : Nat) (w : World) (h : StA w R E lf ls sz) :
    Calls Tryd.prog 81 #[.pointer (some ⟨R, 0, none⟩)] w fun e w' => e = .returned (.bool (decide (lf = 0))) ∧ w = w' := by
  have c1 : w.cell? ⟨R, 1, none⟩ = some (.int .i64 lf) := Blk.cell h 1
  have hd : ((lf : Int) == 0) = decide (lf = 0) := by
    by_cases h : lf = 0
    · subst h; rfl
    · rw [decide_eq_false h, beq_eq_false_iff_ne]; omega
  go_enter Tryd.func81, Tryd.ntmps81
  go_wp2
  go_ret
  exact ⟨rfl, rfl⟩

set_option maxHeartbeats 800000 in
set_option maxRecDepth 100000 in
theorem fxadd_any (R E lf ls sz b : Nat) (w : World) (h : StA w R E lf ls sz) (hs : sz ≤ 1000000) :
    Calls Tryd.prog 94 #[.pointer (some ⟨R, 0, none⟩), .int .i64 b] w fun e w' => e = .returned (.tuple #[]) ∧ StStep w R E lf b (sz + 1) w' := by
  have c2 : w.cell? ⟨R, 2, none⟩ = some (.int .i64 ls) := Blk.cell h 2
  have c3 : w.cell? ⟨R, 3, none⟩ = some (.int .i64 sz) := Blk.cell h 3
  have f2 := Blk.frozen h 2
  have f3 := Blk.frozen h 3
  have hfin : StStep w R E lf b (sz + 1) ((w.setCell ⟨R, 2, none⟩ (.int .i64 b)).setCell ⟨R, 3, none⟩ (.int .i64 ((sz : Int) + 1))) := by
    refine ⟨?_, (Kp.set (F := fun k => k = R) rfl).tr (Kp.set (F := fun k => k = R) rfl) (fun k h => .inl h)⟩
    have := (Blk.set h 2 (.int .i64 b)).set 3 (.int .i64 ((sz : Int) + 1))
    simpa [StA] using this
  have HF := Lib.hid hfin
  clear hfin h
  go_enter Tryd.func94, Tryd.ntmps94
  go_wp2
  go_region
  go_wp2
  go_end0
  exact ⟨rfl, by simpa using HF.out.drew⟩

theorem cast_sub1 {n : Nat} (h : n ≤ 1) : (1 : Int) - (n : Int) = ((1 - n : Nat) : Int) := by omega
theorem cast_pred {n : Nat} (h : 1 ≤ n) : (n : Int) - 1 = ((n - 1 : Nat) : Int) := by omega

set_option maxHeartbeats 800000 in
set_option maxRecDepth 100000 in
/-- A stuff bit. -/
theorem fxstuff_any (R E lf ls sz : Nat) (w : World) (h : StA w R E lf ls sz) (hs : sz ≤ 1000000) (hl : ls ≤ 1) :
    Calls Tryd.prog 82 #[.pointer (some ⟨R, 0, none⟩)] w fun e w' => e = .returned (.int .u8 ((1 - ls : Nat) : Int)) ∧ StStep w R E E (1 - ls) (sz + 1) w' := by
  have c2 : w.cell? ⟨R, 2, none⟩ = some (.int .i64 ls) := Blk.cell h 2
  have H := Lib.hid h
  have HC := Lib.hid (cast_sub1 hl)
  obtain ⟨q, hq⟩ : ∃ q, q = 1 - ls := ⟨_, rfl⟩
  have hq1 : q ≤ 1 := by omega
  rw [← hq] at HC ⊢
  clear h hq
  go_enter Tryd.func82, Tryd.ntmps82
  go_wp2_with fail
  rw [HC.out]
  refine (fxadd_any R E lf ls sz q w H.out hs).mono ?_
  rintro e w1 ⟨rfl, h1, hk⟩
  have d0 : w1.cell? ⟨R, 0, none⟩ = some (.int .i64 E) := Blk.cell h1 0
  have d1 : w1.cell? ⟨R, 1, none⟩ = some (.int .i64 lf) := Blk.cell h1 1
  have d2 : w1.cell? ⟨R, 2, none⟩ = some (.int .i64 q) := Blk.cell h1 2
  have f1 := Blk.frozen h1 1
  have hfin : StStep w R E E q (sz + 1) (w1.setCell ⟨R, 1, none⟩ (.int .i64 E)) := by
    refine ⟨?_, hk.tr (Kp.set (F := fun k => k = R) rfl) (fun k h => .inl h)⟩
    have := Blk.set h1 1 (.int .i64 E)
    simpa [StA] using this
  have HF := Lib.hid hfin
  clear hfin h1 hk HC H c2
  go_wp2
  go_region
  go_wp2
  go_ret
  exact ⟨rfl, by simpa using HF.out.drew⟩

set_option maxHeartbeats 800000 in
set_option maxRecDepth 100000 in
/-- A bit that is none. -/
theorem fxplain_any (R E lf ls sz b : Nat) (w : World) (h : StA w R E lf ls sz) (hs : sz ≤ 1000000) (hb : b < 256) (hl : 1 ≤ lf) (hlf : lf ≤ 64) :
    Calls Tryd.prog 83 #[.pointer (some ⟨R, 0, none⟩), .int .u8 b] w fun e w' => e = .returned (.tuple #[]) ∧ StStep w R E (lf - 1) b (sz + 1) w' := by
  have H := Lib.hid h
  have HC := Lib.hid (cast_pred hl)
  clear h
  go_enter Tryd.func83, Tryd.ntmps83
  go_wp2_with fail
  refine (fxadd_any R E lf ls sz b w H.out hs).mono ?_
  rintro e w1 ⟨rfl, h1, hk⟩
  have d1 : w1.cell? ⟨R, 1, none⟩ = some (.int .i64 lf) := Blk.cell h1 1
  have f1 := Blk.frozen h1 1
  have hfin : StStep w R E (lf - 1) b (sz + 1) (w1.setCell ⟨R, 1, none⟩ (.int .i64 ((lf : Int) - 1))) := by
    refine ⟨?_, hk.tr (Kp.set (F := fun k => k = R) rfl) (fun k h => .inl h)⟩
    have := Blk.set h1 1 (.int .i64 ((lf : Int) - 1))
    rw [HC.out] at this ⊢
    simpa [StA] using this
  have HF := Lib.hid hfin
  clear hfin h1 hk HC H
  go_wp2
  go_region
  go_wp2
  go_end0
  exact ⟨rfl, by simpa using HF.out.drew⟩

/-- May a state begin so? -/
def bgOk (p : Nat) (E : Int) : Bool := decide (p ≤ 1) && decide (1 ≤ E) && decide (E ≤ 64)

set_option maxHeartbeats 800000 in
set_option maxRecDepth 100000 in
theorem fxbegin_bad (p : Nat) (E : Int) (A : Bool) (w : World) (hp : p < 256) (h : bgOk p E = false) :
    Calls Tryd.prog 78 #[.int .u8 p, .agg #[.int .i64 E, .bool A]] w fun e w' => e = .returned (.tuple #[.pointer none, .int .i64 2]) ∧ Nb w w' := by
  have h' : ¬ (p ≤ 1 ∧ 1 ≤ E ∧ E ≤ 64) := by
    intro ⟨h1, h2, h3⟩
    simp [bgOk, h1, h2, h3] at h
  clear h
  by_cases h1 : p ≤ 1
  · by_cases h2 : 1 ≤ E
    · have h3 : 64 < E := by omega
      clear h'
      go_enter Tryd.func78, Tryd.ntmps78
      go_wp2
      go_ret2
      exact ⟨rfl, Nb.rfl.al _⟩
    · have h2 : E < 1 := by omega
      clear h'
      go_enter Tryd.func78, Tryd.ntmps78
      go_wp2
      go_ret2
      exact ⟨rfl, Nb.rfl.al _⟩
  · clear h'
    go_enter Tryd.func78, Tryd.ntmps78
    go_wp2
    go_ret2
    exact ⟨rfl, Nb.rfl.al _⟩

set_option maxHeartbeats 800000 in
set_option maxRecDepth 100000 in
theorem fxbegin_ok (p E : Nat) (A : Bool) (w : World) (hp : p ≤ 1) (h1 : 1 ≤ E) (h2 : E ≤ 64) :
    Calls Tryd.prog 78 #[.int .u8 p, .agg #[.int .i64 E, .bool A]] w fun e w' => (∃ R, e = .returned (.tuple #[.pointer (some ⟨R, 0, none⟩), .int .i64 0]) ∧ StA w' R E (if A then 0 else E) p 0 ∧ w.heap.size ≤ R) ∧ Nb w w' := by
  cases A with
  | false =>
    go_enter Tryd.func78, Tryd.ntmps78
    go_wp2
    go_ret2
    refine ⟨⟨w.heap.size + 1, rfl, ?_, by omega⟩, (Nb.rfl.al _).al _⟩
    have := Blk.new (w.alloc (.cells #[.int .i64 E, .bool false] 91)) #[.int .i64 E, .int .i64 (if false then 0 else E : Nat), .int .i64 p, .int .i64 0] 144
    simpa [StA] using this
  | true =>
    go_enter Tryd.func78, Tryd.ntmps78
    go_wp2
    go_ret2
    refine ⟨⟨w.heap.size + 1, rfl, ?_, by omega⟩, (Nb.rfl.al _).al _⟩
    have := Blk.new (w.alloc (.cells #[.int .i64 E, .bool true] 91)) #[.int .i64 E, .int .i64 (if true then 0 else E : Nat), .int .i64 p, .int .i64 0] 144
    simpa [StA] using this
end Go.Proofs.YtfcmoamooafomaaDoor

namespace Go.Proofs.YtfcmoamooafomaaDoor
set_option linter.unusedVariables false
set_option linter.unusedSimpArgs false
open Go.RowKit

/-- How many bits are left up to the next stuff bit, ahead of bit number n. -/
def leftF (E : Nat) (A : Bool) (n : Nat) : Nat := if n = 0 then (if A then 0 else E) else (E - n % E) % E
theorem leftF_zero (E : Nat) (A : Bool) : leftF E A 0 = if A then 0 else E := rfl
theorem leftF_le {E : Nat} (A : Bool) (n : Nat) : leftF E A n ≤ E := by
  unfold leftF
  split
  · split <;> omega
  · by_cases h : E = 0
    · subst h; simp
    · exact Nat.le_of_lt (Nat.mod_lt _ (by omega))
theorem leftF_due {E : Nat} (hE : 1 ≤ E) (A : Bool) (n : Nat) : decide (leftF E A n = 0) = dueF E A n := by
  unfold leftF dueF
  by_cases h0 : n = 0
  · rw [if_pos h0, if_pos h0]
    cases A with
    | true => rfl
    | false => simp; omega
  · rw [if_neg h0, if_neg h0]
    have hlt := Nat.mod_lt n (show 0 < E by omega)
    by_cases hm : n % E = 0
    · rw [hm, Nat.sub_zero, Nat.mod_self]
    · rw [Nat.mod_eq_of_lt (by omega)]
      rw [decide_eq_false hm, decide_eq_false (by omega)]
theorem leftF_succ {E : Nat} (hE : 1 ≤ E) (A : Bool) (n : Nat) : leftF E A (n + 1) = (if dueF E A n then E else leftF E A n) - 1 := by
  unfold leftF dueF
  rw [if_neg (by omega)]
  have hlt := Nat.mod_lt n (show 0 < E by omega)
  have hs : (n + 1) % E = if n % E + 1 = E then 0 else n % E + 1 := by
    rw [Nat.add_mod]
    by_cases h1 : E = 1
    · subst h1; simp [Nat.mod_one]
    · rw [Nat.mod_eq_of_lt (show 1 < E by omega)]
      by_cases h : n % E + 1 = E
      · rw [if_pos h, h, Nat.mod_self]
      · rw [if_neg h, Nat.mod_eq_of_lt (by omega)]
  rw [hs]
  by_cases h0 : n = 0
  · subst h0
    rw [Nat.zero_mod, if_pos rfl]
    have e : (if (if 0 = 0 then A else decide True) = true then E else (if 0 = 0 then (if A = true then 0 else E) else (E - 0) % E)) - 1 = E - 1 := by cases A <;> simp
    by_cases h1 : 0 + 1 = E
    · rw [if_pos h1, Nat.sub_zero, Nat.mod_self]
      cases A <;> simp <;> omega
    · rw [if_neg h1, Nat.mod_eq_of_lt (by omega)]
      cases A <;> simp
  · rw [if_neg h0, if_neg h0]
    by_cases hm : n % E = 0
    · simp only [hm, decide_true, if_true]
      by_cases h1 : 0 + 1 = E
      · rw [if_pos h1, Nat.sub_zero, Nat.mod_self]; omega
      · rw [if_neg h1, Nat.mod_eq_of_lt (by omega)]
    · simp only [hm, decide_false, Bool.false_eq_true, if_false]
      rw [Nat.mod_eq_of_lt (show E - n % E < E by omega)]
      by_cases h1 : n % E + 1 = E
      · rw [if_pos h1, Nat.sub_zero, Nat.mod_self]; omega
      · rw [if_neg h1, Nat.mod_eq_of_lt (by omega)]; omega
theorem leftF_pos {E : Nat} (hE : 1 ≤ E) {A : Bool} {n : Nat} (h : dueF E A n = false) : 1 ≤ leftF E A n := by
  have := leftF_due hE A n
  rw [h] at this
  have := of_decide_eq_false this
  omega

theorem szF_zero (E : Nat) (A : Bool) : szF E A 0 = 0 := rfl
theorem szF_succ {E : Nat} (A : Bool) (n : Nat) : szF E A (n + 1) = szF E A n + 1 + (if dueF E A n then 1 else 0) := by
  unfold szF dueF
  by_cases h0 : n = 0
  · rw [if_neg (by omega), if_pos h0, if_pos h0, h0]
    cases A <;> simp
  · rw [if_neg (by omega), if_neg h0, if_neg h0, Nat.add_sub_cancel, div_step (by omega : 0 < n)]
    by_cases hm : n % E = 0
    · simp [hm]; omega
    · simp [hm]; omega
theorem szF_le (E : Nat) (A : Bool) (n : Nat) : szF E A n ≤ 2 * n + 1 := by
  unfold szF
  split
  · omega
  · have := Nat.div_le_self (n - 1) E
    have := Bool.toNat_le A
    omega
theorem szF_le2 (E : Nat) (A : Bool) (n : Nat) : szF E A n ≤ 2 * n := by
  unfold szF
  split
  · omega
  · have := Nat.div_le_self (n - 1) E
    have := Bool.toNat_le A
    omega
theorem szF_ge (E : Nat) (A : Bool) (n : Nat) : n ≤ szF E A n := by
  unfold szF
  generalize (n - 1) / E = q
  split <;> omega

/-- The bits left, while reading. -/
def leftG (E : Nat) (A : Bool) (s : FxS) : Nat := if s.last then E else leftF E A s.out.length
theorem fgS_last (E : Nat) (A : Bool) (p : Nat) (l : List Nat) : (fgS E A p l).last = true → dueF E A (fgS E A p l).out.length = true := by
  refine snocInd (P := fun l => (fgS E A p l).last = true → dueF E A (fgS E A p l).out.length = true) (by simp [fgS]) (fun l b _ => ?_) l
  have hd := fgS_due E A p l
  rw [fgS_snoc]
  unfold fgStep
  simp only
  intro h
  rw [h] at hd
  rw [if_pos h]
  have := hd.symm
  rw [Bool.and_eq_true] at this
  exact this.2
theorem leftG_due {E : Nat} (hE : 1 ≤ E) (A : Bool) (p : Nat) (l : List Nat) : decide (leftG E A (fgS E A p l) = 0) = (fgS E A p l).due := by
  rw [fgS_due]
  unfold leftG
  cases (fgS E A p l).last with
  | true => simp; omega
  | false => simp only [Bool.false_eq_true, if_false, Bool.not_false, Bool.true_and]; exact leftF_due hE A _
theorem leftG_pos {E : Nat} (hE : 1 ≤ E) {A : Bool} {p : Nat} {l : List Nat} (h : (fgS E A p l).due = false) : 1 ≤ leftG E A (fgS E A p l) := by
  have := leftG_due hE A p l
  rw [h] at this
  have := of_decide_eq_false this
  omega
theorem leftG_le {E : Nat} (A : Bool) (s : FxS) : leftG E A s ≤ E := by
  unfold leftG
  split
  · exact Nat.le_refl _
  · exact leftF_le A _
theorem leftG_stuff {E : Nat} {A : Bool} {p : Nat} {l : List Nat} (b : Nat) (h : (fgS E A p l).due = true) : leftG E A (fgS E A p (l ++ [b])) = E := by
  rw [fgS_snoc]
  unfold leftG fgStep
  simp only [h, if_true]
theorem leftG_plain {E : Nat} (hE : 1 ≤ E) {A : Bool} {p : Nat} {l : List Nat} (b : Nat) (h : (fgS E A p l).due = false) : leftG E A (fgS E A p (l ++ [b])) = leftG E A (fgS E A p l) - 1 := by
  have hl := fgS_last E A p l
  have hd := fgS_due E A p l
  rw [h] at hd
  rw [fgS_snoc]
  unfold leftG fgStep
  simp only [h, Bool.false_eq_true, if_false, List.length_append, List.length_singleton]
  rw [leftF_succ hE]
  cases hs : (fgS E A p l).last with
  | true => rw [hl hs]
  | false =>
    rw [hs] at hd
    rw [← (by simpa using hd : false = dueF E A (fgS E A p l).out.length)]

/-! Tallies. -/
def tallyL (n : Nat) : List Nat := bitsN ((2 * (n % 8)) ^^^ (n % 8)) 4
theorem tallyL_mod (n : Nat) : tallyL n = tallyL (n % 8) := by unfold tallyL; rw [Nat.mod_mod]
/-- Twice the number, and the last bit, of so many bits of a tally. -/
def tellS (l : List Nat) : Nat × Nat := l.foldl (fun s b => (2 * s.1 + (s.2 + b) % 2, (s.2 + b) % 2)) (0, 0)
theorem tellS_snoc (l : List Nat) (b : Nat) : tellS (l ++ [b]) = (2 * (tellS l).1 + ((tellS l).2 + b) % 2, ((tellS l).2 + b) % 2) := by simp [tellS]
theorem tellS_odd (l : List Nat) : (tellS l).2 ≤ 1 := by
  refine snocInd (P := fun l => (tellS l).2 ≤ 1) (by simp [tellS]) (fun l b _ => ?_) l
  rw [tellS_snoc]
  simp only
  omega
theorem tellS_lt (l : List Nat) : (tellS l).1 < 2 ^ l.length := by
  refine snocInd (P := fun l => (tellS l).1 < 2 ^ l.length) (by simp [tellS]) (fun l b ih => ?_) l
  rw [tellS_snoc, List.length_append, List.length_singleton, Nat.pow_succ]
  simp only
  omega
theorem four_bits {l : List Nat} (h4 : l.length = 4) (hb : ∀ x ∈ l, x ≤ 1) : ∃ a b c d, l = [a, b, c, d] ∧ a ≤ 1 ∧ b ≤ 1 ∧ c ≤ 1 ∧ d ≤ 1 := by
  match l, h4 with
  | [a, b, c, d], _ => exact ⟨a, b, c, d, rfl, hb a (by simp), hb b (by simp), hb c (by simp), hb d (by simp)⟩
def tlOk (l : List Nat) : Bool := decide (l.length = 4) && chk l
def tlE (l : List Nat) : Nat := if tlOk l then (if (tellS l).2 = 1 then 6 else 0) else 2
def tlN (l : List Nat) : Nat := if tlE l = 0 then (tellS l).1 / 2 else 0
theorem tl_four {l : List Nat} (h4 : l.length = 4) (hb : ∀ x ∈ l, x ≤ 1) : (∀ k, k < 8 → (l = tallyL k ↔ (tellS l).2 = 0 ∧ (tellS l).1 / 2 = k)) ∧ ((tellS l).2 = 0 → (tellS l).1 / 2 < 8) := by
  obtain ⟨a, b, c, d, rfl, ha, hb, hc, hd⟩ := four_bits h4 hb
  rcases (by omega : a = 0 ∨ a = 1) with rfl | rfl <;> rcases (by omega : b = 0 ∨ b = 1) with rfl | rfl <;> rcases (by omega : c = 0 ∨ c = 1) with rfl | rfl <;> rcases (by omega : d = 0 ∨ d = 1) with rfl | rfl <;> decide
theorem tallyL_len (n : Nat) : (tallyL n).length = 4 := bitsN_length _ _
theorem tallyL_bit (n : Nat) : ∀ x ∈ tallyL n, x ≤ 1 := fun x hx => by have := bitsN_lt _ _ x hx; omega
theorem tallyL_tells (n : Nat) : tlE (tallyL n) = 0 ∧ tlN (tallyL n) = n % 8 := by
  have h := (tl_four (tallyL_len n) (tallyL_bit n)).1 (n % 8) (Nat.mod_lt _ (by omega))
  have h := h.1 (tallyL_mod n)
  have ho : tlOk (tallyL n) = true := by
    simp only [tlOk, tallyL_len, decide_true, Bool.true_and, chk, Bool.and_eq_true, decide_eq_true_eq, List.all_eq_true]
    exact ⟨by omega, tallyL_bit n⟩
  have e : tlE (tallyL n) = 0 := by simp [tlE, ho, h.1]
  exact ⟨e, by simp [tlN, e, h.2]⟩
/-- A bit turned in a tally. -/
theorem tally_turned (n k : Nat) (hk : k < 4) : tlE ((tallyL n).set k ((tallyL n).getD k 0 ^^^ 1)) = 6 := by
  rw [tallyL_mod]
  have h8 := Nat.mod_lt n (show 0 < 8 by omega)
  generalize n % 8 = r at *
  rcases (by omega : k = 0 ∨ k = 1 ∨ k = 2 ∨ k = 3) with rfl | rfl | rfl | rfl <;>
    rcases (by omega : r = 0 ∨ r = 1 ∨ r = 2 ∨ r = 3 ∨ r = 4 ∨ r = 5 ∨ r = 6 ∨ r = 7) with rfl | rfl | rfl | rfl | rfl | rfl | rfl | rfl <;> decide
/-- In how many of the first k places two rows differ. -/
def dif (a b : List Nat) (k : Nat) : Nat := (List.range k).countP fun i => a.getD i 0 != b.getD i 0
theorem dif_succ (a b : List Nat) (k : Nat) : dif a b (k + 1) = dif a b k + (if a.getD k 0 = b.getD k 0 then 0 else 1) := by
  unfold dif
  rw [List.range_succ, List.countP_append]
  congr 1
  by_cases h : a.getD k 0 = b.getD k 0
  · rw [if_pos h, List.countP_singleton, if_neg (by rw [h]; simp)]
  · rw [if_neg h, List.countP_singleton, if_pos (by rw [bne_iff_ne]; exact h)]
theorem dif_le (a b : List Nat) (k : Nat) : dif a b k ≤ k := by
  unfold dif
  have := List.countP_le_length (p := fun i => a.getD i 0 != b.getD i 0) (l := List.range k)
  rwa [List.length_range] at this
theorem dif_tally (n : Nat) : dif (tallyL n) (tallyL (n + 1)) 4 = 2 := by
  rw [tallyL_mod n, tallyL_mod (n + 1), Nat.add_mod]
  have h8 := Nat.mod_lt n (show 0 < 8 by omega)
  generalize n % 8 = r at *
  rcases (by omega : r = 0 ∨ r = 1 ∨ r = 2 ∨ r = 3 ∨ r = 4 ∨ r = 5 ∨ r = 6 ∨ r = 7) with rfl | rfl | rfl | rfl | rfl | rfl | rfl | rfl <;> decide
end Go.Proofs.YtfcmoamooafomaaDoor

namespace Go.Proofs.YtfcmoamooafomaaDoor
set_option linter.unusedVariables false
set_option linter.unusedSimpArgs false
open Go.RowKit

/-! Size's answers. -/
def fzOk (n E : Int) : Bool := bgOk 0 E && decide (0 ≤ n) && decide (n ≤ 65536)
def fzE (n E : Int) : Nat := if fzOk n E then 0 else 2
def fzN (n E : Int) (A : Bool) : Nat := if fzOk n E then szF E.toNat A n.toNat else 0
theorem bgOk_nat {p : Nat} {E : Int} (h : bgOk p E = true) : ∃ m : Nat, E = m ∧ 1 ≤ m ∧ m ≤ 64 ∧ p ≤ 1 := by
  simp only [bgOk, Bool.and_eq_true, decide_eq_true_eq] at h
  obtain ⟨m, rfl⟩ := Int.eq_ofNat_of_zero_le (by omega : 0 ≤ E)
  exact ⟨m, rfl, by omega, by omega, h.1.1⟩
theorem bgOk_of {p E : Nat} (hp : p ≤ 1) (h1 : 1 ≤ E) (h2 : E ≤ 64) : bgOk p E = true := by
  simp only [bgOk, Bool.and_eq_true, decide_eq_true_eq]
  omega

set_option maxHeartbeats 1600000 in
set_option maxRecDepth 100000 in
theorem fxsize_bad (n E : Int) (A : Bool) (w : World) (h : fzOk n E = false) :
    Calls Tryd.prog 80 #[.int .i64 n, .agg #[.int .i64 E, .bool A]] w fun e w' => e = .returned (.tuple #[.int .i64 0, .int .i64 2]) ∧ Nb w w' := by
  cases hb : bgOk 0 E with
  | false =>
    have HB := Lib.hid hb
    clear h hb
    go_enter Tryd.func80, Tryd.ntmps80
    go_wp2_with fail
    refine (fxbegin_bad 0 E A _ (by omega) HB.out).mono ?_
    rintro e w1 ⟨rfl, hnb⟩
    go_wp2
    go_ret2
    exact ⟨rfl, (Nb.rfl.al _).tr hnb⟩
  | true =>
    obtain ⟨m, rfl, h1, h2, _⟩ := bgOk_nat hb
    have hn : n < 0 ∨ 65536 < n := by
      simp only [fzOk, hb, Bool.true_and, Bool.and_eq_false_iff, decide_eq_false_iff_not] at h
      omega
    clear h hb
    by_cases h0 : n < 0
    · clear hn
      go_enter Tryd.func80, Tryd.ntmps80
      go_wp2_with fail
      refine (fxbegin_ok 0 m A _ (by omega) h1 h2).mono ?_
      rintro e w1 ⟨⟨R, rfl, hst, hR⟩, hnb⟩
      clear hst
      go_wp2
      go_ret2
      exact ⟨rfl, (Nb.rfl.al _).tr hnb⟩
    · have hn : 65536 < n := by omega
      go_enter Tryd.func80, Tryd.ntmps80
      go_wp2_with fail
      refine (fxbegin_ok 0 m A _ (by omega) h1 h2).mono ?_
      rintro e w1 ⟨⟨R, rfl, hst, hR⟩, hnb⟩
      clear hst
      go_wp2
      go_ret2
      exact ⟨rfl, (Nb.rfl.al _).tr hnb⟩

set_option maxHeartbeats 1600000 in
set_option maxRecDepth 100000 in
theorem fxsize_ok (n E : Nat) (A : Bool) (w : World) (hn : n ≤ 65536) (h1 : 1 ≤ E) (h2 : E ≤ 64) :
    Calls Tryd.prog 80 #[.int .i64 n, .agg #[.int .i64 E, .bool A]] w fun e w' => e = .returned (.tuple #[.int .i64 (szF E A n), .int .i64 0]) ∧ Nb w w' := by
  have d1 : decide ((n : Int) < 0) = false := by simp
  have d2 : decide (65536 < (n : Int)) = false := by simp; omega
  go_enter Tryd.func80, Tryd.ntmps80
  go_wp2_with fail
  refine (fxbegin_ok 0 E A _ (by omega) h1 h2).mono ?_
  rintro e w1 ⟨⟨R, rfl, hst, hR⟩, hnb⟩
  have hnb1 : Nb w w1 := (Nb.rfl.al _).tr hnb
  have hR1 : w.heap.size ≤ R := by simp at hR; omega
  have HS := Lib.hid hst
  have HN := Lib.hid hnb1
  clear hst hnb hR hnb1
  go_wp2
  go_loopw [24] (fun i wr => ∃ k : Nat, k ≤ n ∧ i = .int .i64 k ∧ StA wr R E (leftF E A k) 0 (szF E A k) ∧ Nb w wr) (fun i _ => n - (intOf i).toNat)
  case atStart => exact ⟨0, Nat.zero_le _, rfl, HS.out, HN.out⟩
  case round =>
    obtain ⟨k, hk, rfl, hst, hnb⟩ := hrel
    clear HS HN
    by_cases hlt : k < n
    · have hsz := szF_le2 E A k
      have hss := szF_succ (E := E) A k
      have hls := leftF_succ h1 A k
      have hdd := leftF_due h1 A k
      have hle := leftF_le (E := E) A k
      cases hd : dueF E A k with
      | true =>
        rw [hd] at hss hls hdd
        simp only [if_true] at hss hls
        have H := Lib.hid hst
        have HSS := Lib.hid hss
        have HLS := Lib.hid hls
        have HDD := Lib.hid hdd
        have HNB := Lib.hid hnb
        clear hst hss hls hdd hnb hd
        go_wp2_with fail
        refine (fxdue_any R E _ 0 _ wr H.out).mono ?_
        rintro e w2 ⟨rfl, rfl⟩
        rw [HDD.out]
        go_wp2_with fail
        refine (fxstuff_any R E _ 0 _ _ H.out (by omega) (by omega)).mono ?_
        rintro e w3 ⟨rfl, hs3, hk3⟩
        have H3 := Lib.hid hs3
        have HK3 := Lib.hid hk3
        clear hs3 hk3
        go_wp2_with fail
        refine (fxplain_any R E E _ _ 0 _ H3.out (by omega) (by omega) h1 h2).mono ?_
        rintro e w4 ⟨rfl, hs4, hk4⟩
        have H4 := Lib.hid hs4
        have HN4 : Hid (Nb w w4) := Lib.hid (HNB.out.trans ((HK3.out.tr hk4 (fun _ h => .inl h)).toBelow HNB.out.size (fun k h => by omega)))
        clear hs4 hk4
        go_wp2
        go_roundw
        case rel => exact ⟨k + 1, by omega, by go_num, by rw [HSS.out, HLS.out]; exact H4.out, HN4.out⟩
        case measure => simp [intOf]; omega
      | false =>
        have hpos := leftF_pos h1 hd
        rw [hd] at hss hls hdd
        simp only [Bool.false_eq_true, if_false, Nat.add_zero] at hss hls
        have H := Lib.hid hst
        have HSS := Lib.hid hss
        have HLS := Lib.hid hls
        have HDD := Lib.hid hdd
        have HNB := Lib.hid hnb
        clear hst hss hls hdd hnb hd
        go_wp2_with fail
        refine (fxdue_any R E _ 0 _ wr H.out).mono ?_
        rintro e w2 ⟨rfl, rfl⟩
        rw [HDD.out]
        go_wp2_with fail
        refine (fxplain_any R E _ _ _ 0 _ H.out (by omega) (by omega) hpos (by omega)).mono ?_
        rintro e w4 ⟨rfl, hs4, hk4⟩
        have H4 := Lib.hid hs4
        have HN4 : Hid (Nb w w4) := Lib.hid (HNB.out.trans (hk4.toBelow HNB.out.size (fun k h => by omega)))
        clear hs4 hk4
        go_wp2
        go_roundw
        case rel => exact ⟨k + 1, by omega, by go_num, by rw [HSS.out, HLS.out]; exact H4.out, HN4.out⟩
        case measure => simp [intOf]; omega
    · obtain rfl : k = n := by omega
      have c3 : wr.cell? ⟨R, 3, none⟩ = some (.int .i64 (szF E A k)) := Blk.cell hst 3
      clear hst
      go_wp2
      go_ret2
      exact ⟨rfl, hnb⟩

theorem fxsize_u (n E : Int) (A : Bool) (w : World) :
    Calls Tryd.prog 80 #[.int .i64 n, .agg #[.int .i64 E, .bool A]] w fun e w' => e = .returned (.tuple #[.int .i64 (fzN n E A), .int .i64 (fzE n E)]) ∧ Nb w w' := by
  cases h : fzOk n E with
  | false =>
    simp only [fzN, fzE, h, Bool.false_eq_true, if_false]
    exact fxsize_bad n E A w h
  | true =>
    simp only [fzN, fzE, h, if_true]
    simp only [fzOk, Bool.and_eq_true, decide_eq_true_eq] at h
    obtain ⟨m, rfl, h1, h2, _⟩ := bgOk_nat h.1.1
    obtain ⟨k, rfl⟩ := Int.eq_ofNat_of_zero_le h.1.2
    exact fxsize_ok k m A w (by omega) h1 h2

/-! Put's answers. -/
def fpOk (p : Nat) (l : List Nat) (E : Int) (A : Bool) : Bool := bgOk p E && chk l && decide (szF E.toNat A l.length ≤ 65536)
def fpE (p : Nat) (l : List Nat) (E : Int) (A : Bool) : Nat := if fpOk p l E A then 0 else 2
def fpL (p : Nat) (l : List Nat) (E : Int) (A : Bool) : List Nat := if fpOk p l E A then fxPut E.toNat A p l else []

set_option maxHeartbeats 1600000 in
set_option maxRecDepth 100000 in
theorem fxput_bad (p : Nat) (a : Option Addr) (cap : Nat) (l : List Nat) (E : Int) (A : Bool) (w : World) (hp : p < 256) (h : Bs w a cap l) (hb : fpOk p l E A = false) :
    Calls Tryd.prog 55 #[.int .u8 p, .slice a l.length cap, .agg #[.int .i64 E, .bool A]] w fun e w' => AnsF w [] 2 e w' ∧ Nb w w' := by
  have hL := h.len
  have H := Lib.hid h
  clear h
  cases hg : bgOk p E with
  | false =>
    have HG := Lib.hid hg
    clear hb hg
    go_enter Tryd.func55, Tryd.ntmps55
    go_wp2_with fail
    refine (fxbegin_bad p E A _ hp HG.out).mono ?_
    rintro e w1 ⟨rfl, hnb⟩
    go_wp2
    go_ret2
    exact ⟨⟨_, _, rfl, Fresh.nil _ _⟩, (Nb.rfl.al _).tr hnb⟩
  | true =>
    obtain ⟨m, rfl, h1, h2, hp1⟩ := bgOk_nat hg
    cases hc : chk l with
    | false =>
      have HC := Lib.hid hc
      clear hb hg hc
      go_enter Tryd.func55, Tryd.ntmps55
      go_wp2_with fail
      refine (fxbegin_ok p m A _ hp1 h1 h2).mono ?_
      rintro e w1 ⟨⟨R, rfl, hst, hR⟩, hnb⟩
      have hnb1 : Nb w w1 := (Nb.rfl.al _).tr hnb
      clear hst hnb hR
      go_wp2_with fail
      refine (check_bad a cap l w1 (H.out.below hnb1) HC.out).mono ?_
      rintro e w2 ⟨rfl, rfl⟩
      go_wp2
      go_ret2
      exact ⟨⟨_, _, rfl, Fresh.nil _ _⟩, hnb1⟩
    | true =>
      have hsz : 65536 < szF m A l.length := by
        simp only [fpOk, hg, hc, Bool.true_and, Int.toNat_natCast, decide_eq_false_iff_not] at hb
        omega
      have hlen := chk_len hc
      have hle := szF_le2 m A l.length
      have HC := Lib.hid hc
      clear hb hg hc
      have hmp : ∀ W : World, Blk (W.alloc (.cells #[.int .i64 m, .bool A] 91)) W.heap.size _ _ := fun W => Blk.new W _ _
      have HMP := Lib.hid hmp
      clear hmp
      go_enter Tryd.func55, Tryd.ntmps55
      go_wp2_with fail
      refine (fxbegin_ok p m A _ hp1 h1 h2).mono ?_
      rintro e w1 ⟨⟨R, rfl, hst, hR⟩, hnb⟩
      have hbw := (HMP.out w).nb hnb
      have e0 : w1.cell? ⟨w.heap.size, 0, none⟩ = some (.int .i64 m) := hbw.cell 0
      have e1 : w1.cell? ⟨w.heap.size, 1, none⟩ = some (.bool A) := hbw.cell 1
      have hnb1 : Nb w w1 := (Nb.rfl.al _).tr hnb
      clear hst hnb hR hbw
      go_wp2_with fail
      refine (check_ok a cap l w1 (H.out.below hnb1) HC.out).mono ?_
      rintro e w2 ⟨rfl, rfl⟩
      go_wp2_with fail
      refine (fxsize_ok l.length m A w1 hlen h1 h2).mono ?_
      rintro e w2 ⟨rfl, hnb2⟩
      go_wp2
      go_ret2
      exact ⟨⟨_, _, rfl, Fresh.nil _ _⟩, hnb1.tr hnb2⟩

set_option maxHeartbeats 3200000 in
set_option maxRecDepth 100000 in
theorem fxput_ok (p : Nat) (a : Option Addr) (cap : Nat) (l : List Nat) (E : Nat) (A : Bool) (w : World) (hp : p ≤ 1) (h : Bs w a cap l) (h1 : 1 ≤ E) (h2 : E ≤ 64) (hc : chk l = true) (hs : szF E A l.length ≤ 65536) :
    Calls Tryd.prog 55 #[.int .u8 p, .slice a l.length cap, .agg #[.int .i64 E, .bool A]] w fun e w' => AnsF w (fxPut E A p l) 0 e w' ∧ Nb w w' := by
  have hL := h.len
  have hlen := chk_len hc
  have hbit := Lib.hid (chk_bit hc)
  have H := Lib.hid h
  have HC := Lib.hid hc
  obtain ⟨N, hN⟩ : ∃ N, N = szF E A l.length := ⟨_, rfl⟩
  rw [← hN] at hs
  have HN := Lib.hid hN
  have hmp : ∀ W : World, Blk (W.alloc (.cells #[.int .i64 E, .bool A] 91)) W.heap.size _ _ := fun W => Blk.new W _ _
  have HMP := Lib.hid hmp
  have hm : ∀ w, (Instr.makeSlice 23 (.int .i64 0) (.int .i64 (N : Int))).run Tryd.prog w = .ok (.slice (some ⟨w.heap.size, 0, none⟩) 0 N) (w.alloc (.cells (madeCells #[.int .u8 0] N) 5)) := fun w => run_makeB w _ (by omega)
  have hmade := fun w => OwnB.made w N (by omega)
  have HMd := Lib.hid hmade
  clear h hc hmp hmade hN
  go_enter Tryd.func55, Tryd.ntmps55
  go_wp2_with fail
  refine (fxbegin_ok p E A _ hp h1 h2).mono ?_
  rintro e w1 ⟨⟨R, rfl, hst, hR⟩, hnb⟩
  have hbw := (HMP.out w).nb hnb
  have e0 : w1.cell? ⟨w.heap.size, 0, none⟩ = some (.int .i64 E) := hbw.cell 0
  have e1 : w1.cell? ⟨w.heap.size, 1, none⟩ = some (.bool A) := hbw.cell 1
  have hnb1 : Nb w w1 := (Nb.rfl.al _).tr hnb
  have hR1 : w.heap.size ≤ R := by simp at hR; omega
  have HST := Lib.hid hst
  clear hst hnb hR hbw
  go_wp2_with fail
  refine (check_ok a cap l w1 (H.out.below hnb1) HC.out).mono ?_
  rintro e w2 ⟨rfl, rfl⟩
  go_wp2_with fail
  refine (fxsize_ok l.length E A w1 hlen h1 h2).mono ?_
  rintro e w2 ⟨rfl, hnb2⟩
  rw [← HN.out]
  have hst2 := HST.out.keep (F := fun _ => False) (Kp.ofNb hnb2) (by simp)
  have hRlt : R < w2.heap.size := Blk.lt hst2
  have hst3 := hst2.keep (F := fun _ => False) (Kp.alloc (o := .cells (madeCells #[.int .u8 0] N) 5)) (by simp)
  have hnb3 : Nb w (w2.alloc (.cells (madeCells #[.int .u8 0] N) 5)) := (hnb1.tr hnb2).al _
  have hsz2 : w.heap.size ≤ w2.heap.size := (hnb1.tr hnb2).size
  have hfr3 : Fresh w (w2.alloc (.cells (madeCells #[.int .u8 0] N) 5)) (.slice (some ⟨w2.heap.size, 0, none⟩) 0 N) [] := ⟨HMd.out w2, fun g hg => by simp [Value.ownBlock] at hg; omega⟩
  have hne3 : ∀ g, (Value.slice (some ⟨w2.heap.size, 0, none⟩) 0 N).ownBlock = some g → g ≠ R := fun g hg => by simp [Value.ownBlock] at hg; omega
  have S3 := Lib.hid hst3
  have N3 := Lib.hid hnb3
  have F3 := Lib.hid hfr3
  have NE3 := Lib.hid hne3
  clear hst2 hst3 hnb3 hfr3 hne3 HST hnb1 hnb2 e0 e1
  go_wp2
  go_loopw [11, 44] (fun v i wr => ∃ k : Nat, k ≤ l.length ∧ i = .int .i64 k ∧ StA wr R E (leftF E A k) (lastP p (fxPut E A p (l.take k))) (szF E A k) ∧ Fresh w wr v (fxPut E A p (l.take k)) ∧ (∀ g, v.ownBlock = some g → g ≠ R) ∧ Nb w wr) (fun _ i _ => l.length - (intOf i).toNat)
  case atStart => exact ⟨0, Nat.zero_le _, rfl, S3.out, F3.out, NE3.out, N3.out⟩
  case round =>
    obtain ⟨k, hk, rfl, hst, hfr, hne, hnb⟩ := hrel
    clear S3 N3 F3 NE3
    by_cases hlt : k < l.length
    · obtain ⟨b, o, rfl, hcl⟩ := (H.out.below hnb).hcells (by omega)
      obtain ⟨x, hx⟩ : ∃ x, l[k]? = some x := ⟨l[k], by simp [hlt]⟩
      have c1 := hcl k hlt
      rw [show l.getD k 0 = x from by simp [List.getD, hx]] at c1
      have hx1 := hbit.out x (List.mem_of_getElem? hx)
      have hbT : ∀ y ∈ l.take k, y ≤ 1 := fun y hy => hbit.out y (List.mem_of_mem_take hy)
      have hlast := lastP_le hp (fxPut_bit (E := E) (A := A) (p := p) hbT)
      have hsz := szF_le2 E A k
      have hss := szF_succ (E := E) A k
      have hls := leftF_succ h1 A k
      have hdd := leftF_due h1 A k
      have hle := leftF_le (E := E) A k
      have hPl := fxPut_len (E := E) A p (l.take k)
      have htl : (l.take k).length = k := by rw [List.length_take]; omega
      rw [htl] at hPl
      have htk : fxPut E A p (l.take (k + 1)) = if dueF E A k then fxPut E A p (l.take k) ++ [1 - lastP p (fxPut E A p (l.take k)), x] else fxPut E A p (l.take k) ++ [x] := by
        rw [take_snoc' hx, fxPut_snoc, htl]
      have hlt2 : lastP p (fxPut E A p (l.take (k + 1))) = x := by
        rw [htk]
        split
        · rw [show ∀ q, fxPut E A p (l.take k) ++ [q, x] = (fxPut E A p (l.take k) ++ [q]) ++ [x] from fun q => by simp, lastP_snoc]
        · rw [lastP_snoc]
      obtain ⟨P', hPP⟩ : ∃ P', fxPut E A p (l.take (k + 1)) = P' := ⟨_, rfl⟩
      rw [hPP] at htk hlt2
      have HPP := Lib.hid hPP
      clear hPP
      generalize fxPut E A p (l.take k) = P at *
      have hP : P.length ≤ 140000 := by omega
      have hPs : szF E A k ≤ 140000 := by omega
      clear htl hcl hbT hPl hx hsz
      obtain ⟨aP, cP, rfl, -, -⟩ := hfr.1.bs
      cases hd : dueF E A k with
      | true =>
        rw [hd] at hss hls hdd htk
        simp only [if_true] at hss hls htk
        have HS := Lib.hid hst
        have HSS := Lib.hid hss
        have HLS := Lib.hid hls
        have HDD := Lib.hid hdd
        have HTK := Lib.hid htk
        have HLT := Lib.hid hlt2
        have HNB := Lib.hid hnb
        have HFR := Lib.hid hfr
        have HNE := Lib.hid hne
        clear hst hss hls hdd hnb hd htk hlt2 hfr hne
        go_wp2_with fail
        refine (fxdue_any R E _ _ _ wr HS.out).mono ?_
        rintro e w4 ⟨rfl, rfl⟩
        rw [HDD.out]
        go_wp2_with fail
        refine (fxstuff_any R E _ _ _ wr HS.out (by omega) hlast).mono ?_
        rintro e w4 ⟨rfl, hs4, hk4⟩
        have hfr4 : Fresh w w4 (.slice aP P.length cP) P := ⟨HFR.out.1.keep hk4 (fun g hg h => HNE.out g hg h), HFR.out.2⟩
        have hnb4 : Nb w w4 := HNB.out.trans (hk4.toBelow HNB.out.size (fun k h => by omega))
        obtain ⟨q, hq⟩ : ∃ q, q = 1 - lastP p P := ⟨_, rfl⟩
        have hq1 : q ≤ 1 := by omega
        rw [← hq] at hs4 HTK ⊢
        have hal : Kp (fun _ => False) w4 (w4.alloc (.cells #[.int .u8 (q : Int)] 5)) := Kp.alloc
        have hown := hfr4.1.keep hal (by simp)
        have hs5 := hs4.keep hal (by simp)
        have hRw : R < w4.heap.size := Blk.lt hs4
        have HS5 := Lib.hid hs5
        have HFR4 := Lib.hid hfr4
        have HNB4 := Lib.hid hnb4
        clear hs4 hs5 hfr4 hnb4 hk4 hq hal HS HFR HNB
        go_wp2_with (at_builtin; refine wpList_appB _ rfl (.tmp 50) (.tmp 53) rfl _ P rfl hown _ _ [q] 1 rfl rfl (Bs.one w4 q (by omega) _) (by simp) (by simp; omega) ?_)
        intro v5 w5 hown5 hk5 hf5
        have happ := HFR4.out.app HNB4.out hown5 hk5 (by simpa using hf5)
        have hne5 : ∀ g, v5.ownBlock = some g → g ≠ R := fun g hg => by
          rcases hf5 g hg with h | h
          · exact HNE.out g h
          · first | omega | (simp at h; omega)
        have hs6 := HS5.out.keep hk5 (fun h => HNE.out R h rfl)
        have HS6 := Lib.hid hs6
        have HA5 := Lib.hid happ
        have HNE5 := Lib.hid hne5
        obtain ⟨P2, hP2⟩ : ∃ P2, P2 = P ++ [q] := ⟨_, rfl⟩
        have hP2l : P2.length ≤ 140001 := by rw [hP2]; simp; omega
        have HTK2 : Hid (P' = P2 ++ [x]) := Lib.hid (by rw [HTK.out, hP2]; simp)
        rw [← hP2] at HA5 hown5
        obtain ⟨a5, c5, rfl, -, -⟩ := hown5.bs
        clear hs6 happ hne5 hown5 hk5 hf5 hown HFR4 HNB4 HS5 HNE HTK hP2
        go_wp2_with fail
        refine (fxplain_any R E E _ _ x w5 HS6.out (by omega) (by omega) h1 h2).mono ?_
        rintro e w6 ⟨rfl, hs7, hk7⟩
        have hfr7 : Fresh w w6 (.slice a5 P2.length c5) P2 := ⟨HA5.out.1.1.keep hk7 (fun g hg h => HNE5.out g hg h), HA5.out.1.2⟩
        have hnb7 : Nb w w6 := HA5.out.2.trans (hk7.toBelow HA5.out.2.size (fun k h => by omega))
        have hal : Kp (fun _ => False) w6 (w6.alloc (.cells #[.int .u8 (x : Int)] 5)) := Kp.alloc
        have hown := hfr7.1.keep hal (by simp)
        have hs8 := hs7.keep hal (by simp)
        have hRw2 : R < w6.heap.size := Blk.lt hs7
        have HS8 := Lib.hid hs8
        have HFR7 := Lib.hid hfr7
        have HNB7 := Lib.hid hnb7
        clear hs7 hs8 hfr7 hnb7 hk7 hal HS6 HA5
        go_wp2_with (at_builtin; refine wpList_appB _ rfl (.tmp 58) (.tmp 60) rfl _ P2 rfl hown _ _ [x] 1 rfl rfl (Bs.one w6 x (by omega) _) (by simp) (by simp; omega) ?_)
        intro v9 w9 hown9 hk9 hf9
        have happ := HFR7.out.app HNB7.out hown9 hk9 (by simpa using hf9)
        have hne9 : ∀ g, v9.ownBlock = some g → g ≠ R := fun g hg => by
          rcases hf9 g hg with h | h
          · exact HNE5.out g h
          · first | omega | (simp at h; omega)
        have hs10 := HS8.out.keep hk9 (fun h => HNE5.out R h rfl)
        have HS10 := Lib.hid hs10
        have HA9 := Lib.hid happ
        have HNE9 := Lib.hid hne9
        clear hs10 happ hne9 hown9 hk9 hf9 hown HFR7 HNB7 HS8 HNE5
        go_wp2
        go_roundw
        case rel => exact ⟨k + 1, by omega, by go_num, by rw [HPP.out, HSS.out, HLS.out, HLT.out]; exact HS10.out, by rw [HPP.out, HTK2.out]; exact HA9.out.1, HNE9.out, HA9.out.2⟩
        case measure => simp [intOf]; omega
      | false =>
        have hpos := leftF_pos h1 hd
        rw [hd] at hss hls hdd htk
        simp only [Bool.false_eq_true, if_false, Nat.add_zero] at hss hls htk
        have HS := Lib.hid hst
        have HSS := Lib.hid hss
        have HLS := Lib.hid hls
        have HDD := Lib.hid hdd
        have HTK := Lib.hid htk
        have HLT := Lib.hid hlt2
        have HNB := Lib.hid hnb
        have HFR := Lib.hid hfr
        have HNE := Lib.hid hne
        clear hst hss hls hdd hnb hd htk hlt2 hfr hne
        go_wp2_with fail
        refine (fxdue_any R E _ _ _ wr HS.out).mono ?_
        rintro e w4 ⟨rfl, rfl⟩
        rw [HDD.out]
        go_wp2_with fail
        refine (fxplain_any R E _ _ _ x wr HS.out (by omega) (by omega) hpos (by omega)).mono ?_
        rintro e w6 ⟨rfl, hs7, hk7⟩
        have hfr7 : Fresh w w6 (.slice aP P.length cP) P := ⟨HFR.out.1.keep hk7 (fun g hg h => HNE.out g hg h), HFR.out.2⟩
        have hnb7 : Nb w w6 := HNB.out.trans (hk7.toBelow HNB.out.size (fun k h => by omega))
        have hal : Kp (fun _ => False) w6 (w6.alloc (.cells #[.int .u8 (x : Int)] 5)) := Kp.alloc
        have hown := hfr7.1.keep hal (by simp)
        have hs8 := hs7.keep hal (by simp)
        have hRw2 : R < w6.heap.size := Blk.lt hs7
        have HS8 := Lib.hid hs8
        have HFR7 := Lib.hid hfr7
        have HNB7 := Lib.hid hnb7
        clear hs7 hs8 hfr7 hnb7 hk7 hal HS HFR HNB
        go_wp2_with (at_builtin; refine wpList_appB _ rfl (.tmp 58) (.tmp 60) rfl _ P rfl hown _ _ [x] 1 rfl rfl (Bs.one w6 x (by omega) _) (by simp) (by simp; omega) ?_)
        intro v9 w9 hown9 hk9 hf9
        have happ := HFR7.out.app HNB7.out hown9 hk9 (by simpa using hf9)
        have hne9 : ∀ g, v9.ownBlock = some g → g ≠ R := fun g hg => by
          rcases hf9 g hg with h | h
          · exact HNE.out g h
          · first | omega | (simp at h; omega)
        have hs10 := HS8.out.keep hk9 (fun h => HNE.out R h rfl)
        have HS10 := Lib.hid hs10
        have HA9 := Lib.hid happ
        have HNE9 := Lib.hid hne9
        clear hs10 happ hne9 hown9 hk9 hf9 hown HFR7 HNB7 HS8 HNE
        go_wp2
        go_roundw
        case rel => exact ⟨k + 1, by omega, by go_num, by rw [HPP.out, HSS.out, HLS.out, HLT.out]; exact HS10.out, by rw [HPP.out, HTK.out]; exact HA9.out.1, HNE9.out, HA9.out.2⟩
        case measure => simp [intOf]; omega
    · obtain rfl : k = l.length := by omega
      rw [List.take_of_length_le (Nat.le_refl _)] at hfr
      obtain ⟨aP, cP, rfl, -, -⟩ := hfr.1.bs
      have HFR := Lib.hid hfr
      clear hst hne hfr
      go_wp2
      go_ret2
      exact ⟨⟨_, _, rfl, HFR.out⟩, hnb⟩

theorem fxput_u (p : Nat) (a : Option Addr) (cap : Nat) (l : List Nat) (E : Int) (A : Bool) (w : World) (hp : p < 256) (h : Bs w a cap l) :
    Calls Tryd.prog 55 #[.int .u8 p, .slice a l.length cap, .agg #[.int .i64 E, .bool A]] w fun e w' => AnsF w (fpL p l E A) (fpE p l E A) e w' ∧ Nb w w' := by
  cases hb : fpOk p l E A with
  | false =>
    simp only [fpL, fpE, hb, Bool.false_eq_true, if_false]
    exact fxput_bad p a cap l E A w hp h hb
  | true =>
    simp only [fpL, fpE, hb, if_true]
    simp only [fpOk, Bool.and_eq_true, decide_eq_true_eq] at hb
    obtain ⟨m, rfl, h1, h2, hp1⟩ := bgOk_nat hb.1.1
    exact fxput_ok p a cap l m A w hp1 h h1 h2 hb.1.2 hb.2
end Go.Proofs.YtfcmoamooafomaaDoor

namespace Go.Proofs.YtfcmoamooafomaaDoor
set_option linter.unusedVariables false
set_option linter.unusedSimpArgs false
open Go.RowKit

set_option maxHeartbeats 800000 in
set_option maxRecDepth 100000 in
/-- Put's row is new. -/
theorem put_okF (n size : Nat) (w : World) (hs : size ≤ 64) (hn : n < 2 ^ size) :
    Calls Tryd.prog 85 #[.int .u64 n, .int .i64 size] w fun e w' => AnsF w (bitsN n size) 0 e w' ∧ Nb w w' := by
  have hn64 : n < 2 ^ 64 := Nat.lt_of_lt_of_le hn (Nat.pow_le_pow_right (by omega) hs)
  have hsh : ((n : Int) / 2 ^ size != 0) = false := by
    have : ((n : Int) / 2 ^ size) = ((n / 2 ^ size : Nat) : Int) := by push_cast; rfl
    rw [this, Nat.div_eq_of_lt hn]; rfl
  have d1 : decide ((size : Int) < 0) = false := by simp
  have d2 : decide (64 < (size : Int)) = false := by simp; omega
  have HN := Lib.hid hn64
  clear hn hn64
  go_enter Tryd.func85, Tryd.ntmps85
  go_wp2_with fail
  refine (newRow_any size _ (by omega)).mono ?_
  rintro e w1 ⟨⟨g, c, rfl, ho, hg⟩, hnb⟩
  have hal : Kp (fun _ => False) w1 (w1.alloc (.cells #[.slice (some ⟨g, 0, none⟩) 0 c] 147)) := Kp.alloc
  have hlt := ho.lt (g := g) rfl
  have hrow : RowAt (w1.alloc (.cells #[.slice (some ⟨g, 0, none⟩) 0 c] 147)) 147 w1.heap.size (.slice (some ⟨g, 0, none⟩) 0 c) [] :=
    ⟨Blk.new _ _ _, ho.keep hal (by simp), by simp [Value.ownBlock]; omega⟩
  have HR := Lib.hid hrow
  clear hrow ho hal
  go_wp2_with fail
  refine (rownumber_any w1.heap.size _ [] n size _ HR.out HN.out hs (by simp)).mono ?_
  rintro e w2 ⟨rfl, v2, hr2, hkp, hfo⟩
  have hfr : Fresh w w2 v2 ([] ++ bitsN n size) := ⟨hr2.own, fun k hk => by
    rcases hfo k (.inr hk) with h | h
    · rcases h with rfl | h
      · exact hnb.size
      · simp [Value.ownBlock] at h; omega
    · have := hnb.size
      first | omega | (simp at h; omega)⟩
  obtain ⟨a, cap, rfl, -, _⟩ := hr2.own.bs
  have c0 : w2.cell? ⟨w1.heap.size, 0, none⟩ = _ := hr2.blk.cell 0
  have hnb2 : Nb w w2 := (hnb.al _).trans (hkp.toBelow (Nat.le_trans hnb.size (by simp)) (by rintro k (rfl | hk); exact hnb.size; simp [Value.ownBlock] at hk; omega))
  rw [List.nil_append] at hfr c0
  have HFR := Lib.hid hfr
  clear hr2 hkp hfr hfo
  go_wp2
  go_ret2
  exact ⟨⟨_, _, rfl, HFR.out⟩, hnb2⟩

/-! Tally's answers. -/
def tyE (n : Int) : Nat := if n < 0 then 2 else 0
def tyL (n : Int) : List Nat := if n < 0 then [] else tallyL n.toNat
theorem gray (r : Nat) (h : r < 8) : bits BinOp.xor IntKind.u64 ((r : Int) * 2) (r : Int) = (((2 * r) ^^^ r : Nat) : Int) ∧ ((2 * r) ^^^ r) < 2 ^ 4 := by
  rcases (by omega : r = 0 ∨ r = 1 ∨ r = 2 ∨ r = 3 ∨ r = 4 ∨ r = 5 ∨ r = 6 ∨ r = 7) with rfl | rfl | rfl | rfl | rfl | rfl | rfl | rfl <;> decide +kernel

set_option maxHeartbeats 800000 in
set_option maxRecDepth 100000 in
theorem tally_u (n : Int) (w : World) (hw : (Lit.int .i64 n).wf = true) :
    Calls Tryd.prog 71 #[.int .i64 n] w fun e w' => AnsF w (tyL n) (tyE n) e w' ∧ Nb w w' := by
  by_cases h0 : n < 0
  · rw [show tyL n = [] from if_pos h0, show tyE n = 2 from if_pos h0]
    go_enter Tryd.func71, Tryd.ntmps71
    go_wp2
    go_ret2
    exact ⟨⟨_, _, rfl, Fresh.nil _ _⟩, Nb.rfl⟩
  · rw [show tyL n = tallyL n.toNat from if_neg h0, show tyE n = 0 from if_neg h0]
    obtain ⟨m, rfl⟩ := Int.eq_ofNat_of_zero_le (by omega : 0 ≤ n)
    rw [Int.toNat_natCast]
    have hr : Int.tmod (m : Int) 8 = ((m % 8 : Nat) : Int) := by rw [Int.tmod_eq_emod_of_nonneg (by omega)]; push_cast; rfl
    have h8 := Nat.mod_lt m (show 0 < 8 by omega)
    have hty : tallyL m = bitsN ((2 * (m % 8)) ^^^ (m % 8)) 4 := rfl
    obtain ⟨g1, g2⟩ := gray (m % 8) h8
    rw [hty]
    generalize m % 8 = r at *
    obtain ⟨x, hx⟩ : ∃ x, x = (2 * r) ^^^ r := ⟨_, rfl⟩
    rw [← hx] at g1 g2 ⊢
    have HG := Lib.hid g1
    clear hty hx
    clear g1
    go_enter Tryd.func71, Tryd.ntmps71
    go_wp2_with fail
    rw [HG.out]
    refine (put_okF x 4 w (by omega) g2).mono ?_
    rintro e w1 ⟨⟨aA, cA, rfl, hf⟩, hnb⟩
    have HF := Lib.hid hf
    clear hf
    go_wp2
    go_ret2
    exact ⟨⟨_, _, rfl, HF.out⟩, hnb⟩

theorem xor01 (o b : Nat) (ho : o ≤ 1) (hb : b ≤ 1) : bits BinOp.xor IntKind.i64 (o : Int) (b : Int) = (((o + b) % 2 : Nat) : Int) := by
  rcases (by omega : o = 0 ∨ o = 1) with rfl | rfl <;> rcases (by omega : b = 0 ∨ b = 1) with rfl | rfl <;> decide +kernel
theorem or01 (t o : Nat) (ht : t < 8) (ho : o ≤ 1) : bits BinOp.or IntKind.i64 ((t : Int) * 2) (o : Int) = ((2 * t + o : Nat) : Int) := by
  rcases (by omega : o = 0 ∨ o = 1) with rfl | rfl <;> rcases (by omega : t = 0 ∨ t = 1 ∨ t = 2 ∨ t = 3 ∨ t = 4 ∨ t = 5 ∨ t = 6 ∨ t = 7) with rfl | rfl | rfl | rfl | rfl | rfl | rfl | rfl <;> decide +kernel

end Go.Proofs.YtfcmoamooafomaaDoor
