
/- What is put is got, in the words of the answers. No conditions but sizes. -/
import Derived.Test.YtaiplhlcldbnkaaDoorStfH
namespace Go.Proofs.YtaiplhlcldbnkaaDoor
set_option linter.unusedVariables false
set_option linter.unusedSimpArgs false
open Go.RowKit

theorem chk_of {l : List Nat} (h : ∀ x ∈ l, x ≤ 1) (hl : l.length ≤ 65536) : chk l = true := by
  simp only [chk, Bool.and_eq_true, decide_eq_true_eq, List.all_eq_true]
  exact ⟨hl, h⟩

theorem sp_ok {l : List Nat} (h : chk l = true) (hl : l.length ≤ 30000) : spE l = 0 ∧ spL l = putL l ∧ chk (putL l) = true := by
  have h2 := (putL_len2 l).1
  have h3 : (putL l).length ≤ 65536 := by omega
  simp only [spE, spL, h, if_true, if_pos h3, true_and]
  exact chk_of (putL_bit (chk_bit h)) h3

theorem sg_put {l : List Nat} (h : chk l = true) (hl : l.length ≤ 30000) : sgL (putL l) = l ∧ sgE (putL l) = 0 ∧ scN (putL l) = (putL l).length - l.length ∧ scE (putL l) = 0 := by
  obtain ⟨_, _, h3⟩ := sp_ok h hl
  have ho := okS_putL (chk_bit h)
  obtain ⟨ht, hs⟩ := tell_putL (chk_bit h)
  simp [sgL, sgE, scN, scE, h3, ho, ht, hs]

theorem sg_err {l : List Nat} (h : sgE l ≠ 0) : sgL l = [] := by
  unfold sgE at h
  unfold sgL
  by_cases h1 : chk l = true
  · by_cases h2 : okS l = true
    · by_cases h3 : lastS l = true
      · rw [if_pos h1, if_pos h2, if_pos h3]
      · rw [if_pos h1, if_pos h2, if_neg h3] at h; exact absurd rfl h
    · rw [if_pos h1, if_neg h2]
  · rw [if_neg h1]

theorem sg_back {l : List Nat} (h : sgE l = 0) : spL (sgL l) = l ∧ spE (sgL l) = 0 := by
  unfold sgE at h
  by_cases h1 : chk l = true
  · by_cases h2 : okS l = true
    · by_cases h3 : lastS l = true
      · rw [if_pos h1, if_pos h2, if_pos h3] at h; cases h
      · have hb := chk_bit h1
        have hlen := chk_len h1
        have hp := (putL_tell hb h2).1 (by simpa using h3)
        have ht := tell_len l
        have hc : chk (tell l) = true := chk_of (tell_bit hb) (by omega)
        have e : sgL l = tell l := by unfold sgL; rw [if_pos h1, if_pos h2, if_neg h3]
        rw [e]
        simp [spL, spE, hc, hp, hlen]
    · rw [if_pos h1, if_neg h2] at h; cases h
  · rw [if_neg h1] at h; cases h

theorem take_parts {l more : List Nat} (hl : chk l = true) (hm : chk more = true) (h1 : l.length ≤ 2000) (h2 : more.length ≤ 2000) {k : Nat} (hk : k ≤ l.length) :
    stE (putL l ++ more) (k : Int) = 0 ∧ stL (putL l ++ more) (k : Int) = l.take k ∧ stK (putL l ++ more) (k : Int) = (putL (l.take k)).length := by
  have hb := chk_bit hl
  have hG := readG_parts hb more hk
  have hlen := (putL_len2 l).1
  have hc : chk (putL l ++ more) = true := chk_of (fun x hx => by
    rcases List.mem_append.1 hx with h | h
    · exact putL_bit hb x h
    · exact chk_bit hm x h) (by rw [List.length_append]; omega)
  have ht := (tell_putL (l := l.take k) (fun x hx => hb x (List.mem_of_mem_take hx))).1
  have hn : ¬ stB (putL l ++ more) (k : Int) := by
    rintro (h | h | h)
    · omega
    · omega
    · rw [hc] at h; cases h
  have hlt : (l.take k).length = k := by rw [List.length_take]; omega
  have e0 : stE (putL l ++ more) (k : Int) = 0 := by simp [stE, hn, hG, ht, hlt]
  exact ⟨e0, by simp [stL, e0, hG, ht], by simp [stK, e0, hG]⟩

/-- The run that Run tells. -/
theorem run_is {l : List Nat} {k : Nat} (h : IsRun l k) : k = (runS l).2 := h.uniq (isRun_runS l)

theorem six_err {l : List Nat} (hc : chk l = true) {i : Nat} (h : (runS (l.take i)).2 = 6) : sgE l = 4 := by
  have ho : okS l = false := by
    cases ho : okS l with
    | false => rfl
    | true =>
      have := okS_run (okS_take ho i)
      omega
  simp [sgE, hc, ho]

theorem turned_err {x : List Nat} {i : Nat} (hc : chk x = true) (ho : okS x = true) (hi : i < x.length) (hf : full (x.take i) = true) :
    sgE (x.set i (x.getD i 0 ^^^ 1)) = 4 ∧ sgL (x.set i (x.getD i 0 ^^^ 1)) = [] ∧ scE (x.set i (x.getD i 0 ^^^ 1)) = 4 := by
  have hb := chk_bit hc
  have h1 : x.getD i 0 ≤ 1 := hb _ (List.mem_of_getElem? (i := i) (by simp [List.getD, List.getElem?_eq_getElem hi]))
  have hk := okS_turned hb ho hi hf (xor1_le _ h1) (xor1_ne _ h1)
  have hc2 : chk (x.set i (x.getD i 0 ^^^ 1)) = true := chk_of (set_bits hb _ _ (xor1_le _ h1)) (by rw [List.length_set]; exact chk_len hc)
  simp only [sgE, sgL, scE, hc2, hk, if_true, Bool.false_eq_true, if_false, and_self]

theorem full_five {x : List Nat} (ho : okS x = true) (i : Nat) : (runS (x.take i)).2 = 5 ↔ full (x.take i) = true := by
  have := okS_run (okS_take ho i)
  simp [full]
  omega

theorem put_beg (l : List Nat) (k : Nat) : (putL (l.take k)).length ≤ (putL l).length ∧ putL (l.take k) = (putL l).take (putL (l.take k)).length := by
  obtain ⟨Y, hY⟩ := putL_append (l.take k) (l.drop k)
  rw [List.take_append_drop] at hY
  rw [hY]
  simp

theorem Bs.nil_of {w : World} {c : Nat} {l : List Nat} (h : Bs w none c l) : l = [] := h.none_len
end Go.Proofs.YtaiplhlcldbnkaaDoor
