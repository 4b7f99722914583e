
/- Contracts of Check, of the document's Check, Same and Num, and of a number's step. No conditions but those of bits. -/
import Derived.Test.YtaiplhlcldbnkaaDoorNum
/-
  Check (the program's and the document's), Same, Num, Get.
-/
namespace Go.Proofs.YtaiplhlcldbnkaaDoor
set_option linter.unusedVariables false
set_option linter.unusedSimpArgs false
open Go.RowKit

/-- Whether all are bits, and not too many. -/
def chk (l : List Nat) : Bool := decide (l.length ≤ 65536) && l.all (fun x => decide (x ≤ 1))
theorem chk_len {l : List Nat} (h : chk l = true) : l.length ≤ 65536 := by simp [chk] at h; exact h.1
theorem chk_bit {l : List Nat} (h : chk l = true) : ∀ x ∈ l, x ≤ 1 := by simp [chk] at h; exact h.2

set_option maxHeartbeats 800000 in
set_option maxRecDepth 100000 in
theorem check_ok (a : Option Addr) (cap : Nat) (l : List Nat) (w : World) (h : Bs w a cap l) (hc : chk l = true) :
    Calls Tryd.prog 18 #[.slice a l.length cap] w fun e w' => e = .returned (.int .i64 0) ∧ w = w' := by
  have h1 := chk_len hc
  have h2 := Lib.hid (chk_bit hc)
  clear hc
  go_enter Tryd.func18, Tryd.ntmps18
  go_wp2
  go_loop [10] (fun i => ∃ k : Nat, k ≤ l.length ∧ i = .int .i64 k) (fun i => l.length - (intOf i).toNat)
  case atStart => exact ⟨0, Nat.zero_le _, rfl⟩
  case round =>
    obtain ⟨k, hk, rfl⟩ := hrel
    by_cases hlt : k < l.length
    · obtain ⟨b, o, rfl, hcl⟩ := h.hcells (by omega)
      obtain ⟨x, hx⟩ : ∃ x, l[k]? = some x := ⟨l[k], by simp [hlt]⟩
      have c1 := hcl k hlt
      rw [show l.getD k 0 = x from by simp [List.getD, hx]] at c1
      have hx1 : x ≤ 1 := h2.out x (List.mem_of_getElem? hx)
      clear hcl hx h
      go_wp2
      go_round
      case rel => exact ⟨k + 1, by omega, by go_num⟩
      case measure => simp [intOf]; omega
    · obtain rfl : k = l.length := by omega
      go_wp2
      go_ret
      exact ⟨rfl, rfl⟩

set_option maxHeartbeats 800000 in
set_option maxRecDepth 100000 in
theorem check_bad (a : Option Addr) (cap : Nat) (l : List Nat) (w : World) (h : Bs w a cap l) (hc : chk l = false) :
    Calls Tryd.prog 18 #[.slice a l.length cap] w fun e w' => e = .returned (.int .i64 2) ∧ w = w' := by
  have hL := h.len
  by_cases h1 : l.length ≤ 65536
  · have h2 : ¬ ∀ k x, k < l.length → l[k]? = some x → x ≤ 1 := by
      intro hall
      have : chk l = true := by
        simp only [chk, h1, decide_true, Bool.true_and, List.all_eq_true, decide_eq_true_eq]
        intro x hx
        obtain ⟨k, hk, rfl⟩ := List.getElem_of_mem hx
        exact hall k _ hk (by simp [hk])
      rw [this] at hc
      cases hc
    have H2 := Lib.hid h2
    clear h2 hc
    go_enter Tryd.func18, Tryd.ntmps18
    go_wp2
    go_loop [10] (fun i => ∃ k : Nat, k ≤ l.length ∧ i = .int .i64 k ∧ ∀ j x, j < k → l[j]? = some x → x ≤ 1) (fun i => l.length - (intOf i).toNat)
    case atStart => exact ⟨0, Nat.zero_le _, rfl, by intro j x hj; omega⟩
    case round =>
      obtain ⟨k, hk, rfl, hall⟩ := hrel
      by_cases hlt : k < l.length
      · obtain ⟨b, o, rfl, hcl⟩ := h.hcells (by omega)
        obtain ⟨x, hx⟩ : ∃ x, l[k]? = some x := ⟨l[k], by simp [hlt]⟩
        have c1 := hcl k hlt
        rw [show l.getD k 0 = x from by simp [List.getD, hx]] at c1
        have HX := Lib.hid hx
        have HA := Lib.hid hall
        clear hcl hx h hall
        by_cases hx1 : x ≤ 1
        · go_wp2
          go_round
          case rel => exact ⟨k + 1, by omega, by go_num, fun j y hj hy => by
            rcases Nat.lt_succ_iff_lt_or_eq.1 hj with h | rfl
            · exact HA.out j y h hy
            · rw [HX.out] at hy; cases hy; exact hx1⟩
          case measure => simp [intOf]; omega
        · go_wp2
          go_ret
          exact ⟨rfl, rfl⟩
      · exact absurd (fun k' x hk' hx => hall k' x (by omega) hx) H2.out
  · go_enter Tryd.func18, Tryd.ntmps18
    go_wp2
    go_ret
    exact ⟨rfl, rfl⟩

set_option maxHeartbeats 800000 in
set_option maxRecDepth 100000 in
theorem refcheck_ok (a : Option Addr) (cap : Nat) (l : List Nat) (w : World) (h : Bs w a cap l) (hc : chk l = true) :
    Calls Tryd.prog 75 #[.slice a l.length cap] w fun e w' => e = .returned (.int .i64 0) ∧ w = w' := by
  have h1 := chk_len hc
  have h2 := Lib.hid (chk_bit hc)
  clear hc
  go_enter Tryd.func75, Tryd.ntmps75
  go_wp2
  go_loop [10] (fun i => ∃ k : Nat, k ≤ l.length ∧ i = .int .i64 k) (fun i => l.length - (intOf i).toNat)
  case atStart => exact ⟨0, Nat.zero_le _, rfl⟩
  case round =>
    obtain ⟨k, hk, rfl⟩ := hrel
    by_cases hlt : k < l.length
    · obtain ⟨b, o, rfl, hcl⟩ := h.hcells (by omega)
      obtain ⟨x, hx⟩ : ∃ x, l[k]? = some x := ⟨l[k], by simp [hlt]⟩
      have c1 := hcl k hlt
      rw [show l.getD k 0 = x from by simp [List.getD, hx]] at c1
      have hx1 : x ≤ 1 := h2.out x (List.mem_of_getElem? hx)
      clear hcl hx h
      go_wp2
      go_round
      case rel => exact ⟨k + 1, by omega, by go_num⟩
      case measure => simp [intOf]; omega
    · obtain rfl : k = l.length := by omega
      go_wp2
      go_ret
      exact ⟨rfl, rfl⟩

set_option maxHeartbeats 800000 in
set_option maxRecDepth 100000 in
theorem refcheck_bad (a : Option Addr) (cap : Nat) (l : List Nat) (w : World) (h : Bs w a cap l) (hc : chk l = false) :
    Calls Tryd.prog 75 #[.slice a l.length cap] w fun e w' => e = .returned (.int .i64 2) ∧ w = w' := by
  have hL := h.len
  by_cases h1 : l.length ≤ 65536
  · have h2 : ¬ ∀ k x, k < l.length → l[k]? = some x → x ≤ 1 := by
      intro hall
      have : chk l = true := by
        simp only [chk, h1, decide_true, Bool.true_and, List.all_eq_true, decide_eq_true_eq]
        intro x hx
        obtain ⟨k, hk, rfl⟩ := List.getElem_of_mem hx
        exact hall k _ hk (by simp [hk])
      rw [this] at hc
      cases hc
    have H2 := Lib.hid h2
    clear h2 hc
    go_enter Tryd.func75, Tryd.ntmps75
    go_wp2
    go_loop [10] (fun i => ∃ k : Nat, k ≤ l.length ∧ i = .int .i64 k ∧ ∀ j x, j < k → l[j]? = some x → x ≤ 1) (fun i => l.length - (intOf i).toNat)
    case atStart => exact ⟨0, Nat.zero_le _, rfl, by intro j x hj; omega⟩
    case round =>
      obtain ⟨k, hk, rfl, hall⟩ := hrel
      by_cases hlt : k < l.length
      · obtain ⟨b, o, rfl, hcl⟩ := h.hcells (by omega)
        obtain ⟨x, hx⟩ : ∃ x, l[k]? = some x := ⟨l[k], by simp [hlt]⟩
        have c1 := hcl k hlt
        rw [show l.getD k 0 = x from by simp [List.getD, hx]] at c1
        have HX := Lib.hid hx
        have HA := Lib.hid hall
        clear hcl hx h hall
        by_cases hx1 : x ≤ 1
        · go_wp2
          go_round
          case rel => exact ⟨k + 1, by omega, by go_num, fun j y hj hy => by
            rcases Nat.lt_succ_iff_lt_or_eq.1 hj with h | rfl
            · exact HA.out j y h hy
            · rw [HX.out] at hy; cases hy; exact hx1⟩
          case measure => simp [intOf]; omega
        · go_wp2
          go_ret
          exact ⟨rfl, rfl⟩
      · exact absurd (fun k' x hk' hx => hall k' x (by omega) hx) H2.out
  · go_enter Tryd.func75, Tryd.ntmps75
    go_wp2
    go_ret
    exact ⟨rfl, rfl⟩

set_option maxHeartbeats 800000 in
set_option maxRecDepth 100000 in
theorem same_any (a a' : Option Addr) (cap cap' : Nat) (l l' : List Nat) (w : World) (h : Bs w a cap l) (h' : Bs w a' cap' l') :
    Calls Tryd.prog 16 #[.slice a l.length cap, .slice a' l'.length cap'] w fun e w' => e = .returned (.bool (decide (l = l'))) ∧ Nb w w' := by
  have hL := h.len
  have hL' := h'.len
  by_cases hne : l.length = l'.length
  · have hlen := Lib.hid hne
    have hle : l.length ≤ l'.length := by omega
    have hge : l'.length ≤ l.length := by omega
    have hd : ((l.length : Int) != (l'.length : Int)) = false := by simp [hne]
    clear hne
    go_enter Tryd.func16, Tryd.ntmps16
    go_wp2
    go_loopw [13] (fun i wr => ∃ k : Nat, k ≤ l.length ∧ i = .int .i64 k ∧ (∀ j, j < k → l[j]? = l'[j]?) ∧ Nb w wr) (fun i _ => l.length - (intOf i).toNat)
    case atStart => exact ⟨0, Nat.zero_le _, rfl, by intro j hj; omega, Nb.rfl⟩
    case round =>
      obtain ⟨k, hk, rfl, hall, hnb⟩ := hrel
      have HA := Lib.hid hall
      by_cases hlt : k < l.length
      · obtain ⟨b, o, rfl, hcl⟩ := (h.below hnb).hcells (by omega)
        obtain ⟨b', o', rfl, hcl'⟩ := (h'.below hnb).hcells (by omega)
        obtain ⟨x, hx⟩ : ∃ x, l[k]? = some x := ⟨l[k], by simp [hlt]⟩
        obtain ⟨x', hx'⟩ : ∃ x, l'[k]? = some x := ⟨l'[k]'(by omega), by simp⟩
        have c1 := hcl k hlt
        have c2 := hcl' k (by omega)
        rw [show l.getD k 0 = x from by simp [List.getD, hx]] at c1
        rw [show l'.getD k 0 = x' from by simp [List.getD, hx']] at c2
        have HX := Lib.hid hx
        have HX' := Lib.hid hx'
        clear hcl hcl' hx hx' hall h h'
        go_wp2
        go_quiet (fail)
        by_cases hxx : x = x'
        · have hb : ((x : Int) != (x' : Int)) = false := by simp [hxx]
          have HH := Lib.hid hxx
          clear hxx
          go_wp2
          go_roundw
          case rel => exact ⟨k + 1, by omega, by go_num, fun j hj => by
            rcases Nat.lt_succ_iff_lt_or_eq.1 hj with h | rfl
            · exact HA.out j h
            · rw [HX.out, HX'.out, HH.out], hnb.tr (Nb.drewN _ _)⟩
          case measure => simp [intOf]; omega
        · have hb : ((x : Int) != (x' : Int)) = true := by rw [bne_iff_ne]; omega
          have hf : decide (l = l') = false := by
            simp only [decide_eq_false_iff_not]
            rintro rfl
            have := HX.out.symm.trans HX'.out
            simp only [Option.some.injEq] at this
            exact hxx this
          have HF := Lib.hid hf
          clear hf
          go_wp2
          go_ret
          exact ⟨by rw [HF.out]; rfl, hnb.tr (Nb.drewN _ _)⟩
      · obtain rfl : k = l.length := by omega
        have hf : decide (l = l') = true := by
          simp only [decide_eq_true_eq]
          apply List.ext_getElem?
          intro j
          by_cases hj : j < l.length
          · exact hall j hj
          · rw [List.getElem?_eq_none (by omega), List.getElem?_eq_none (by omega)]
        have HF := Lib.hid hf
        clear hf hall
        go_wp2
        go_ret
        exact ⟨by rw [HF.out]; rfl, hnb⟩
  · have hd : ((l.length : Int) != (l'.length : Int)) = true := by rw [bne_iff_ne]; omega
    have hf : decide (l = l') = false := by
      simp only [decide_eq_false_iff_not]
      rintro rfl
      exact hne rfl
    have HF := Lib.hid hf
    clear hf
    go_enter Tryd.func16, Tryd.ntmps16
    go_wp2
    go_ret
    exact ⟨by rw [HF.out]; rfl, Nb.rfl⟩

/-- Bits' number. -/
def numN (l : List Nat) : Nat := l.foldl (fun n b => n * 2 + b) 0
theorem numN_snoc (l : List Nat) (b : Nat) : numN (l ++ [b]) = numN l * 2 + b := by simp [numN]
theorem numN_lt (l : List Nat) (h : ∀ x ∈ l, x ≤ 1) : numN l < 2 ^ l.length := by
  have key : ∀ (l : List Nat) (n : Nat), (∀ x ∈ l, x ≤ 1) → l.foldl (fun n b => n * 2 + b) n < (n + 1) * 2 ^ l.length := by
    intro l
    induction l with
    | nil => intro n _; simp
    | cons b l ih =>
      intro n hl
      have h1 := ih (n * 2 + b) (fun x hx => hl x (by simp [hx]))
      have h2 := hl b (by simp)
      rw [List.foldl_cons, List.length_cons, Nat.pow_succ]
      refine Nat.lt_of_lt_of_le h1 ?_
      rw [Nat.mul_comm (2 ^ l.length) 2, ← Nat.mul_assoc]
      exact Nat.mul_le_mul_right _ (by omega)
  have := key l 0 h
  simpa [numN] using this
theorem take_snoc' {l : List Nat} {k x : Nat} (h : l[k]? = some x) : l.take (k + 1) = l.take k ++ [x] := by rw [List.take_add_one, h]; rfl

end Go.Proofs.YtaiplhlcldbnkaaDoor
