
/- The program's Compare of frames by their keys. Condition: the table of longer sizes holds what the program's text lays there. -/
import Derived.Test.YtfcmoamooafomaaDoorOrK
namespace Go.Proofs.YtfcmoamooafomaaDoor
set_option linter.unusedVariables false
set_option linter.unusedSimpArgs false
open Go.RowKit

def cmpN (m n : Nat) : Int := if m < n then -1 else if n < m then 1 else 0
def cmpV (f g : Hd) (l m : List Nat) : Int := if okF f l && okF g m then cmpN (keyF f) (keyF g) else 0
def cmpE (f g : Hd) (l m : List Nat) : Nat := if okF f l && okF g m then 0 else 2
def AnsC (f g : Hd) (l m : List Nat) (e : Ending) : Prop := e = .returned (.tuple #[.int .i64 (cmpV f g l m), .int .i64 (cmpE f g l m : Nat)])

set_option maxHeartbeats 400000 in
theorem nan_any (m : Nat) (w : World) : Calls Tryd.prog 40 #[.int .u64 (m : Nat)] w fun e w' => e = .returned (.bool false) ∧ w' = w := by
  have h : ((m : Int) != (m : Int)) = false := by simp
  go_enter Tryd.func40, Tryd.ntmps40
  go_wp2
  go_ret
  exact ⟨by simp, rfl⟩

set_option maxHeartbeats 800000 in
theorem cmp_any (m n : Nat) (w : World) : Calls Tryd.prog 27 #[.int .u64 (m : Nat), .int .u64 (n : Nat)] w fun e w' => e = .returned (.int .i64 (cmpN m n)) ∧ w' = w := by
  unfold cmpN
  by_cases h1 : m < n
  · rw [if_pos h1]
    have d1 : decide (m < n) = true := decide_eq_true h1
    go_enter Tryd.func27, Tryd.ntmps27
    go_wp2_with (go_at_call 40; refine (nan_any _ _).mono ?_; rintro e w1 ⟨rfl, rfl⟩)
    go_ret
    exact ⟨rfl, rfl⟩
  rw [if_neg h1]
  have d1 : decide (m < n) = false := decide_eq_false h1
  by_cases h2 : n < m
  · rw [if_pos h2]
    have d2 : decide (n < m) = true := decide_eq_true h2
    clear h1
    go_enter Tryd.func27, Tryd.ntmps27
    go_wp2_with (go_at_call 40; refine (nan_any _ _).mono ?_; rintro e w1 ⟨rfl, rfl⟩)
    go_ret
    exact ⟨rfl, rfl⟩
  rw [if_neg h2]
  have d2 : decide (n < m) = false := decide_eq_false h2
  clear h1 h2
  go_enter Tryd.func27, Tryd.ntmps27
  go_wp2_with (go_at_call 40; refine (nan_any _ _).mono ?_; rintro e w1 ⟨rfl, rfl⟩)
  go_ret
  exact ⟨rfl, rfl⟩

set_option maxHeartbeats 1600000 in
set_option maxRecDepth 100000 in
theorem compare_any (f g : Hd) (a a' : Option Addr) (cap cap' : Nat) (l m : List Nat) (w : World) (h : Bs w a cap l) (h' : Bs w a' cap' m) (hI : 0 ≤ f.I) (hJ : 0 ≤ g.I) (hl : Longer w) :
    Calls Tryd.prog 12 #[.agg (f.cs (.slice a l.length cap)), .agg (g.cs (.slice a' m.length cap'))] w fun e w' => AnsC f g l m e ∧ Nb w w' := by
  have hL := h.len
  have hM := h'.len
  have F1 := Lib.hid (fun w' (n : Nb w w') => key_any f a cap l w' (h.below n) hI (hl.below n))
  have F2 := Lib.hid (fun w' (n : Nb w w') => key_any g a' cap' m w' (h'.below n) hJ (hl.below n))
  unfold AnsC cmpV cmpE
  unfold AnsK keyV checkN at F1 F2
  clear h h' hl
  cases hf : okF f l with
  | false =>
    rw [hf] at F1
    simp only [Bool.false_eq_true, if_false, Bool.false_and] at F1 ⊢
    clear F2 hf hI hJ
    obtain ⟨K, I, X, R, B, E, S, D, V, A⟩ := f
    obtain ⟨K', I', X', R', B', E', S', D', V', A'⟩ := g
    simp only [Hd.cs] at F1 ⊢
    go_enter Tryd.func12, Tryd.ntmps12
    go_wp2_with fail
    refine (F1.out _ ((Nb.rfl.al _).al _)).mono ?_
    rintro e w1 ⟨rfl, n1⟩
    go_wp2
    go_ret2
    exact ⟨rfl, ((Nb.rfl.al _).al _).tr n1⟩
  | true =>
    rw [hf] at F1
    simp only [if_true, Bool.true_and] at F1 ⊢
    generalize keyF f = kf at *
    cases hg : okF g m with
    | false =>
      rw [hg] at F2
      simp only [Bool.false_eq_true, if_false] at F2 ⊢
      clear hf hg hI hJ
      obtain ⟨K, I, X, R, B, E, S, D, V, A⟩ := f
      obtain ⟨K', I', X', R', B', E', S', D', V', A'⟩ := g
      have Q := Lib.hid (Blk.new (w.alloc (.cells #[.int .i64 K, .int .u32 I, .bool X, .bool R, .bool B, .bool E, .bool S, .int .u8 D, .int .u8 V, .int .u32 A, .slice a l.length cap] 25)) #[.int .i64 K', .int .u32 I', .bool X', .bool R', .bool B', .bool E', .bool S', .int .u8 D', .int .u8 V', .int .u32 A', .slice a' m.length cap'] 25)
      simp only [Hd.cs] at F1 F2 ⊢
      go_enter Tryd.func12, Tryd.ntmps12
      go_wp2_with fail
      refine (F1.out _ ((Nb.rfl.al _).al _)).mono ?_
      rintro e w1 ⟨rfl, n1⟩
      have q := Q.out.nb n1
      rw [World.size_alloc] at q
      obtain ⟨c0, c1, c2, c3, c4, c5, c6, c7, c8, c9, c10⟩ := q.c11
      have N1 := Lib.hid (((Nb.rfl.al _).al _).tr n1)
      clear n1 q
      go_wp2_with fail
      refine (F2.out _ N1.out).mono ?_
      rintro e w2 ⟨rfl, n2⟩
      go_wp2
      go_ret2
      exact ⟨rfl, N1.out.tr n2⟩
    | true =>
      rw [hg] at F2
      simp only [if_true] at F2 ⊢
      generalize keyF g = kg at *
      clear hf hg hI hJ
      obtain ⟨K, I, X, R, B, E, S, D, V, A⟩ := f
      obtain ⟨K', I', X', R', B', E', S', D', V', A'⟩ := g
      have Q := Lib.hid (Blk.new (w.alloc (.cells #[.int .i64 K, .int .u32 I, .bool X, .bool R, .bool B, .bool E, .bool S, .int .u8 D, .int .u8 V, .int .u32 A, .slice a l.length cap] 25)) #[.int .i64 K', .int .u32 I', .bool X', .bool R', .bool B', .bool E', .bool S', .int .u8 D', .int .u8 V', .int .u32 A', .slice a' m.length cap'] 25)
      simp only [Hd.cs] at F1 F2 ⊢
      go_enter Tryd.func12, Tryd.ntmps12
      go_wp2_with fail
      refine (F1.out _ ((Nb.rfl.al _).al _)).mono ?_
      rintro e w1 ⟨rfl, n1⟩
      have q := Q.out.nb n1
      rw [World.size_alloc] at q
      obtain ⟨c0, c1, c2, c3, c4, c5, c6, c7, c8, c9, c10⟩ := q.c11
      have N1 := Lib.hid (((Nb.rfl.al _).al _).tr n1)
      clear n1 q
      go_wp2_with fail
      refine (F2.out _ N1.out).mono ?_
      rintro e w2 ⟨rfl, n2⟩
      have N2 := Lib.hid (N1.out.tr n2)
      clear n2 c0 c1 c2 c3 c4 c5 c6 c7 c8 c9 c10
      go_wp2_with fail
      refine (cmp_any kf kg _).mono ?_
      rintro e w3 ⟨rfl, rfl⟩
      go_wp2
      go_ret2
      exact ⟨rfl, N2.out⟩
end Go.Proofs.YtfcmoamooafomaaDoor
