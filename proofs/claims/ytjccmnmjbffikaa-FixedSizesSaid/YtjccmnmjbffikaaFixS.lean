
/- Contracts of package fixed's state: begin, due, add, stuff, plain. No conditions but small numbers. -/
import Derived.Test.YtjccmnmjbffikaaFixP
import Derived.Test.YtjccmnmjbffikaaIn
namespace Go.Proofs.Ytjccmnmjbffikaa
open Go.RowKit

/-- A state in block R. -/
def StA (w : World) (R : Nat) (E lf ls sz : Nat) : Prop := Blk w R #[.int .i64 E, .int .i64 lf, .int .i64 ls, .int .i64 sz] 59
theorem StA.keep {F : Nat → Prop} {w w' : World} {R E lf ls sz : Nat} (h : StA w R E lf ls sz) (hk : Kp F w w') (hn : ¬ F R) : StA w' R E lf ls sz := Blk.keep h hk hn

/-- What a step of a state leaves. -/
def StStep (w : World) (R E lf ls sz : Nat) (w' : World) : Prop := StA w' R E lf ls sz ∧ Kp (fun k => k = R) w w'

theorem StStep.drew {w : World} {R E lf ls sz : Nat} {w' : World} (h : StStep w R E lf ls sz w') : StStep w R E lf ls sz w'.drew :=
  ⟨h.1, h.2.tr (F' := fun k => k = R) (Kp.ofNb (Nb.drewN w' 1)) (fun _ h => .inl h)⟩

set_option maxHeartbeats 800000 in
set_option maxRecDepth 100000 in
theorem fxdue_any (R E lf ls sz : Nat) (w : World) (h : StA w R E lf ls sz) :
    Calls Try.prog 24 #[.pointer (some ⟨R, 0, none⟩)] w fun e w' => e = .returned (.bool (decide (lf = 0))) ∧ w = w' := by
  have c1 : w.cell? ⟨R, 1, none⟩ = some (.int .i64 lf) := Blk.cell h 1
  have hd : ((lf : Int) == 0) = decide (lf = 0) := by
    by_cases h : lf = 0
    · subst h; rfl
    · rw [decide_eq_false h, beq_eq_false_iff_ne]; omega
  go_enter Try.func24, Try.ntmps24
  go_wp2
  go_ret
  exact ⟨rfl, rfl⟩

set_option maxHeartbeats 800000 in
set_option maxRecDepth 100000 in
theorem fxadd_any (R E lf ls sz b : Nat) (w : World) (h : StA w R E lf ls sz) (hs : sz ≤ 1000000) :
    Calls Try.prog 30 #[.pointer (some ⟨R, 0, none⟩), .int .i64 b] w fun e w' => e = .returned (.tuple #[]) ∧ StStep w R E lf b (sz + 1) w' := by
  have c2 : w.cell? ⟨R, 2, none⟩ = some (.int .i64 ls) := Blk.cell h 2
  have c3 : w.cell? ⟨R, 3, none⟩ = some (.int .i64 sz) := Blk.cell h 3
  have f2 := Blk.frozen h 2
  have f3 := Blk.frozen h 3
  have hfin : StStep w R E lf b (sz + 1) ((w.setCell ⟨R, 2, none⟩ (.int .i64 b)).setCell ⟨R, 3, none⟩ (.int .i64 ((sz : Int) + 1))) := by
    refine ⟨?_, (Kp.set (F := fun k => k = R) rfl).tr (Kp.set (F := fun k => k = R) rfl) (fun k h => .inl h)⟩
    have := (Blk.set h 2 (.int .i64 b)).set 3 (.int .i64 ((sz : Int) + 1))
    simpa [StA] using this
  have HF := Lib.hid hfin
  clear hfin h
  go_enter Try.func30, Try.ntmps30
  go_wp2
  go_region
  go_wp2
  go_end0
  exact ⟨rfl, by simpa using HF.out.drew⟩

theorem cast_sub1 {n : Nat} (h : n ≤ 1) : (1 : Int) - (n : Int) = ((1 - n : Nat) : Int) := by omega
theorem cast_pred {n : Nat} (h : 1 ≤ n) : (n : Int) - 1 = ((n - 1 : Nat) : Int) := by omega

set_option maxHeartbeats 800000 in
set_option maxRecDepth 100000 in
/-- A stuff bit. -/
theorem fxstuff_any (R E lf ls sz : Nat) (w : World) (h : StA w R E lf ls sz) (hs : sz ≤ 1000000) (hl : ls ≤ 1) :
    Calls Try.prog 25 #[.pointer (some ⟨R, 0, none⟩)] w fun e w' => e = .returned (.int .u8 ((1 - ls : Nat) : Int)) ∧ StStep w R E E (1 - ls) (sz + 1) w' := by
  have c2 : w.cell? ⟨R, 2, none⟩ = some (.int .i64 ls) := Blk.cell h 2
  have H := Lib.hid h
  have HC := Lib.hid (cast_sub1 hl)
  obtain ⟨q, hq⟩ : ∃ q, q = 1 - ls := ⟨_, rfl⟩
  have hq1 : q ≤ 1 := by omega
  rw [← hq] at HC ⊢
  clear h hq
  go_enter Try.func25, Try.ntmps25
  go_wp2_with fail
  rw [HC.out]
  refine (fxadd_any R E lf ls sz q w H.out hs).mono ?_
  rintro e w1 ⟨rfl, h1, hk⟩
  have d0 : w1.cell? ⟨R, 0, none⟩ = some (.int .i64 E) := Blk.cell h1 0
  have d1 : w1.cell? ⟨R, 1, none⟩ = some (.int .i64 lf) := Blk.cell h1 1
  have d2 : w1.cell? ⟨R, 2, none⟩ = some (.int .i64 q) := Blk.cell h1 2
  have f1 := Blk.frozen h1 1
  have hfin : StStep w R E E q (sz + 1) (w1.setCell ⟨R, 1, none⟩ (.int .i64 E)) := by
    refine ⟨?_, hk.tr (Kp.set (F := fun k => k = R) rfl) (fun k h => .inl h)⟩
    have := Blk.set h1 1 (.int .i64 E)
    simpa [StA] using this
  have HF := Lib.hid hfin
  clear hfin h1 hk HC H c2
  go_wp2
  go_region
  go_wp2
  go_ret
  exact ⟨rfl, by simpa using HF.out.drew⟩

set_option maxHeartbeats 800000 in
set_option maxRecDepth 100000 in
/-- A bit that is none. -/
theorem fxplain_any (R E lf ls sz b : Nat) (w : World) (h : StA w R E lf ls sz) (hs : sz ≤ 1000000) (hb : b < 256) (hl : 1 ≤ lf) (hlf : lf ≤ 64) :
    Calls Try.prog 26 #[.pointer (some ⟨R, 0, none⟩), .int .u8 b] w fun e w' => e = .returned (.tuple #[]) ∧ StStep w R E (lf - 1) b (sz + 1) w' := by
  have H := Lib.hid h
  have HC := Lib.hid (cast_pred hl)
  clear h
  go_enter Try.func26, Try.ntmps26
  go_wp2_with fail
  refine (fxadd_any R E lf ls sz b w H.out hs).mono ?_
  rintro e w1 ⟨rfl, h1, hk⟩
  have d1 : w1.cell? ⟨R, 1, none⟩ = some (.int .i64 lf) := Blk.cell h1 1
  have f1 := Blk.frozen h1 1
  have hfin : StStep w R E (lf - 1) b (sz + 1) (w1.setCell ⟨R, 1, none⟩ (.int .i64 ((lf : Int) - 1))) := by
    refine ⟨?_, hk.tr (Kp.set (F := fun k => k = R) rfl) (fun k h => .inl h)⟩
    have := Blk.set h1 1 (.int .i64 ((lf : Int) - 1))
    rw [HC.out] at this ⊢
    simpa [StA] using this
  have HF := Lib.hid hfin
  clear hfin h1 hk HC H
  go_wp2
  go_region
  go_wp2
  go_end0
  exact ⟨rfl, by simpa using HF.out.drew⟩

/-- May a state begin so? -/
def bgOk (p : Nat) (E : Int) : Bool := decide (p ≤ 1) && decide (1 ≤ E) && decide (E ≤ 64)

set_option maxHeartbeats 800000 in
set_option maxRecDepth 100000 in
theorem fxbegin_bad (p : Nat) (E : Int) (A : Bool) (w : World) (hp : p < 256) (h : bgOk p E = false) :
    Calls Try.prog 23 #[.int .u8 p, .agg #[.int .i64 E, .bool A]] w fun e w' => e = .returned (.tuple #[.pointer none, .int .i64 2]) ∧ Nb w w' := by
  have h' : ¬ (p ≤ 1 ∧ 1 ≤ E ∧ E ≤ 64) := by
    intro ⟨h1, h2, h3⟩
    simp [bgOk, h1, h2, h3] at h
  clear h
  by_cases h1 : p ≤ 1
  · by_cases h2 : 1 ≤ E
    · have h3 : 64 < E := by omega
      clear h'
      go_enter Try.func23, Try.ntmps23
      go_wp2
      go_ret2
      exact ⟨rfl, Nb.rfl.al _⟩
    · have h2 : E < 1 := by omega
      clear h'
      go_enter Try.func23, Try.ntmps23
      go_wp2
      go_ret2
      exact ⟨rfl, Nb.rfl.al _⟩
  · clear h'
    go_enter Try.func23, Try.ntmps23
    go_wp2
    go_ret2
    exact ⟨rfl, Nb.rfl.al _⟩

set_option maxHeartbeats 800000 in
set_option maxRecDepth 100000 in
theorem fxbegin_ok (p E : Nat) (A : Bool) (w : World) (hp : p ≤ 1) (h1 : 1 ≤ E) (h2 : E ≤ 64) :
    Calls Try.prog 23 #[.int .u8 p, .agg #[.int .i64 E, .bool A]] w fun e w' => (∃ R, e = .returned (.tuple #[.pointer (some ⟨R, 0, none⟩), .int .i64 0]) ∧ StA w' R E (if A then 0 else E) p 0 ∧ w.heap.size ≤ R) ∧ Nb w w' := by
  cases A with
  | false =>
    go_enter Try.func23, Try.ntmps23
    go_wp2
    go_ret2
    refine ⟨⟨w.heap.size + 1, rfl, ?_, by omega⟩, (Nb.rfl.al _).al _⟩
    have := Blk.new (w.alloc (.cells #[.int .i64 E, .bool false] 29)) #[.int .i64 E, .int .i64 (if false then 0 else E : Nat), .int .i64 p, .int .i64 0] 59
    simpa [StA] using this
  | true =>
    go_enter Try.func23, Try.ntmps23
    go_wp2
    go_ret2
    refine ⟨⟨w.heap.size + 1, rfl, ?_, by omega⟩, (Nb.rfl.al _).al _⟩
    have := Blk.new (w.alloc (.cells #[.int .i64 E, .bool true] 29)) #[.int .i64 E, .int .i64 (if true then 0 else E : Nat), .int .i64 p, .int .i64 0] 59
    simpa [StA] using this
end Go.Proofs.Ytjccmnmjbffikaa
