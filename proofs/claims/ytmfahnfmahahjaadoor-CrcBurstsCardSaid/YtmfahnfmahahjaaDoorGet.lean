/- Contracts of Get, Bytes and Pack. Condition: at most a million bytes. -/
import Derived.Test.YtmfahnfmahahjaaDoorPackP
import Derived.RegionTactic
/-
  Get, Bytes, Pack.
-/
namespace Go.Proofs.YtmfahnfmahahjaaDoor
open Go.RowKit

def getOk (l : List Nat) : Bool := decide (l.length ≤ 64) && chk l

theorem hcf (F : Nat) (fn : Func) (hf : Tryd.prog.funcs[F]? = some fn) (hb : fn.body.isNone = false) (hn : (fn.name == "runtime.NumGoroutine") = false) : ∀ args w, (callFunc F args).run Tryd.prog w = .ok (.enter F args) w := by
  intro args w
  have h1 : ¬ fn.name = "runtime.NumGoroutine" := by simpa using hn
  have h2 : ¬ fn.body = none := by intro h; rw [h] at hb; simp at hb
  simp [callFunc, hf, h1, h2]

set_option maxHeartbeats 800000 in
set_option maxRecDepth 100000 in
theorem get_bad (a : Option Addr) (cap : Nat) (l : List Nat) (w : World) (h : Bs w a cap l) (hc : getOk l = false) :
    Calls Tryd.prog 31 #[.slice a l.length cap] w fun e w' => e = .returned (.tuple #[.int .u64 0, .int .i64 2]) ∧ Nb w w' := by
  have hL := h.len
  by_cases h1 : l.length ≤ 64
  · have hc' : chk l = false := by simpa [getOk, h1] using hc
    have HC := Lib.hid hc'
    have H := Lib.hid h
    clear hc hc' h
    have d1 : decide (64 < (l.length : Int)) = false := by simp; omega
    go_enter Tryd.func31, Tryd.ntmps31
    go_wp2_with fail
    refine (check_bad a cap l w H.out HC.out).mono ?_
    rintro e w' ⟨rfl, rfl⟩
    go_wp2
    go_ret2
    exact ⟨rfl, Nb.rfl⟩
  · clear hc
    have d1 : decide (64 < (l.length : Int)) = true := by simp; omega
    go_enter Tryd.func31, Tryd.ntmps31
    go_wp2
    go_ret2
    exact ⟨rfl, Nb.rfl⟩
set_option maxHeartbeats 800000 in
set_option maxRecDepth 100000 in
theorem get_ok (a : Option Addr) (cap : Nat) (l : List Nat) (w : World) (h : Bs w a cap l) (hc : getOk l = true) :
    Calls Tryd.prog 31 #[.slice a l.length cap] w fun e w' => e = .returned (.tuple #[.int .u64 (numN l), .int .i64 0]) ∧ Nb w w' := by
  have hL := h.len
  have h1 : l.length ≤ 64 := by simp [getOk] at hc; exact hc.1
  have hc' : chk l = true := by simpa [getOk, h1] using hc
  have hbit := Lib.hid (chk_bit hc')
  have HC := Lib.hid hc'
  have H := Lib.hid h
  clear hc hc' h
  have d1 : decide (64 < (l.length : Int)) = false := by simp; omega
  have hmf : ∀ (fn : Fn) (first cap : Array Value) (w : World), (Instr.makeFunc fn first cap).run Tryd.prog w = .ok (.func fn first cap) w := fun _ _ _ _ => rfl
  go_enter Tryd.func31, Tryd.ntmps31
  go_wp2_with fail
  refine (check_ok a cap l w H.out HC.out).mono ?_
  rintro e w' ⟨rfl, rfl⟩
  go_wp2_with fail
  refine (eachB_any 37 (.pointer (some ⟨w.heap.size, 0, none⟩)) a cap l (fun k wr => Blk wr w.heap.size #[.int .u64 (numN (l.take k))] 72 ∧ Nb w wr) _ hL ⟨Blk.new _ _ _, Nb.rfl.al _⟩ (fun k wr hI => H.out.below hI.2) (hcf _ _ Tryd.func37 (by rfl) (by decide +kernel)) ?_).mono ?_
  · rintro k x wr ⟨hb, hnb⟩ hx
    have hk : k < l.length := (List.getElem?_eq_some_iff.1 hx).1
    have h1 := numN_lt (l.take k) (fun x hx => hbit.out x (List.mem_of_mem_take hx))
    rw [List.length_take, Nat.min_eq_left (by omega)] at h1
    have h2 : 2 ^ k ≤ 2 ^ 63 := Nat.pow_le_pow_right (by omega) (by omega)
    refine (numbit_any w.heap.size (numN (l.take k)) x wr hb (by omega) (hbit.out x (List.mem_of_getElem? hx))).mono ?_
    rintro e w' ⟨rfl, hb', hk'⟩
    exact ⟨rfl, by rw [take_snoc' hx, numN_snoc]; exact hb', hnb.trans (hk'.toBelow hnb.size (by rintro k rfl; exact Nat.le_refl _))⟩
  · rintro e w2 ⟨rfl, hb, hnb⟩
    rw [List.take_of_length_le (Nat.le_refl _)] at hb
    have c0 : w2.cell? ⟨w.heap.size, 0, none⟩ = some (.int .u64 (numN l)) := hb.cell 0
    clear hb
    go_wp2
    go_ret2
    exact ⟨rfl, hnb⟩

end Go.Proofs.YtmfahnfmahahjaaDoor
