
/- The program's fifo in memory: New, Len, Over, Push, Pop, All, Clear. Conditions: the table of longer sizes holds what the program's text lays there; at most a million that found no place. -/
import Derived.Test.YtlmbggmamemmjaaDoorFiM
import Derived.Test.YtlmbggmamemmjaaDoorGj
import Derived.Deep.RegionWith
import Derived.Deep.RegionHeld3
namespace Go.Proofs.YtlmbggmamemmjaaDoor
set_option linter.unusedVariables false
set_option linter.unusedSimpArgs false
open Go.RowKit

/-- What a new fifo is. -/
def NewF (w : World) (room : Nat) (e : Ending) (w' : World) : Prop :=
  ∃ R F, e = .returned (.tuple #[.pointer (some ⟨R, 0, none⟩), .int .i64 0]) ∧ FiAt w' (.pointer (some ⟨R, 0, none⟩)) ⟨room, 0, []⟩ F ∧ (∀ k, F k → w.heap.size ≤ k) ∧ Nb w w'
/-- What a call leaves that answers a value. -/
def TurnF (w : World) (v : Value) (q : Fi) (u : Value) (F : Nat → Prop) (e : Ending) (w' : World) : Prop :=
  ∃ F', e = .returned u ∧ FiAt w' v q F' ∧ Kp F w w' ∧ ∀ k, F' k → F k ∨ w.heap.size ≤ k

set_option maxHeartbeats 800000 in
set_option maxRecDepth 100000 in
theorem newF_any (room : Nat) (h : room ≤ 64) (w : World) : Calls Tryd.prog 11 #[.int .i64 (room : Nat)] w (NewF w room) := by
  have d1 : decide ((room : Int) < 0) = false := decide_eq_false (by omega)
  have d2 : decide ((64 : Int) < (room : Int)) = false := decide_eq_false (by omega)
  have h64 := Lib.hid h
  clear h
  go_enter Tryd.func11, Tryd.ntmps11
  go_wp2_with (refine wpList_build16 rfl _ rfl _ rfl ?_; intro Z hZ; have HZ := Lib.hid hZ; clear hZ)
  go_ret2
  exact ⟨w.heap.size, fun k => k = w.heap.size ∨ False, rfl, ⟨w.heap.size, 0, fun _ => False, rfl, ⟨⟨Z, Blk.new w Z _, HZ.out.fi _ _⟩, fun k hk => hk.elim, Fi.Ok.new h64.out, by omega⟩, fun k => Iff.rfl⟩, fun k hk => by
    rcases hk with rfl | hk
    · exact Nat.le_refl _
    · exact hk.elim, Nb.rfl.al _⟩
theorem newF_bad (room : Int) (h : room < 0 ∨ 64 < room) (w : World) : Calls Tryd.prog 11 #[.int .i64 room] w fun e w' => e = .returned (.tuple #[.pointer none, .int .i64 2]) ∧ Nb w w' := by
  by_cases h0 : room < 0
  · have d1 : decide (room < 0) = true := decide_eq_true h0
    clear h
    go_enter Tryd.func11, Tryd.ntmps11
    go_wp2
    go_ret2
    exact ⟨rfl, Nb.rfl⟩
  · have h1 : 64 < room := by omega
    have d1 : decide (room < 0) = false := decide_eq_false h0
    have d2 : decide ((64 : Int) < room) = true := decide_eq_true h1
    clear h
    go_enter Tryd.func11, Tryd.ntmps11
    go_wp2
    go_ret2
    exact ⟨rfl, Nb.rfl⟩
theorem popF_nil (w : World) : Calls Tryd.prog 12 #[.pointer none] w fun e w' => e = .returned (.tuple #[.agg (dF.1.cs (.slice none 0 0)), .int .i64 1]) ∧ Nb w w' := by
  go_enter Tryd.func12, Tryd.ntmps12
  go_wp2
  exact bodyPost_ret (v := .tuple #[.agg (dF.1.cs (.slice none 0 0)), .int .i64 1]) (by simp [results, Tryd.results12, go_sem, Hd.cs]) rfl ⟨rfl, Nb.rfl.al _⟩
set_option maxHeartbeats 400000 in
theorem lenF_any (v : Value) (q : Fi) (F : Nat → Prop) (w : World) (h : FiAt w v q F) : Calls Tryd.prog 19 #[v] w fun e w' => e = .returned (.int .i64 (q.its.length : Nat)) ∧ Nb w w' := by
  obtain ⟨R, first, D, rfl, m, _⟩ := h
  obtain ⟨cs, hb, hc⟩ := m.blk
  have k : w.cell? ⟨R, 707, none⟩ = some (.int .i64 (q.its.length : Nat)) := (hb.cell 707).trans (by first | exact hc.c3 | exact hc.c1)
  clear hb hc m
  go_enter Tryd.func19, Tryd.ntmps19
  go_wp2
  go_ret
  exact ⟨rfl, Nb.rfl⟩
set_option maxHeartbeats 400000 in
theorem overF_any (v : Value) (q : Fi) (F : Nat → Prop) (w : World) (h : FiAt w v q F) : Calls Tryd.prog 20 #[v] w fun e w' => e = .returned (.int .i64 (q.over : Nat)) ∧ Nb w w' := by
  obtain ⟨R, first, D, rfl, m, _⟩ := h
  obtain ⟨cs, hb, hc⟩ := m.blk
  have k : w.cell? ⟨R, 1, none⟩ = some (.int .i64 (q.over : Nat)) := (hb.cell 1).trans (by first | exact hc.c3 | exact hc.c1)
  clear hb hc m
  go_enter Tryd.func20, Tryd.ntmps20
  go_wp2
  go_ret
  exact ⟨rfl, Nb.rfl⟩
end Go.Proofs.YtlmbggmamemmjaaDoor
