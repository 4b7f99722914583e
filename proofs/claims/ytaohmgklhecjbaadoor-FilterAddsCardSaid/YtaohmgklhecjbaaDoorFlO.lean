
/- A bank that came in, opened. No conditions. -/
import Derived.Test.YtaohmgklhecjbaaDoorFlV
namespace Go.Proofs.YtaohmgklhecjbaaDoor
set_option linter.unusedVariables false
set_option linter.unusedSimpArgs false
open Go.RowKit Go.ChangeShapes Go.WideShapes

set_option maxHeartbeats 800000 in
theorem bank_open {H : Type} {enc : TypeId × Value → H} {w : World} {fuel : Nat} {v0 v1 : Value} {d : DataW H} {p : List MemPlace}
    (h : DataW.trod enc Tryd.prog w 0 (fun _ => true) true fuel 24 [v0, v1] = some (d, p)) (hr : (d.weights Tryd.prog 24).all (· ≤ reachBytes) = true) :
    ∃ a cap L e, v0 = .slice a (List.length L) cap ∧ v1 = .bool e ∧ Rls w a cap L ∧ (a = none → cap = 0) ∧ cap * 32 ≤ 140737488351232 := by
  obtain ⟨xs, n, _, hx, _, hlen, hf⟩ := DataW.trod_struct Tryd.underlying24 h
  match xs, hlen, hx, hf with
  | [x0, x1], _, hx, hf =>
    have h0 := hf 0 _ rfl
    have h1 := hf 1 _ rfl
    have t0 : DataW.trod enc Tryd.prog w 0 (fun _ => true) true n 22 (([v0, v1].drop 0).take (Tryd.prog.cellsOf 22)) = some x0 := h0
    have t1 : DataW.trod enc Tryd.prog w 0 (fun _ => true) true n 4 (([v0, v1].drop 1).take (Tryd.prog.cellsOf 4)) = some x1 := h1
    rw [show Tryd.prog.cellsOf 22 = 1 from by kernel_rfl] at t0
    rw [show Tryd.prog.cellsOf 4 = 1 from by kernel_rfl] at t1
    have u0 : DataW.trod enc Tryd.prog w 0 (fun _ => true) true n 22 [v0] = some x0 := t0
    have u1 : DataW.trod enc Tryd.prog w 0 (fun _ => true) true n 4 [v1] = some x1 := t1
    simp only [Prod.mk.injEq, List.map_cons, List.map_nil] at hx
    obtain ⟨hd, _⟩ := hx
    subst hd
    have hw : (DataW.weightsEach Tryd.prog [22, 4] [x0.1, x1.1]).all (· ≤ reachBytes) = true := by
      simp only [DataW.weights, Tryd.underlying24] at hr
      exact hr
    simp only [DataW.weightsEach, List.append_nil, List.all_append, Bool.and_eq_true] at hw
    obtain ⟨a, cap, L, e0, hb, hn, hc⟩ := rules_open u0 hw.1
    obtain ⟨N, e1, _⟩ := DataW.trod_bool Tryd.underlying4 u1
    exact ⟨a, cap, L, N, e0, by simpa using e1, hb, hn, hc⟩
end Go.Proofs.YtaohmgklhecjbaaDoor
