
/- What an argument that is a slice of bytes reads as. No conditions. -/
import Derived.Test.YtaiplhlcldbnkaaDoorFre
import Derived.OpenShut
namespace Go.Proofs.YtaiplhlcldbnkaaDoor
set_option linter.unusedVariables false
set_option linter.unusedSimpArgs false
open Go.RowKit

theorem u16_of_wf {a : Int} (h : (Lit.int .u16 a).wf = true) : ∃ n : Nat, a = n ∧ n < 65536 := by
  have : 0 ≤ a ∧ a < 65536 := by
    simp [Lit.wf, IntKind.min, IntKind.max, IntKind.signed, IntKind.bits] at h
    omega
  obtain ⟨n, rfl⟩ := Int.eq_ofNat_of_zero_le this.1
  exact ⟨n, rfl, by omega⟩
theorem bytesU8 : Tryd.prog.bytesOf 5 = 1 := by kernel_rfl

theorem bytes_of_trod {H : Type} {enc : TypeId × Value → H} {w : World} {fuel : Nat} {v : Value} {y : DataW H × List MemPlace}
    (h : DataW.trod enc Tryd.prog w 0 (fun _ => true) true fuel 23 [v] = some y) (hr : (y.1.weights Tryd.prog 23).all (· ≤ reachBytes) = true) :
    ∃ a cap l, v = .slice a (List.length l) cap ∧ Bs w a cap l ∧ (a = none → cap = 0) ∧ cap ≤ 140737488351232 := by
  rcases Go.ChangeShapes.open_ints Tryd.underlying23 Tryd.underlying5 (by kernel_rfl) h with ⟨hcs, _⟩ | ⟨x, l, c, zs, hcs, _, hl, hm, hz, hy, hcell, hwz⟩
  · simp at hcs
    exact ⟨none, 0, [], by simpa using hcs, Bs.nil w, fun _ => rfl, by omega⟩
  · simp at hcs
    obtain ⟨l', hl', hb⟩ := Bs.ofRow (w := w) (a := some x) (len := l) (cap := c) (zs := zs) (.inr ⟨x, rfl, hl, hm, by simpa using hz, hcell, hwz⟩)
    subst hl'
    refine ⟨some x, c, l', hcs, hb, by simp, ?_⟩
    subst hy
    simp only [DataW.weights, Tryd.underlying23, List.all_cons, Bool.and_eq_true, decide_eq_true_eq, bytesU8, Go.ChangeShapes.lits, List.length_map, List.length_take, List.length_drop, reachBytes] at hr
    simp only [if_true] at hz
    have h1 := of_decide_eq_true hr.1
    rw [Nat.mul_one] at h1
    have h2 : min l'.length zs.length = l'.length := Nat.min_eq_left (by omega)
    rw [h2] at h1
    omega
theorem bytes_of_slice {H : Type} {enc : TypeId × Value → H} {w : World} {fuel : Nat} {a : Option Addr} {len cap : Nat} {d : DataW H} {p : List MemPlace}
    (h : DataW.trod enc Tryd.prog w 0 (fun _ => true) true fuel 23 [.slice a len cap] = some (d, p)) (hr : (d.weights Tryd.prog 23).all (· ≤ reachBytes) = true) : ∃ l, len = List.length l ∧ Bs w a cap l ∧ (a = none → cap = 0) ∧ cap ≤ 140737488351232 := by
  obtain ⟨a', cap', l, e, hb, hn, hc⟩ := bytes_of_trod h hr
  simp only [Value.slice.injEq] at e
  obtain ⟨rfl, rfl, rfl⟩ := e
  exact ⟨l, rfl, hb, hn, hc⟩
end Go.Proofs.YtaiplhlcldbnkaaDoor
