
/- What a row's list of package-level variables gives: the table of kinds holds what the program's text lays there. No conditions. -/
import Derived.Test.YtaiplhlcldbnkaaDoorCrcF
import Derived.Test.YtaiplhlcldbnkaaDoorIn
import Derived.Test.YtaiplhlcldbnkaaDoorRows
import Derived.LaidMore
import Derived.OpenShut
import Derived.Deep.Strs
namespace Go.Proofs.YtaiplhlcldbnkaaDoor
set_option linter.unusedVariables false
set_option linter.unusedSimpArgs false
open Go.RowKit

theorem gKinds : Tryd.prog.globalNamed "omnibus/crc.kinds" = some 1 := by kernel_rfl
theorem tKinds : (Tryd.prog.globals[1]?).map (·.type) = some 117 := by kernel_rfl
theorem cellsRule : Tryd.prog.cellsOf 107 = 3 := by kernel_rfl
theorem cellsInt : Tryd.prog.cellsOf 3 = 1 := by kernel_rfl
theorem cellsU64 : Tryd.prog.cellsOf 54 = 1 := by kernel_rfl

set_option maxRecDepth 100000 in
theorem kinds_row {H : Type} {enc : TypeId × Value → H} {w : World} {base : Nat} {sp : Nat → Bool} {held : Bool} {fuel : Nat} {cs : List Value} {a b c : Int} {p : List MemPlace}
    (h : DataW.trod enc Tryd.prog w base sp held fuel 107 cs = some (.agg [.lit (.int .i64 a), .lit (.int .u64 b), .lit (.int .u64 c)], p)) : cs = [.int .i64 a, .int .u64 b, .int .u64 c] := by
  obtain ⟨y0, y1, y2, n, hx, hl, h0, h1, h2⟩ := Go.Deep.trod_struct3 Tryd.underlying107 h
  obtain ⟨n0, c0, e0, _⟩ := DataW.trod_int Tryd.underlying3 h0
  obtain ⟨n1, c1, e1, _⟩ := DataW.trod_int Tryd.underlying54 h1
  obtain ⟨n2, c2, e2, _⟩ := DataW.trod_int Tryd.underlying54 h2
  simp only [cellsInt, cellsU64] at c0 c1 c2
  subst e0 e1 e2
  simp only [Prod.mk.injEq, DataW.agg.injEq, List.cons.injEq, DataW.lit.injEq, Lit.int.injEq, and_true, true_and] at hx
  obtain ⟨⟨rfl, rfl, rfl⟩, _⟩ := hx
  rw [cellsRule] at hl
  match cs, hl with
  | [x, y, z], _ =>
    simp at c0 c1 c2
    rw [c0, c1, c2]

theorem kinds_of {W : World} (h : laidMetH Tryd.prog [("omnibus/crc.kinds", Rows.laid_omnibus_crc_kinds)] W) : Kinds W := by
  rw [MakeChecks.laidMetH_plain _ _ _ (by kernel_rfl)] at h
  obtain ⟨ps, ⟨g0, t0, cs0, f0, p0, q0, hg0, ht0, hv0, hd0, _, _⟩, _, _⟩ := h
  obtain rfl := Option.some.inj (gKinds.symm.trans hg0)
  obtain rfl := Option.some.inj (tKinds.symm.trans ht0)
  obtain ⟨xs, m1, rfl, hx1, hlen, hn6, hel⟩ := DataW.trod_array Tryd.underlying117 hd0
  rw [cellsRule] at hel
  simp only [Prod.mk.injEq] at hx1
  obtain ⟨hx1, _⟩ := hx1
  have hrow : ∀ i a b c p, i < 6 → xs[i]? = some (.agg [.lit (.int .i64 a), .lit (.int .u64 b), .lit (.int .u64 c)], p) → cs0.toList[i * 3]? = some (.int .i64 a) ∧ cs0.toList[i * 3 + 1]? = some (.int .u64 b) ∧ cs0.toList[i * 3 + 2]? = some (.int .u64 c) := by
    intro i a b c p hi hx
    have h1 := kinds_row ((hel i hi).trans hx)
    refine ⟨?_, ?_, ?_⟩
    · have := congrArg (·[0]?) h1; simpa [List.getElem?_take, List.getElem?_drop] using this
    · have := congrArg (·[1]?) h1; simpa [List.getElem?_take, List.getElem?_drop] using this
    · have := congrArg (·[2]?) h1; simpa [List.getElem?_take, List.getElem?_drop] using this
  intro i v hv
  rw [World.var?_cell gKinds hv0 i]
  rw [← Array.getElem?_toList]
  match xs, hn6, hx1, hrow with
  | [(d0, p0), (d1, p1), (d2, p2), (d3, p3), (d4, p4), (d5, p5)], _, hx1, hrow =>
    simp only [Rows.laid_omnibus_crc_kinds, List.map_cons, List.map_nil, DataW.agg.injEq, List.cons.injEq, and_true] at hx1
    obtain ⟨rfl, rfl, rfl, rfl, rfl, rfl⟩ := hx1
    have r0 := hrow 0 _ _ _ _ (by decide) rfl
    have r1 := hrow 1 _ _ _ _ (by decide) rfl
    have r2 := hrow 2 _ _ _ _ (by decide) rfl
    have r3 := hrow 3 _ _ _ _ (by decide) rfl
    have r4 := hrow 4 _ _ _ _ (by decide) rfl
    have r5 := hrow 5 _ _ _ _ (by decide) rfl
    have hi : i < 18 := (List.getElem?_eq_some_iff.1 hv).1
    rcases (by omega : i = 0 ∨ i = 1 ∨ i = 2 ∨ i = 3 ∨ i = 4 ∨ i = 5 ∨ i = 6 ∨ i = 7 ∨ i = 8 ∨ i = 9 ∨ i = 10 ∨ i = 11 ∨ i = 12 ∨ i = 13 ∨ i = 14 ∨ i = 15 ∨ i = 16 ∨ i = 17) with rfl | rfl | rfl | rfl | rfl | rfl | rfl | rfl | rfl | rfl | rfl | rfl | rfl | rfl | rfl | rfl | rfl | rfl
    all_goals
      simp only [kindsTab, List.getElem?_cons_succ, List.getElem?_cons_zero, Option.some.injEq] at hv
      subst hv
      first
      | exact r0.1 | exact r0.2.1 | exact r0.2.2 | exact r1.1 | exact r1.2.1 | exact r1.2.2 | exact r2.1 | exact r2.2.1 | exact r2.2.2
      | exact r3.1 | exact r3.2.1 | exact r3.2.2 | exact r4.1 | exact r4.2.1 | exact r4.2.2 | exact r5.1 | exact r5.2.1 | exact r5.2.2
end Go.Proofs.YtaiplhlcldbnkaaDoor
