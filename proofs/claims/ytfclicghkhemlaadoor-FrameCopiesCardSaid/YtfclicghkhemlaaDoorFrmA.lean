
/- The document's examples of layer 5; what the row's list of package-level variables gives: the table of longer sizes holds what the program's text lays there. No conditions. -/
import Derived.Test.YtfclicghkhemlaaDoorFrmK
import Derived.Test.YtfclicghkhemlaaDoorIn
import Derived.Test.YtfclicghkhemlaaDoorRows
import Derived.LaidMore
import Derived.OpenShut
import Derived.Deep.Strs
namespace Go.Proofs.YtfclicghkhemlaaDoor
open Go.RowKit

theorem gLonger : Tryd.prog.globalNamed "omnibus/frame.longer" = some 0 := by kernel_rfl
theorem tLonger : (Tryd.prog.globals[0]?).map (·.type) = some 44 := by kernel_rfl
theorem cellsIntF : Tryd.prog.cellsOf 3 = 1 := by kernel_rfl

theorem longer_of {W : World} (h : laidMetH Tryd.prog [("omnibus/frame.longer", Rows.laid_omnibus_frame_longer)] W) : Longer W := by
  rw [MakeChecks.laidMetH_plain _ _ _ (by kernel_rfl)] at h
  obtain ⟨ps, ⟨g0, t0, cs0, f0, p0, q0, hg0, ht0, hv0, hd0, _, _⟩, _, _⟩ := h
  obtain rfl := Option.some.inj (gLonger.symm.trans hg0)
  obtain rfl := Option.some.inj (tLonger.symm.trans ht0)
  obtain ⟨xs, m1, rfl, hx1, hlen, hn7, hel⟩ := DataW.trod_array Tryd.underlying44 hd0
  rw [cellsIntF] at hel
  simp only [Prod.mk.injEq] at hx1
  obtain ⟨hx1, _⟩ := hx1
  have hrow : ∀ i a p, i < 7 → xs[i]? = some (.lit (.int .i64 a), p) → cs0.toList[i]? = some (.int .i64 a) := by
    intro i a p hi hx
    obtain ⟨n0, c0, e0, _⟩ := DataW.trod_int Tryd.underlying3 ((hel i hi).trans hx)
    simp only [Prod.mk.injEq, DataW.lit.injEq, Lit.int.injEq, true_and] at e0
    obtain ⟨rfl, _⟩ := e0
    have := congrArg (·[0]?) c0
    simpa [List.getElem?_take, List.getElem?_drop] using this
  intro c hc
  rw [World.var?_cell gLonger hv0 c]
  rw [← Array.getElem?_toList]
  match xs, hn7, hx1, hrow with
  | [(d0, p0), (d1, p1), (d2, p2), (d3, p3), (d4, p4), (d5, p5), (d6, p6)], _, hx1, hrow =>
    simp only [Rows.laid_omnibus_frame_longer, List.map_cons, List.map_nil, DataW.agg.injEq, List.cons.injEq, and_true] at hx1
    obtain ⟨rfl, rfl, rfl, rfl, rfl, rfl, rfl⟩ := hx1
    rcases (by omega : c = 0 ∨ c = 1 ∨ c = 2 ∨ c = 3 ∨ c = 4 ∨ c = 5 ∨ c = 6) with rfl | rfl | rfl | rfl | rfl | rfl | rfl
    · exact hrow 0 _ _ (by decide) rfl
    · exact hrow 1 _ _ (by decide) rfl
    · exact hrow 2 _ _ (by decide) rfl
    · exact hrow 3 _ _ (by decide) rfl
    · exact hrow 4 _ _ (by decide) rfl
    · exact hrow 5 _ _ (by decide) rfl
    · exact hrow 6 _ _ (by decide) rfl

set_option maxHeartbeats 1600000 in
set_option maxRecDepth 100000 in
theorem alive5_any (w : World) (hl : Longer w) : Calls Tryd.prog 9 #[] w fun e w' => e = .returned (.bool true) ∧ Nb w w' := by
  have h1 := code_any 2 12 w hl
  rw [show codeV 2 12 = 9 by decide, show codeE 2 12 = 0 by decide] at h1
  have h2 := fun w' (h : Nb w w') => fit5_any 2 33 w' (hl.below h)
  rw [show fitV 2 33 = 48 by decide, show fitE 2 33 = 0 by decide] at h2
  have h3 := fun w' (h : Nb w w') => code_any 3 2048 w' (hl.below h)
  rw [show codeV 3 2048 = 2047 by decide, show codeE 3 2048 = 0 by decide] at h3
  have h4 := fun w' (h : Nb w w') => check5_any ⟨1, 0, false, false, false, false, false, 0, 0, 0⟩ none 0 [] w' (Bs.nil w') (hl.below h)
  rw [show checkN ⟨1, 0, false, false, false, false, false, 0, 0, 0⟩ [] = 0 by decide] at h4
  have h5 := fun w' (h : Nb w w') => check5_any ⟨0, 0, false, false, false, false, false, 0, 0, 0⟩ none 0 [] w' (Bs.nil w') (hl.below h)
  rw [show checkN ⟨0, 0, false, false, false, false, false, 0, 0, 0⟩ [] = 2 by decide] at h5
  have H1 := Lib.hid h1
  have H2 := Lib.hid h2
  have H3 := Lib.hid h3
  have H4 := Lib.hid h4
  have H5 := Lib.hid h5
  clear h1 h2 h3 h4 h5 hl
  go_enter Tryd.func9, Tryd.ntmps9
  go_wp2_with fail
  refine H1.out.mono ?_
  rintro e w1 ⟨rfl, n1⟩
  go_wp2_with fail
  refine (H2.out _ n1).mono ?_
  rintro e w2 ⟨rfl, n2⟩
  have m2 := n1.tr n2
  go_wp2_with fail
  refine (H3.out _ m2).mono ?_
  rintro e w3 ⟨rfl, n3⟩
  have m3 := m2.tr n3
  go_wp2_with fail
  refine (H4.out _ m3).mono ?_
  rintro e w4 ⟨rfl, n4⟩
  have m4 := m3.tr n4
  go_wp2_with fail
  refine (H5.out _ m4).mono ?_
  rintro e w5 ⟨rfl, n5⟩
  go_wp2
  go_ret
  exact ⟨rfl, m4.tr n5⟩
end Go.Proofs.YtfclicghkhemlaaDoor
