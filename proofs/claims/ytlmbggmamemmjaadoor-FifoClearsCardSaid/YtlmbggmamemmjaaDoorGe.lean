/- The document's examples of layer 5; what the row's list of package-level variables gives: the table of longer sizes holds what the program's text lays there. No conditions. -/
import Derived.Test.YtlmbggmamemmjaaDoorGj
import Derived.Test.YtlmbggmamemmjaaDoorGa
import Derived.Test.YtlmbggmamemmjaaDoorRows
import Derived.LaidMore
import Derived.OpenShut
import Derived.Deep.Strs
namespace Go.Proofs.YtlmbggmamemmjaaDoor
set_option linter.unusedVariables false
set_option linter.unusedSimpArgs false
open Go.RowKit
theorem gLonger : Tryd.prog.globalNamed "omnibus/frame.longer" = some 0 := by kernel_rfl
theorem tLonger:(Tryd.prog.globals[0]?).map (·.type)=some 77:=by kernel_rfl
theorem cellsIntF:Tryd.prog.cellsOf 3=1:=by kernel_rfl
theorem longer_of {W : World} (h : laidMetH Tryd.prog [("omnibus/frame.longer", Rows.laid_omnibus_frame_longer)] W) : Longer W := by
 rw[MakeChecks.laidMetH_plain _ _ _ (by kernel_rfl)] at h
 obtain⟨ps,⟨g0,t0,cs0,f0,p0,q0,hg0,ht0,hv0,hd0,_,_⟩,_,_⟩:=h
 obtain rfl:=Option.some.inj (gLonger.symm.trans hg0)
 obtain rfl:=Option.some.inj (tLonger.symm.trans ht0)
 obtain⟨xs,m1,rfl,hx1,hlen,hn7,hel⟩:=DataW.trod_array Tryd.underlying77 hd0
 rw[cellsIntF] at hel
 simp only[Prod.mk.injEq] at hx1
 obtain⟨hx1,_⟩:=hx1
 have hrow:∀ i a p,i < 7->xs[i]? = some (.lit (.int .i64 a),p)->cs0.toList[i]? = some (.int .i64 a):=by
  intro i a p hi hx
  obtain⟨n0,c0,e0,_⟩:=DataW.trod_int Tryd.underlying3 ((hel i hi).trans hx)
  simp only[Prod.mk.injEq,DataW.lit.injEq,Lit.int.injEq,true_and] at e0
  obtain⟨rfl,_⟩:=e0
  have:=congrArg (·[0]?) c0
  simpa [List.getElem?_take,List.getElem?_drop] using this
 intro c hc
 rw[World.var?_cell gLonger hv0 c]
 rw[<- Array.getElem?_toList]
 match xs,hn7,hx1,hrow with
 | [(d0,p0),(d1,p1),(d2,p2),(d3,p3),(d4,p4),(d5,p5),(d6,p6)],_,hx1,hrow =>
   simp only[Rows.laid_omnibus_frame_longer,List.map_cons,List.map_nil,DataW.agg.injEq,List.cons.injEq,and_true] at hx1
   obtain⟨rfl,rfl,rfl,rfl,rfl,rfl,rfl⟩:=hx1
   rcases (by omega:c=0\/c=1\/c=2\/c=3\/c=4\/c=5\/c=6) with rfl | rfl | rfl | rfl | rfl | rfl | rfl
   ·exact hrow 0 _ _ (by decide) rfl
   ·exact hrow 1 _ _ (by decide) rfl
   ·exact hrow 2 _ _ (by decide) rfl
   ·exact hrow 3 _ _ (by decide) rfl
   ·exact hrow 4 _ _ (by decide) rfl
   ·exact hrow 5 _ _ (by decide) rfl
   ·exact hrow 6 _ _ (by decide) rfl
end Go.Proofs.YtlmbggmamemmjaaDoor
