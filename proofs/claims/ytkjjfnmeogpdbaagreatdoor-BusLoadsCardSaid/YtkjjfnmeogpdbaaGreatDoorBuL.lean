
/- Two nodes on a wire, a step at a time (layer 13, BusLoads). No program here. No conditions but the fields' own widths. -/
import Derived.Test.YtkjjfnmeogpdbaaGreatDoorGv
namespace Go.Proofs.YtkjjfnmeogpdbaaGreatDoor
set_option linter.unusedVariables false
set_option linter.unusedSimpArgs false
open Go.RowKit
def duL(f:Hd)(l:List Nat)(k:Nat):List Nd:=[duA f l k,duB f l k]
theorem duL_bus{f:Hd}{l:List Nat}(h:Fr f l)(k:Nat):busV (duL f l k)=duW f l k:=by
 obtain⟨h1,h2,h3⟩:=du_bus h k
 show min (min 1 (duA f l k).out) (duB f l k).out=_
 omega
theorem duL_next{f:Hd}{l:List Nat}(h:Fr f l)(k:Nat):nextT (duL f l k) 0=duL f l (k+1)/\evsT (duL f l k) 0=[if k+1=(zD f l).length+21 then⟨1,0,f,l⟩else z0W,if k+1=(zD f l).length+20 then⟨2,0,f,l⟩else z0W]:=by
 rw[nextT_zero,evsT_zero,duL_bus h]
 constructor
 ·show [((duA f l k).step (duW f l k)).1,((duB f l k).step (duW f l k)).1]=_
  rw[duA_step h,duB_step h]
  rfl
 ·show [((duA f l k).step (duW f l k)).2,((duB f l k).step (duW f l k)).2]=_
  rw[duA_step h,duB_step h]
theorem duL_ok{f:Hd}{l:List Nat}(h:Fr f l)(k:Nat):AllOk (duL f l k):=fun j hj=>by
 rcases(by simp[duL]at hj;omega:j=0\/j=1)with rfl | rfl
 ·exact duA_ok h k
 ·exact duB_ok h k
theorem duL_short{f:Hd}{l:List Nat}(h:Fr f l)(k:Nat):AllX 60100 (duL f l k):=fun j hj=>by
 have ho:∀q,(Nd.ones true q).x.length<=60100:=fun q=>by rw[zh7];simp
 rcases(by simp[duL]at hj;omega:j=0\/j=1)with rfl | rfl
 ·show(duA f l k).x.length<=_
  unfold duA
  (repeat' split)
  ·exact ho k
  ·exact(zhC h _).1
  ·exact(zhC h _).1
 ·show(duB f l k).x.length<=_
  unfold duB
  (repeat' split)
  ·exact ho k
  ·exact(zhC h _).2
  ·exact(zhC h _).2
theorem duL_new{f:Hd}{l:List Nat}(h:Fr f l):(([true,true].map Nd.new).getD 0 dN).loadE f l=0/\([true,true].map Nd.new).set 0 ((([true,true].map Nd.new).getD 0 dN).load f l)=duL f l 0:=by
 obtain⟨e1,e2,e3⟩:=du_new h
 refine⟨e1,?_⟩
 show [(Nd.new true).load f l,Nd.new true]=_
 rw[e2,e3]
 rfl
theorem duL_full{f g:Hd}{l m:List Nat}(h:Fr f l)(hg:Fr g m):((duL f l 0).getD 0 dN).loadE g m=8/\(duL f l 0).set 0 (((duL f l 0).getD 0 dN).load g m)=duL f l 0:=by
 have hh:(duA f l 0).has=true:=(duA_drop h (by omega)).1
 have hk:(duA f l 0).kn=true:=by
  unfold duA
  rw[if_pos (by omega)]
  rfl
 have e:(duA f l 0).loadE g m=8:=by
  unfold Nd.loadE
  rw[hg.ok,hh,hk]
  simp
 refine⟨e,?_⟩
 show [(duA f l 0).load g m,duB f l 0]=_
 unfold Nd.load
 rw[e,if_neg (by omega)]
 rfl
theorem duB_low(f g:Hd)(l m:List Nat){k:Nat}(hk:k < 12):duB f l k=duB g m k:=by
 unfold duB
 by_cases h1:k < 11
 ·rw[if_pos h1,if_pos h1]
 ·rw[if_neg h1,if_neg h1,if_pos (by omega),if_pos (by omega)]
  unfold prB
  rw[if_pos (by omega),if_pos (by omega)]
theorem duL_drop {f g:Hd} {l m:List Nat} (h:Fr f l) (hg:Fr g m) {k:Nat} (hk:k < 40) :
    ((duL f l k).getD 0 dN).dropB=decide (k < 12) /\
    (k < 12->(((duL f l k).set 0 ((duL f l k).getD 0 dN).drop).getD 0 dN).loadE g m=0/\((duL f l k).set 0 ((duL f l k).getD 0 dN).drop).set 0 ((((duL f l k).set 0 ((duL f l k).getD 0 dN).drop).getD 0 dN).load g m)=duL g m k) /\
    (¬k < 12->(duL f l k).set 0 ((duL f l k).getD 0 dN).drop=duL f l k):=by
 have hd:=(duA_drop h hk).2
 refine⟨hd,fun h12 => ?_,fun h12 => ?_⟩
 ·obtain⟨e1,e2⟩:=duA_again h hg h12
  refine⟨e1,?_⟩
  show [(duA f l k).drop.load g m,duB f l k]=_
  rw[e2,duB_low f g l m h12]
  rfl
 ·show [(duA f l k).drop,duB f l k]=_
  unfold Nd.drop
  rw[hd,decide_eq_false h12,if_neg (by simp)]
  rfl
theorem drop_allOk{ns:List Nd}(h:AllOk ns)(i:Nat):AllOk (ns.set i (ns.getD i dN).drop):=fun j hj=>by
 rw[List.length_set]at hj
 by_cases hij:i=j
 ·subst hij
  have e:(ns.set i (ns.getD i dN).drop).getD i dN=(ns.getD i dN).drop:=by simp[List.getD,hj]
  rw[e]
  exact drop_ok (h i hj)
 ·have e:(ns.set i (ns.getD i dN).drop).getD j dN=ns.getD j dN:=by simp[List.getD,List.getElem?_set_ne hij]
  rw[e]
  exact h j hj
end Go.Proofs.YtkjjfnmeogpdbaaGreatDoor
