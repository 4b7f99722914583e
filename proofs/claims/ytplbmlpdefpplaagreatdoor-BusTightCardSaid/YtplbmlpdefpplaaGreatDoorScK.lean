
/- Frames of any kind on the wire, and what layer 9's automaton tells of them; what stays. No program here. No conditions but the fields' own widths. -/
import Derived.Test.YtplbmlpdefpplaaGreatDoorGk
import Derived.Test.YtplbmlpdefpplaaGreatDoorClaQ
namespace Go.Proofs.YtplbmlpdefpplaaGreatDoor
set_option linter.unusedVariables false
set_option linter.unusedSimpArgs false
open Go.RowKit
def zn(f:Hd)(l:List Nat):List Nat:=if f.K=2 then rwD f l else if f.K=3 then rwX f l else zh (zT f l)
def wF(f:Hd)(l:List Nat):List Nat:=if f.K=2 then wdC f l else if f.K=3 then wxC f l else z0M f l
def z2J(f:Hd)(l:List Nat):Nat:=if f.K=2 then z1O f l else if f.K=3 then z1y f l else z1S f l
def z2P(f:Hd)(l:List Nat):Nat:=if f.K=2 then z25 f l else if f.K=3 then z29 f l else z27 f l
def erF(f:Hd)(l:List Nat):Nat:=if f.K=2 then z3w f l else if f.K=3 then z3A f l else okE f l
theorem z3Y{f:Hd}{l:List Nat}(h:okF f l=true):f.K=1\/f.K=2\/f.K=3:=by
 simp only[okF,Bool.and_eq_true]at h
 exact z5f h.1
theorem z7Z {f:Hd} {l:List Nat} (h:okF f l=true) (hW:WdX f) (hb:∀x∈l,x < 256) :
    wF f l=zn f l++ones 10/\z2P f l=(zn f l).length+1/\34<=(zn f l).length/\(zn f l).length<=60000/\(∀x∈zn f l,x<=1)/\scS true (zn f l) = .tail true f l [] /\
     (f.K≠3->scS false (zn f l) = .tail true f l [])/\chk (wF f l)=true:=by
 have hI:=hW.1
 rcases z3Y h with hk | hk | hk
 ·have ho:okC f l=true:=by simp[okC,hk,h]
  obtain⟨P,hP,hc,_,g1,g2,_⟩:=z5u ho
  unfold wF z2P zn
  rw[if_neg (by omega),if_neg (by omega),if_neg (by omega),if_neg (by omega),if_neg (by omega),if_neg (by omega)]
  exact⟨by rw[z0M,if_pos ho],by rw[z27,if_pos ho],by omega,by omega,z0j (zax ho),zkF ho hI hb,fun _=>zkF ho hI hb,hc⟩
 ·have ho:okD f l=true:=by simp[okD,hk,h]
  obtain⟨P,hP,hc,_,g1,g2,_⟩:=zd2 ho
  have hr1:(rwD f l).length<=60000:=by
   have h1:=z5L ho
   have h2:=zfe ho
   have h3:=(zr (bdC f l)).1
   have h4:=zfs f l
   split at h4<;>omega
  unfold wF z2P zn
  rw[if_pos hk,if_pos hk,if_pos hk]
  exact⟨by rw[wdC,if_pos ho],by rw[z25,if_pos ho],by omega,hr1,fun x hx=>zi6 x hx,zku ho hI hb,fun _=>zku ho hI hb,hc⟩
 ·have ho:okX f l=true:=by simp[okX,hk,h]
  obtain⟨P,hP,hc,_,g1,g2,_⟩:=ze4 ho
  unfold wF z2P zn
  have h2:¬f.K=2:=by omega
  simp only[if_neg h2,if_pos hk]
  exact⟨by rw[wxC,if_pos ho],by rw[z29,if_pos ho],by omega,by omega,zie f l,zm1 ho hW hb,fun h3=>absurd hk h3,hc⟩
theorem zkE(kn:Bool)(x:List Nat):(∃s,scS kn x = .fin s/\2<=s.k/\zW (scS kn x)=s)\/(zW (scS kn x)=zM\/zW (scS kn x)=zjq):=by
 have key:∀s,scS kn x = .fin s->2<=s.k:=by
  refine zB (P:=fun x=>∀s,scS kn x = .fin s->2<=s.k) (fun s h=>(by cases h)) (fun x b ih => ?_) x
  intro s hs
  rw[scS,z0h,<- scS]at hs
  generalize scS kn x=p at *
  cases p with
  | dyn y =>
    simp only[z09]at hs
    split at hs
    ·split at hs
     ·cases hs;simp[z1j]
     ·cases hs
    ·cases hq:zz kn (zo y++[b])<;>rw[hq]at hs<;>simp only[z2T]at hs<;>cases hs<;>simp[z1j]
  | fx h y=>simp only[z09]at hs;(repeat' split at hs)<;>cases hs<;>simp[z1j]
  | xs h y=>simp only[z09]at hs;(repeat' split at hs)<;>cases hs<;>simp[z1j]
  | xd h y=>simp only[z09]at hs;(repeat' split at hs)<;>cases hs<;>simp[z1j]
  | xe h y z=>simp only[z09]at hs;(repeat' split at hs)<;>cases hs<;>simp[z1j]
  | tail ok f l t=>simp only[z09]at hs;(repeat' split at hs)<;>cases hs<;>simp[z1j]
  | fin s'=>exact ih s hs
 generalize scS kn x=p at *
 cases p with
 | fin s=>exact .inl ⟨s,rfl,key s rfl,rfl⟩
 | tail ok f l t =>
   refine .inr ?_
   show(if t.length=1/\ok=true then(_:Sta)else _)=_\/(if t.length=1/\ok=true then(_:Sta)else _)=_
   split
   ·exact .inr rfl
   ·exact .inl rfl
 | _=>exact .inr (.inl rfl)
end Go.Proofs.YtplbmlpdefpplaaGreatDoor
