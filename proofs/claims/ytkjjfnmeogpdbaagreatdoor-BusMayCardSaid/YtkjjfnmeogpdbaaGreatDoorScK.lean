
/- Frames of any kind on the wire, and what layer 9's automaton tells of them; what stays. No program here. No conditions but the fields' own widths. -/
import Derived.Test.YtkjjfnmeogpdbaaGreatDoorGk
import Derived.Test.YtkjjfnmeogpdbaaGreatDoorClaQ
namespace Go.Proofs.YtkjjfnmeogpdbaaGreatDoor
set_option linter.unusedVariables false
set_option linter.unusedSimpArgs false
open Go.RowKit
def zD(f:Hd)(l:List Nat):List Nat:=if f.K=2 then rwD f l else if f.K=3 then rwX f l else zi (zS f l)
def wF(f:Hd)(l:List Nat):List Nat:=if f.K=2 then wdC f l else if f.K=3 then wxC f l else z0P f l
def z47(f:Hd)(l:List Nat):Nat:=if f.K=2 then z1O f l else if f.K=3 then z1A f l else z1N f l
def z2V(f:Hd)(l:List Nat):Nat:=if f.K=2 then z1W f l else if f.K=3 then z1V f l else z1X f l
def erF(f:Hd)(l:List Nat):Nat:=if f.K=2 then z32 f l else if f.K=3 then z3g f l else okE f l
theorem z6o{f:Hd}{l:List Nat}(h:okF f l=true):f.K=1\/f.K=2\/f.K=3:=by
 simp only[okF,Bool.and_eq_true]at h
 exact z6S h.1
theorem z7h {f:Hd} {l:List Nat} (h:okF f l=true) (hW:WdX f) (hb:∀x∈l,x < 256) :
    wF f l=zD f l++ones 10/\z2V f l=(zD f l).length+1/\34<=(zD f l).length/\(zD f l).length<=60000/\(∀x∈zD f l,x<=1)/\scS true (zD f l) = .tail true f l [] /\
     (f.K≠3->scS false (zD f l) = .tail true f l [])/\chk (wF f l)=true:=by
 have hI:=hW.1
 rcases z6o h with hk | hk | hk
 ·have ho:okC f l=true:=by simp[okC,hk,h]
  obtain⟨P,hP,hc,_,g1,g2,_⟩:=z7W ho
  unfold wF z2V zD
  rw[if_neg (by omega),if_neg (by omega),if_neg (by omega),if_neg (by omega),if_neg (by omega),if_neg (by omega)]
  exact⟨by rw[z0P,if_pos ho],by rw[z1X,if_pos ho],by omega,by omega,z0h (z9m ho),zhf ho hI hb,fun _=>zhf ho hI hb,hc⟩
 ·have ho:okD f l=true:=by simp[okD,hk,h]
  obtain⟨P,hP,hc,_,g1,g2,_⟩:=zco ho
  have hr1:(rwD f l).length<=60000:=by
   have h1:=z5p ho
   have h2:=zdi ho
   have h3:=(zu (bdC f l)).1
   have h4:=zfr f l
   split at h4<;>omega
  unfold wF z2V zD
  rw[if_pos hk,if_pos hk,if_pos hk]
  exact⟨by rw[wdC,if_pos ho],by rw[z1W,if_pos ho],by omega,hr1,fun x hx=>zfy x hx,zgB ho hI hb,fun _=>zgB ho hI hb,hc⟩
 ·have ho:okX f l=true:=by simp[okX,hk,h]
  obtain⟨P,hP,hc,_,g1,g2,_⟩:=zbT ho
  unfold wF z2V zD
  have h2:¬f.K=2:=by omega
  simp only[if_neg h2,if_pos hk]
  exact⟨by rw[wxC,if_pos ho],by rw[z1V,if_pos ho],by omega,by omega,zfc f l,zhF ho hW hb,fun h3=>absurd hk h3,hc⟩
theorem zgA(kn:Bool)(x:List Nat):(∃s,scS kn x = .fin s/\2<=s.k/\zT (scS kn x)=s)\/(zT (scS kn x)=zf\/zT (scS kn x)=zgq):=by
 have key:∀s,scS kn x = .fin s->2<=s.k:=by
  refine zz (P:=fun x=>∀s,scS kn x = .fin s->2<=s.k) (fun s h=>(by cases h)) (fun x b ih => ?_) x
  intro s hs
  rw[scS,z0j,<- scS]at hs
  generalize scS kn x=p at *
  cases p with
  | dyn y =>
    simp only[z07]at hs
    split at hs
    ·split at hs
     ·cases hs;simp[z1j]
     ·cases hs
    ·cases hq:zy kn (zo y++[b])<;>rw[hq]at hs<;>simp only[z2F]at hs<;>cases hs<;>simp[z1j]
  | fx h y=>simp only[z07]at hs;(repeat' split at hs)<;>cases hs<;>simp[z1j]
  | xs h y=>simp only[z07]at hs;(repeat' split at hs)<;>cases hs<;>simp[z1j]
  | xd h y=>simp only[z07]at hs;(repeat' split at hs)<;>cases hs<;>simp[z1j]
  | xe h y z=>simp only[z07]at hs;(repeat' split at hs)<;>cases hs<;>simp[z1j]
  | tail ok f l t=>simp only[z07]at hs;(repeat' split at hs)<;>cases hs<;>simp[z1j]
  | fin s'=>exact ih s hs
 generalize scS kn x=p at *
 cases p with
 | fin s=>exact .inl ⟨s,rfl,key s rfl,rfl⟩
 | tail ok f l t =>
   refine .inr ?_
   show(if t.length=1/\ok=true then(_:Sta)else _)=_\/(if t.length=1/\ok=true then(_:Sta)else _)=_
   split
   ·exact .inr rfl
   ·exact .inl rfl
 | _=>exact .inr (.inl rfl)
end Go.Proofs.YtkjjfnmeogpdbaaGreatDoor
