
/- What the laws on wires ask of a frame's bits on the wire. No conditions. -/
import Derived.Test.YtkjjfnmeogpdbaaGreatDoorClaP
namespace Go.Proofs.YtkjjfnmeogpdbaaGreatDoor
set_option linter.unusedVariables false
set_option linter.unusedSimpArgs false
open Go.RowKit
theorem zdI(X:List Nat)(k:Nat):k<=(zq (X++ones k)).2:=by
 by_cases h:k=0
 ·omega
 ·exact(z4W X k (by omega)).1
theorem zbd(X R:Bool)(i:Nat)(T:List Nat):(zN X R i++T).getD 0 0=0:=by
 cases X<;>simp[zN]
theorem z7W {f:Hd} {l:List Nat} (h:okC f l=true):∃P:Nat,P=(zi (zS f l)).length/\chk (z0P f l)=true/\(z0P f l).length=P+10/\34<=P/\P<=300/\(z0P f l).getD 0 0=0 /\
    z1X f l=P+1/\12<=z1N f l/\z1N f l+9<=P/\10<=(zq (z0P f l)).2/\(zq ((z0P f l).take P)).2<=5:=by
 have hb:=z6t h
 have h8:=ziK h
 have h2:=zu (zS f l)
 have hw:=zeX h
 refine⟨_,rfl,?_,hw,by split at hb<;>omega,by split at hb<;>omega,?_,by rw[z1X,if_pos h],?_,?_,?_,?_⟩
 ·exact z0e zdJ (by split at hb<;>omega)
 ·have e:zS f l=zN f.X f.R f.I.toNat++(zc l.length 4++ze l++z1L 1 (z1s f.X f.R f.I.toNat l)):=by
   rw[zS,if_pos h,zR,z1s];simp
  have h0:0 < (zS f l).length:=by split at hb<;>omega
  have:=(z6d h0 (p:=0) (by simp[z3e,z5Q])).2.1
  rw[z0P,if_pos h,List.getD,List.getElem?_append_left (by omega),<- List.getD,this,e]
  exact zbd _ _ _ _
 ·rw[z1N,if_pos h]
  have:=(zu (zN f.X f.R f.I.toNat)).2
  rw[z21]at this
  split at this<;>omega
 ·rw[z1N,if_pos h]
  have e:zS f l=zN f.X f.R f.I.toNat++(zc l.length 4++ze l++z1L 1 (z1s f.X f.R f.I.toNat l)):=by
   rw[zS,if_pos h,zR,z1s];simp
  have:=z7n (zN f.X f.R f.I.toNat) (zc l.length 4++ze l++z1L 1 (z1s f.X f.R f.I.toNat l))
  rw[<- e]at this
  have h3:(zc l.length 4++ze l++z1L 1 (z1s f.X f.R f.I.toNat l)).length=4+8*l.length+15:=by
   rw[List.length_append,List.length_append,zb,zM,z1z]
   rfl
  omega
 ·rw[z0P,if_pos h]
  exact zdI _ _
 ·exact zep h (Nat.le_refl _)
end Go.Proofs.YtkjjfnmeogpdbaaGreatDoor
