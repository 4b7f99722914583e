
/- What the laws on wires ask of a frame's bits on the wire. No conditions. -/
import Derived.Test.YtplbmlpdefpplaaGreatDoorClaP
namespace Go.Proofs.YtplbmlpdefpplaaGreatDoor
set_option linter.unusedVariables false
set_option linter.unusedSimpArgs false
open Go.RowKit
theorem zhp(X:List Nat)(k:Nat):k<=(zq (X++ones k)).2:=by
 by_cases h:k=0
 ·omega
 ·exact(z5k X k (by omega)).1
theorem zel(X R:Bool)(i:Nat)(T:List Nat):(zJ X R i++T).getD 0 0=0:=by
 cases X<;>simp[zJ]
theorem z5u {f:Hd} {l:List Nat} (h:okC f l=true):∃P:Nat,P=(zh (zT f l)).length/\chk (z0M f l)=true/\(z0M f l).length=P+10/\34<=P/\P<=300/\(z0M f l).getD 0 0=0 /\
    z27 f l=P+1/\12<=z1S f l/\z1S f l+9<=P/\10<=(zq (z0M f l)).2/\(zq ((z0M f l).take P)).2<=5:=by
 have hb:=z6P h
 have h8:=zmk h
 have h2:=zr (zT f l)
 have hw:=zhh h
 refine⟨_,rfl,?_,hw,by split at hb<;>omega,by split at hb<;>omega,?_,by rw[z27,if_pos h],?_,?_,?_,?_⟩
 ·exact z0g zgv (by split at hb<;>omega)
 ·have e:zT f l=zJ f.X f.R f.I.toNat++(zc l.length 4++ze l++z1R 1 (z1q f.X f.R f.I.toNat l)):=by
   rw[zT,if_pos h,zS,z1q];simp
  have h0:0 < (zT f l).length:=by split at hb<;>omega
  have:=(z3O h0 (p:=0) (by simp[z3P,z74])).2.1
  rw[z0M,if_pos h,List.getD,List.getElem?_append_left (by omega),<- List.getD,this,e]
  exact zel _ _ _ _
 ·rw[z1S,if_pos h]
  have:=(zr (zJ f.X f.R f.I.toNat)).2
  rw[z2b]at this
  split at this<;>omega
 ·rw[z1S,if_pos h]
  have e:zT f l=zJ f.X f.R f.I.toNat++(zc l.length 4++ze l++z1R 1 (z1q f.X f.R f.I.toNat l)):=by
   rw[zT,if_pos h,zS,z1q];simp
  have:=z8v (zJ f.X f.R f.I.toNat) (zc l.length 4++ze l++z1R 1 (z1q f.X f.R f.I.toNat l))
  rw[<- e]at this
  have h3:(zc l.length 4++ze l++z1R 1 (z1q f.X f.R f.I.toNat l)).length=4+8*l.length+15:=by
   rw[List.length_append,List.length_append,zb,zN,z1G]
   rfl
  omega
 ·rw[z0M,if_pos h]
  exact zhp _ _
 ·exact zgo h (Nat.le_refl _)
end Go.Proofs.YtplbmlpdefpplaaGreatDoor
