
/- What BusHeals' walk asks of a bus of three, of the nodes' lists. Condition: the tables hold what the program's text lays there. -/
import Derived.Test.YtkjjfnmeogpdbaaGreatDoorHlE
import Derived.Test.YtkjjfnmeogpdbaaGreatDoorGy
namespace Go.Proofs.YtkjjfnmeogpdbaaGreatDoor
set_option linter.unusedVariables false
set_option linter.unusedSimpArgs false
open Go.RowKit
theorem bls3{w:World}{x:Nat}{p q r:Bool}{t:TypeId}(h:Blk w x #[.bool p,.bool q,.bool r] t):Bls w (some ⟨x,0,none⟩) 3 [p,q,r]:=by
 refine⟨Nat.le_refl _,by simp[maxLen],fun _=>⟨x,0,rfl,fun j hj => ?_⟩⟩
 have c0:w.cell? ⟨x,0,none⟩=some (.bool p):=h.cell 0
 have c1:w.cell? ⟨x,1,none⟩=some (.bool q):=h.cell 1
 have c2:w.cell? ⟨x,2,none⟩=some (.bool r):=h.cell 2
 rcases(by simp at hj;omega:j=0\/j=1\/j=2)with rfl | rfl | rfl
 ·exact c0
 ·exact c1
 ·exact c2
theorem new3_any(p q r:Bool)(x:Nat)(t:TypeId)(w:World)(h:Blk w x #[.bool p,.bool q,.bool r] t)(hB:z0i w):Calls Tryz.prog 11 #[.slice (some ⟨x,0,none⟩) 3 3] w (zm8 z2X w [p,q,r]) :=
 zaY (some ⟨x,0,none⟩) 3 [p,q,r] w (bls3 h) hB (by simp) (by simp)
def sntH(f:Hd)(l:List Nat)(k0 tm k:Nat):Nat:=if hasH f l k0 tm k then 0 else 1
theorem heal_new{f:Hd}{l:List Nat}(h:Fr f l)(k0 tm:Nat):(([true,true,true].map Nd.new).getD 0 dN).loadE f l=0/\([true,true,true].map Nd.new).set 0 ((([true,true,true].map Nd.new).getD 0 dN).load f l)=healL f l k0 tm 0/\sntH f l k0 tm 0=0:=by
 obtain⟨e1,e2,e3⟩:=du_new h
 refine⟨e1,?_,?_⟩
 ·show [(Nd.new true).load f l,Nd.new true,Nd.new true]=_
  rw[e2,e3]
  rfl
 ·have:hasH f l k0 tm 0=true:=by
   show(duA f l 0).has=true
   rw[<- e2]
   unfold Nd.load
   rw[if_pos e1]
  unfold sntH
  rw[this]
  rfl
theorem heal_ev {f:Hd} {l:List Nat} (h:Fr f l) (k0 tm k:Nat) :
    (((z51 (healL f l k0 tm k) (if k=k0 then tm else 0)).getD 0 z02).k=1->sntH f l k0 tm k=0/\sntH f l k0 tm (k+1)=1)/\(¬((z51 (healL f l k0 tm k) (if k=k0 then tm else 0)).getD 0 z02).k=1->sntH f l k0 tm (k+1)=sntH f l k0 tm k):=by
 obtain⟨h1,h2⟩:=heal_has h k0 tm k
 unfold sntH
 rw[h1]
 constructor
 ·intro q
  rw[h2 q,q]
  exact⟨rfl,rfl⟩
 ·intro q
  rw[show(((z51 (healL f l k0 tm k) (if k=k0 then tm else 0)).getD 0 z02).k==1)=false by rw[beq_eq_false_iff_ne];exact q]
  simp
theorem heal_x(f:Hd)(l:List Nat)(k0 tm:Nat){k:Nat}(hk:k<=60100):za5 60100 (healL f l k0 tm k):=fun j hj=>Nat.le_trans (heal_short f l k0 tm k j hj) hk
theorem heal_end{f:Hd}{l:List Nat}(h:Fr f l)(h16:l.length<=16)(n tm:Nat):sntH f l (11+n%(wF f l).length) tm (4*(wF f l).length+400)=1/\((healL f l (11+n%(wF f l).length) tm (4*(wF f l).length+400)).getD 0 dN).has=false/\44<=(wF f l).length/\(wF f l).length<=410:=by
 have hs:=short_wire h h16
 have hl:=h.raw_len
 have hL:=h.len.1
 rw[hL]
 obtain⟨k,hk,e⟩:=heal_all h hs (j:=n%((zn f l).length+10)) (Nat.mod_lt _ (by omega)) tm
 have e2:=heal_gone h (11+n%((zn f l).length+10)) tm e (4*((zn f l).length+10)+400 - k)
 rw[show k+(4*((zn f l).length+10)+400 - k)=4*((zn f l).length+10)+400 by omega]at e2
 refine⟨?_,e2,by omega,by omega⟩
 unfold sntH
 rw[e2]
 rfl
end Go.Proofs.YtkjjfnmeogpdbaaGreatDoor
