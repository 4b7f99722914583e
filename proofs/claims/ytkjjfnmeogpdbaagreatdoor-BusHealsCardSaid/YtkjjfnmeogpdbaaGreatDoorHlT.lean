
/- For a trial. No conditions. -/
import Derived.Test.YtkjjfnmeogpdbaaGreatDoorHlD
namespace Go.Proofs.YtkjjfnmeogpdbaaGreatDoor
set_option linter.unusedVariables false
set_option linter.unusedSimpArgs false
open Go.RowKit
theorem pr_end (f:Hd) (l:List Nat):(prA f l ((zn f l).length+13)).ph=1/\(prA f l ((zn f l).length+13)).c=0/\(prA f l ((zn f l).length+13)).has=false/\(prA f l ((zn f l).length+13)).fa=Fa.zero /\
    (prB f l ((zn f l).length+13)).ph=1/\(prB f l ((zn f l).length+13)).c=0/\(prB f l ((zn f l).length+13)).has=false/\(prB f l ((zn f l).length+13)).fa=Fa.zero:=by
 unfold prA prB
 rw[if_neg (by omega),if_neg (by omega),if_neg (by omega),if_neg (by omega),if_neg (by omega),if_neg (by omega),if_neg (by omega)]
 exact⟨rfl,rfl,rfl,rfl,rfl,rfl,rfl,rfl⟩
theorem pair_load{f:Hd}{l:List Nat}(h:Fr f l):(Nd.joined true).loadE f l=0/\(Nd.joined true).load f l=prA f l 0/\(prA f l 0).loadE f l=8/\(prA f l 0).load f l=prA f l 0:=by
 have e:(Nd.joined true).loadE f l=0:=by
  unfold Nd.loadE
  rw[h.ok]
  simp[Nd.joined,Nd.new]
 have e2:(Nd.joined true).load f l=prA f l 0:=by
  unfold Nd.load
  rw[if_pos e]
  rfl
 have e3:(prA f l 0).loadE f l=8:=by
  rw[<- e2]
  unfold Nd.load
  rw[if_pos e]
  unfold Nd.loadE
  rw[h.ok]
  simp[Nd.joined,Nd.new]
 refine⟨e,e2,e3,?_⟩
 unfold Nd.load
 rw[e3,if_neg (by omega)]
theorem joined_ok'(kn:Bool):(Nd.joined kn).Ok:=by
 have key:∀k,(Nd.ones kn k).Ok:=fun k=>by
  induction k with
  | zero=>exact z6n kn
  | succ k ih =>
    have:=(z9P ih (b:=1) (by omega)).ok
    rw[(zdg kn k).2]at this
    exact this
 exact key 11
theorem prA_ok{f:Hd}{l:List Nat}(h:Fr f l):∀i,i<=(zn f l).length+13->(prA f l i).Ok:=by
 intro i
 induction i with
 | zero =>
   intro _
   rw[<- (pair_load h).2.1]
   exact zdc (joined_ok' true) h.wd h.b (fun hh=>by cases hh)
 | succ i ih =>
   intro hi
   have so:=z9P (ih (by omega)) (zdV h i (by omega))
   rw[(zgg h (by omega)).2]at so
   exact so.ok
theorem prB_ok{f:Hd}{l:List Nat}(h:Fr f l):∀i,i<=(zn f l).length+13->(prB f l i).Ok:=by
 intro i
 induction i with
 | zero=>intro _;exact joined_ok' true
 | succ i ih =>
   intro hi
   have so:=z9P (ih (by omega)) (zdV h i (by omega))
   rw[(zgZ h (by omega)).2]at so
   exact so.ok
def duA(f:Hd)(l:List Nat)(k:Nat):Nd :=
 if k < 11 then { Nd.ones true k with has:=true,f:=f,l:=l }
 else if k < (zn f l).length+25 then prA f l (k - 11)
 else { prA f l ((zn f l).length+13)with snd:=false }
def duB(f:Hd)(l:List Nat)(k:Nat):Nd :=
 if k < 11 then Nd.ones true k
 else if k < (zn f l).length+25 then prB f l (k - 11)
 else prB f l ((zn f l).length+13)
def duW(f:Hd)(l:List Nat)(k:Nat):Nat:=if k < 11 then 1 else if k < (zn f l).length+24 then prW f l (k - 11)else 1
theorem duA_step{f:Hd}{l:List Nat}(h:Fr f l)(k:Nat):(duA f l k).step (duW f l k)=(duA f l (k+1),if k+1=(zn f l).length+21 then⟨1,0,f,l⟩else z02):=by
 have hl:=h.raw_len
 unfold duA duW
 by_cases h1:k < 11
 ·rw[if_pos h1,if_pos h1,if_neg (show ¬k+1=(zn f l).length+21 by omega)]
  have e:Nd.ones true k={ Nd.new true with c:=k }:=if_pos h1
  rw[e]
  refine(zbo { Nd.new true with c:=k,has:=true,f:=f,l:=l } rfl).2.trans ?_
  by_cases h2:k+1 < 11
  ·rw[if_pos h2,if_neg (by show ¬k+1=11;omega),show Nd.ones true (k+1)={ Nd.new true with c:=k+1 } from if_pos h2]
  ·rw[if_neg h2,if_pos (by show k+1=11;omega),if_pos (by omega),show k+1 - 11=0 by omega]
   rfl
 rw[if_neg h1,if_neg h1,if_neg (show ¬k+1 < 11 by omega)]
 by_cases h2:k < (zn f l).length+24
 ·rw[if_pos (show k < (zn f l).length+25 by omega),if_pos h2,if_pos (show k+1 < (zn f l).length+25 by omega),(zgg h (by omega)).2,show k - 11+1=k+1 - 11 by omega]
  by_cases h3:k+1=(zn f l).length+21
  ·rw[if_pos h3,if_pos (by omega)]
  ·rw[if_neg h3,if_neg (by omega)]
 rw[if_neg h2,if_neg (show ¬k+1=(zn f l).length+21 by omega),if_neg (show ¬k+1 < (zn f l).length+25 by omega)]
 obtain⟨e1,_,e3,_⟩:=pr_end f l
 by_cases h3:k < (zn f l).length+25
 ·rw[if_pos h3,show k - 11=(zn f l).length+13 by omega]
  exact(zbe _ e1 e3).2
 ·rw[if_neg h3]
  exact(zbe { prA f l ((zn f l).length+13)with snd:=false } e1 e3).2
theorem duB_end(f:Hd)(l:List Nat):(prB f l ((zn f l).length+13)).snd=false:=by
 unfold prB
 rw[if_neg (by omega),if_neg (by omega),if_neg (by omega),if_neg (by omega)]
 rfl
theorem duB_step{f:Hd}{l:List Nat}(h:Fr f l)(k:Nat):(duB f l k).step (duW f l k)=(duB f l (k+1),if k+1=(zn f l).length+20 then⟨2,0,f,l⟩else z02):=by
 have hl:=h.raw_len
 unfold duB duW
 by_cases h1:k < 11
 ·rw[if_pos h1,if_pos h1,if_neg (show ¬k+1=(zn f l).length+20 by omega),(zdg true k).2]
  by_cases h2:k+1 < 11
  ·rw[if_pos h2]
  ·rw[if_neg h2,if_pos (by omega),show k+1 - 11=0 by omega]
   unfold Nd.ones
   rw[if_neg h2]
   rfl
 rw[if_neg h1,if_neg h1,if_neg (show ¬k+1 < 11 by omega)]
 by_cases h2:k < (zn f l).length+24
 ·rw[if_pos (show k < (zn f l).length+25 by omega),if_pos h2,if_pos (show k+1 < (zn f l).length+25 by omega),(zgZ h (by omega)).2,show k - 11+1=k+1 - 11 by omega]
  by_cases h3:k+1=(zn f l).length+20
  ·rw[if_pos h3,if_pos (by omega)]
  ·rw[if_neg h3,if_neg (by omega)]
 rw[if_neg h2,if_neg (show ¬k+1=(zn f l).length+20 by omega),if_neg (show ¬k+1 < (zn f l).length+25 by omega)]
 obtain⟨_,_,_,_,e1,_,e3,_⟩:=pr_end f l
 have es:=duB_end f l
 have key:(prB f l ((zn f l).length+13)).step 1=(prB f l ((zn f l).length+13),z02):=by
  refine(zbe _ e1 e3).2.trans ?_
  generalize prB f l ((zn f l).length+13)=n at es
  cases n
  cases es
  rfl
 by_cases h3:k < (zn f l).length+25
 ·rw[if_pos h3,show k - 11=(zn f l).length+13 by omega]
  exact key
 ·rw[if_neg h3]
  exact key
theorem du_bus{f:Hd}{l:List Nat}(h:Fr f l)(k:Nat):(duA f l k).out<=1/\(duB f l k).out<=1/\min (duA f l k).out (duB f l k).out=duW f l k:=by
 have hl:=h.raw_len
 unfold duA duB duW
 by_cases h1:k < 11
 ·rw[if_pos h1,if_pos h1,if_pos h1,(zdg true k).1]
  have e:Nd.ones true k={ Nd.new true with c:=k }:=if_pos h1
  rw[e,(zbo { Nd.new true with c:=k,has:=true,f:=f,l:=l } rfl).1]
  exact⟨by omega,by omega,rfl⟩
 rw[if_neg h1,if_neg h1,if_neg h1]
 obtain⟨e1,_,e3,_,e5,_,e7,_⟩:=pr_end f l
 by_cases h2:k < (zn f l).length+24
 ·rw[if_pos (show k < (zn f l).length+25 by omega),if_pos (show k < (zn f l).length+25 by omega),if_pos h2]
  exact zkc h (by omega)
 rw[if_neg h2]
 by_cases h3:k < (zn f l).length+25
 ·rw[if_pos h3,if_pos h3,show k - 11=(zn f l).length+13 by omega,(zbe _ e1 e3).1,(zbe _ e5 e7).1]
  exact⟨by omega,by omega,rfl⟩
 ·rw[if_neg h3,if_neg h3,(zbe { prA f l ((zn f l).length+13)with snd:=false } e1 e3).1,(zbe _ e5 e7).1]
  exact⟨by omega,by omega,rfl⟩
theorem duW_le{f:Hd}{l:List Nat}(h:Fr f l)(k:Nat):duW f l k<=1:=by
 obtain⟨h1,h2,h3⟩:=du_bus h k
 omega
theorem du_new{f:Hd}{l:List Nat}(h:Fr f l):(Nd.new true).loadE f l=0/\(Nd.new true).load f l=duA f l 0/\Nd.new true=duB f l 0:=by
 have e:(Nd.new true).loadE f l=0:=by
  unfold Nd.loadE
  rw[h.ok]
  simp[Nd.new]
 refine⟨e,?_,?_⟩
 ·unfold Nd.load
  rw[if_pos e]
  rfl
 ·unfold duB
  rw[if_pos (by omega)]
  rfl
theorem duA_ok{f:Hd}{l:List Nat}(h:Fr f l)(k:Nat):(duA f l k).Ok:=by
 induction k with
 | zero =>
   rw[<- (du_new h).2.1]
   exact zdc (z6n true) h.wd h.b (fun hh=>by cases hh)
 | succ k ih =>
   have so:=z9P ih (duW_le h k)
   rw[duA_step h]at so
   exact so.ok
theorem duB_ok{f:Hd}{l:List Nat}(h:Fr f l)(k:Nat):(duB f l k).Ok:=by
 induction k with
 | zero =>
   rw[<- (du_new h).2.2]
   exact z6n true
 | succ k ih =>
   have so:=z9P ih (duW_le h k)
   rw[duB_step h]at so
   exact so.ok
theorem short_wire{f:Hd}{l:List Nat}(h:Fr f l)(hl:l.length<=16):(zn f l).length<=400:=by
 have hok:=h.ok
 unfold zn
 rcases z3Y hok with hk | hk | hk
 ·have ho:okC f l=true:=by simp[okC,hk,hok]
  obtain⟨P,hP,_,_,_,g,_⟩:=z5u ho
  rw[if_neg (by omega),if_neg (by omega)]
  omega
 ·have ho:okD f l=true:=by simp[okD,hk,hok]
  have h1:=z5L ho
  have h3:=(zr (bdC f l)).1
  have h4:=zfs f l
  rw[if_neg (by omega)]at h4
  rw[if_pos hk]
  omega
 ·have ho:okX f l=true:=by simp[okX,hk,hok]
  have h1:=z7L ho
  have h2:=(zr (zi f.I.toNat)).1
  rw[zU]at h2
  have h4:=zhT f l
  have h5:szF 8 false (bxC f l).length<=(bxC f l).length+(bxC f l).length / 8+1:=by
   unfold szF
   split
   ·omega
   ·simp only[Bool.toNat_false]
    omega
  rw[if_neg (by omega),if_pos hk]
  omega
theorem evsT_get(ns:List Nd)(t:Nat){j:Nat}(h:j < ns.length):(z51 ns t).getD j z02=((ns.getD j dN).step (z5z (z3e ns) t j)).2:=by simp[z51,List.getD,h]
end Go.Proofs.YtkjjfnmeogpdbaaGreatDoor
