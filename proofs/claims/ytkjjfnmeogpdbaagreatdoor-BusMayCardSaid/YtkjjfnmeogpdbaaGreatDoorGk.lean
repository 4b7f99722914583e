/- What a row of raw bits is (layer 9), as an automaton on lists: each state holds the bits that it has seen. No program here. No conditions. Frames on the wire and the automaton of layer 9: ahead of its delimiter each is at its tail, with all sums right, as that frame. No program here. No conditions but the fields' own widths. The automaton of layer 9: what is told of the beginnings of a frame on the wire; who doesn't know XL frames. No program here. No conditions but the fields' own widths. The automaton of layer 9: with one bit turned, where that is told, a frame isn't done. No program here. No conditions but the fields' own widths. The automaton of layer 9: with one bit turned behind what arbitrates an XL frame isn't done. No program here. No conditions but the fields' own widths. -/
import Derived.Test.YtkjjfnmeogpdbaaGreatDoorXlM
import Derived.Test.YtkjjfnmeogpdbaaGreatDoorFdP
namespace Go.Proofs.YtkjjfnmeogpdbaaGreatDoor
set_option linter.unusedVariables false
set_option linter.unusedSimpArgs false
open Go.RowKit
def noF:Hd:=⟨0,0,false,false,false,false,false,0,0,0⟩
structure Sta where
 k:Nat
 e:Nat
 f:Hd
 l:List Nat
def z1j(e:Nat):Sta:=⟨3,e,noF,[]⟩
inductive Ph where
 | dyn (x:List Nat)
 | fx (h y:List Nat)
 | xs (h y:List Nat)
 | xd (h y:List Nat)
 | xe (h y z:List Nat)
 | tail (ok:Bool) (f:Hd) (l t:List Nat)
 | fin (s:Sta)
inductive Jd where
 | on
 | bad
 | alien
 | cl
 | fd
 | xl
def z1p(g:Nat->Nat)(k:Nat):Nat:=8*g k+4*g (k+1)+2*g (k+2)+g (k+3)
def z1K(n at_ r code:Nat):Jd:=if n=at_/\(8 < code\/(r=1/\0 < code))then .bad else if n=at_+8*code+15 then .cl else .on
def zt(kn:Bool)(n:Nat)(g:Nat->Nat):Jd :=
 if n=1 then(if g 0=1 then .bad else .on)
 else if n < 14 then .on
 else if n=14 then(if g 13=1/\g 12=0 then .bad else .on)
 else if g 13=1 then
  (if n < 34 then .on else if n=34 then(if g 33=1 then .bad else .on)else if n=35 then(if g 34=1 then .bad else .on)else if n < 39 then .on else z1K n 39 (g 32) (z1p g 35))
 else if n=15 then(if g 14=1/\g 12=1 then .bad else .on)
 else if g 14=0 then(if n < 19 then .on else z1K n 19 (g 12) (z1p g 15))
 else if n=16 then(if g 15=1/\kn=false then .alien else .on)
 else if g 15=0 then(if n < 22 then .on else if n=22+8*atF 2 (z1p g 18)then .fd else .on)
 else if g 16=1 then .bad else .xl
def zl(l:List Nat)(i:Nat):Nat:=l.getD i 0
def zy(kn:Bool)(l:List Nat):Jd:=zt kn l.length (zl l)
theorem z7d{kn:Bool}{n:Nat}{g g':Nat->Nat}(h:∀i,i < n->g i=g' i):zt kn n g=zt kn n g':=by
 by_cases h1:n=1
 ·subst h1;simp[zt,h 0 (by omega)]
 by_cases h14:n < 14
 ·simp[zt,h1,h14]
 by_cases h14':n=14
 ·subst h14';simp[zt,h 12 (by omega),h 13 (by omega)]
 have e12:=h 12 (by omega)
 have e13:=h 13 (by omega)
 have e14:=h 14 (by omega)
 unfold zt
 rw[if_neg h1,if_neg h1,if_neg h14,if_neg h14,if_neg h14',if_neg h14',e12,e13,e14]
 by_cases hx:g' 13=1
 ·rw[if_pos hx,if_pos hx]
  by_cases h34:n < 34
  ·rw[if_pos h34,if_pos h34]
  rw[if_neg h34,if_neg h34]
  by_cases h34':n=34
  ·rw[if_pos h34',if_pos h34',h 33 (by omega)]
  rw[if_neg h34',if_neg h34']
  by_cases h35:n=35
  ·rw[if_pos h35,if_pos h35,h 34 (by omega)]
  rw[if_neg h35,if_neg h35]
  by_cases h39:n < 39
  ·rw[if_pos h39,if_pos h39]
  rw[if_neg h39,if_neg h39,z1p,z1p,h 32 (by omega),h 35 (by omega),h 36 (by omega),h 37 (by omega),h 38 (by omega)]
 ·rw[if_neg hx,if_neg hx]
  by_cases h15:n=15
  ·rw[if_pos h15,if_pos h15]
  rw[if_neg h15,if_neg h15]
  by_cases hc:g' 14=0
  ·rw[if_pos hc,if_pos hc]
   by_cases h19:n < 19
   ·rw[if_pos h19,if_pos h19]
   rw[if_neg h19,if_neg h19,z1p,z1p,h 15 (by omega),h 16 (by omega),h 17 (by omega),h 18 (by omega)]
  ·rw[if_neg hc,if_neg hc,h 15 (by omega)]
   by_cases h16:n=16
   ·rw[if_pos h16,if_pos h16]
   rw[if_neg h16,if_neg h16,h 16 (by omega)]
   by_cases hf:g' 15=0
   ·rw[if_pos hf,if_pos hf]
    by_cases h22:n < 22
    ·rw[if_pos h22,if_pos h22]
    rw[if_neg h22,if_neg h22,z1p,z1p,h 18 (by omega),h 19 (by omega),h 20 (by omega),h 21 (by omega)]
   ·rw[if_neg hf,if_neg hf]
theorem z1d{kn:Bool}{l:List Nat}{j:Nat}(hj:j<=l.length):zy kn (l.take j)=zt kn j (zl l):=by
 rw[zy,List.length_take,Nat.min_eq_left hj]
 exact z7d (fun i hi=>by simp[zl,List.getD,List.getElem?_take,hi])
def zdz(l:List Nat):Nat:=if zl l 13=1 then 39 else 19
def clF(l:List Nat):Hd :=
 if zl l 13=1 then⟨1,((zB ((l.drop 1).take 11)*262144+zB ((l.drop 14).take 18):Nat):Int),true,zl l 32==1,false,false,false,0,0,0⟩
 else⟨1,(zB ((l.drop 1).take 11):Nat),false,zl l 12==1,false,false,false,0,0,0⟩
def clD(l:List Nat):List Nat:=z0r ((l.drop (zdz l)).take (8*z1p (zl l) (zdz l - 4)))
def fdN(l:List Nat):Nat:=atF 2 (z1p (zl l) 18)
def fdF(l:List Nat):Hd:=⟨2,(zB ((l.drop 1).take 11):Nat),false,false,zl l 16==1,zl l 17==1,false,0,0,0⟩
def fdD(l:List Nat):List Nat:=z0r (l.drop 22)
def fdM(h:List Nat):Nat:=if 16 < fdN (zo h)then 32 else 27
def fdO(h y:List Nat):List Nat:=(fgS 4 true (zm h) y).out
def z3V(h y:List Nat):Bool:=decide ((fdO h y).take 4=zr (h.length - (zo h).length))&&z1J (zx (fdN (zo h))) (h++fdO h y)
def xo(y:List Nat):List Nat:=(fgS 8 false 1 y).out
def xlN(o:List Nat):Nat:=zB ((o.drop 9).take 11)+1
def z1x(y:List Nat):Bool:=decide (22<=y.length)&&decide (y.length=szF 8 false (109+8*xlN (xo y)))
def z4S(h y:List Nat):Bool:=decide (((xo y).drop 20).take 4=zr (h.length - 17))&&(z1J 4 (zo h++(xo y).take 37)&&z1J 5 (xo y))
def xlF(hd o:List Nat):Hd:=⟨3,(zB ((hd.drop 1).take 11):Nat),false,false,false,false,zl o 8==1,(zB (o.take 8):Nat),(zB ((o.drop 37).take 8):Nat),(zB ((o.drop 45).take 32):Nat)⟩
def xlD(o:List Nat):List Nat:=z0r ((o.drop 77).take (8*xlN o))
def z2F(x l:List Nat):Jd->Ph
 | .on => .dyn x
 | .bad => .fin (z1j 5)
 | .alien => .fin ⟨4,0,noF,[]⟩
 | .cl => .tail (z1J 1 l) (clF l) (clD l) []
 | .fd => .fx x []
 | .xl => .xs x []
def z07(kn:Bool):Ph->Nat->Ph
 | .dyn x,b=>if full x then(if b=zm x then .fin (z1j 4)else .dyn (x++[b]))else z2F (x++[b]) (zo x++[b]) (zy kn (zo x++[b]))
 | .fx h y,b=>if(fgS 4 true (zm h) (y++[b])).ok then(if(y++[b]).length=fdM h then .tail (z3V h (y++[b])) (fdF (zo h)) (fdD (zo h)) []else .fx h (y++[b]))else .fin (z1j 4)
 | .xs h y,b=>if b=zC.getD y.length 0 then(if y.length=3 then .xd h []else .xs h (y++[b]))else .fin (z1j 5)
 | .xd h y,b=>if(fgS 8 false 1 (y++[b])).ok then(if z1x (y++[b])then .xe h (y++[b]) []else .xd h (y++[b]))else .fin (z1j 4)
 | .xe h y z,b=>if b=z0w.getD z.length 0 then(if z.length=3 then .tail (z4S h y) (xlF (zo h) (xo y)) (xlD (xo y)) []else .xe h y (z++[b]))else .fin (z1j 5)
 | .tail ok f l t,b=>if t.length=2/\ok=false then .fin (z1j 6)else if t.length≠1/\b=0 then .fin (z1j 5)else if t.length=8 then .fin ⟨2,0,f,l⟩else .tail ok f l (t++[b])
 | .fin s,_ => .fin s
def goS(kn:Bool)(p:Ph)(x:List Nat):Ph:=x.foldl (z07 kn) p
def scS(kn:Bool)(x:List Nat):Ph:=goS kn (.dyn []) x
def zT:Ph->Sta
 | .tail ok _ _ t=>if t.length=1/\ok=true then⟨1,0,noF,[]⟩ else⟨0,0,noF,[]⟩
 | .fin s=>s
 | _=>⟨0,0,noF,[]⟩
theorem z0j(kn:Bool)(p:Ph)(x:List Nat)(b:Nat):goS kn p (x++[b])=z07 kn (goS kn p x) b:=by simp[goS]
theorem z1h(kn:Bool)(p:Ph)(x y:List Nat):goS kn p (x++y)=goS kn (goS kn p x) y:=by simp[goS]
theorem zdV(kn:Bool)(p:Ph)(b:Nat)(x:List Nat):goS kn p (b::x)=goS kn (z07 kn p b) x:=rfl
theorem zd3(kn:Bool)(s:Sta)(x:List Nat):goS kn (.fin s) x = .fin s:=by
 induction x with
 | nil=>rfl
 | cons b x ih=>rw[zdV];exact ih
theorem z5t{kn:Bool}{l:List Nat}:(∀x∈l,x<=1)->(∀j,1<=j->j < l.length->zy kn (l.take j) = .on)->l≠[]->scS kn (zi l)=z2F (zi l) l (zy kn l):=by
 refine zz (P:=fun l=>(∀x∈l,x<=1)->(∀j,1<=j->j < l.length->zy kn (l.take j) = .on)->l≠[]->scS kn (zi l)=z2F (zi l) l (zy kn l)) (fun _ _ h=>absurd rfl h) (fun l b ih hb hj _ => ?_) l
 have hb':∀x∈l,x<=1:=fun x hx=>hb x (List.mem_append_left _ hx)
 have hd:scS kn (zi l) = .dyn (zi l):=by
  by_cases hl:l=[]
  ·subst hl;rfl
  ·have hp:0 < l.length:=List.length_pos_iff.2 hl
   have h1:=ih hb' (fun j h1 h2=>by
    have:=hj j h1 (by rw[List.length_append];omega)
    rwa[List.take_append_of_le_length (by omega)]at this) hl
   have h2:=hj l.length (by omega) (by rw[List.length_append];simp)
   rw[List.take_left]at h2
   rw[h1,h2]
   rfl
 have ht:=(z1k hb').1
 rw[z0c]
 unfold zW
 have hle:=z0Z (z0h hb')
 cases hf:full (zi l) with
 | true =>
   simp only[if_true]
   obtain⟨ho,_⟩:=z26 hle
   have h1:scS kn (zi l++[1 - zm (zi l)]) = .dyn (zi l++[1 - zm (zi l)]):=by
    rw[scS,z0j,<- scS,hd]
    show(if full (zi l)then _ else _)=_
    rw[hf,if_pos rfl,if_neg (by omega)]
   rw[show zi l++[1 - zm (zi l),b]=(zi l++[1 - zm (zi l)])++[b] by simp,scS,z0j,<- scS,h1]
   show(if full (zi l++[1 - zm (zi l)])then _ else z2F _ (zo _++[b]) (zy kn (zo _++[b])))=_
   rw[ho,z0q,hf,if_pos rfl,ht]
   rfl
 | false =>
   simp only[Bool.false_eq_true,if_false]
   rw[scS,z0j,<- scS,hd]
   show(if full (zi l)then _ else z2F _ (zo _++[b]) (zy kn (zo _++[b])))=_
   rw[hf,ht]
   rfl
theorem zhV{kn:Bool}{h y:List Nat}:(fgS 4 true (zm h) y).ok=true->y.length < fdM h->goS kn (.fx h []) y = .fx h y:=by
 refine zz (P:=fun y=>(fgS 4 true (zm h) y).ok=true->y.length < fdM h->goS kn (.fx h []) y = .fx h y) (fun _ _=>rfl) (fun y b ih h1 h2 => ?_) y
 rw[List.length_append,List.length_singleton]at h2
 rw[z0j,ih (z2g _ _ _ y [b] h1) (by omega)]
 show(if(fgS 4 true (zm h) (y++[b])).ok then _ else _)=_
 rw[h1,if_pos rfl,if_neg (by rw[List.length_append,List.length_singleton];omega)]
theorem zhb{kn:Bool}{h y:List Nat}{b:Nat}(h1:(fgS 4 true (zm h) (y++[b])).ok=true)(h2:y.length+1=fdM h):goS kn (.fx h []) (y++[b]) = .tail (z3V h (y++[b])) (fdF (zo h)) (fdD (zo h)) []:=by
 rw[z0j,zhV (z2g _ _ _ y [b] h1) (by omega)]
 show(if(fgS 4 true (zm h) (y++[b])).ok then _ else _)=_
 rw[h1,if_pos rfl,if_pos (by rw[List.length_append,List.length_singleton];omega)]
theorem zi7{kn:Bool}{h y:List Nat}:(fgS 8 false 1 y).ok=true->(∀j,j<=y.length->z1x (y.take j)=false)->goS kn (.xd h []) y = .xd h y:=by
 refine zz (P:=fun y=>(fgS 8 false 1 y).ok=true->(∀j,j<=y.length->z1x (y.take j)=false)->goS kn (.xd h []) y = .xd h y) (fun _ _=>rfl) (fun y b ih h1 h2 => ?_) y
 rw[z0j,ih (z2g _ _ _ y [b] h1) (fun j hj=>by
  have:=h2 j (by rw[List.length_append];omega)
  rwa[List.take_append_of_le_length hj]at this)]
 have h3:=h2 (y++[b]).length (Nat.le_refl _)
 rw[List.take_length]at h3
 show(if(fgS 8 false 1 (y++[b])).ok then _ else _)=_
 rw[h1,if_pos rfl,h3]
 rfl
theorem zh2{kn:Bool}{h y:List Nat}{b:Nat}(h1:(fgS 8 false 1 (y++[b])).ok=true)(h2:∀j,j<=y.length->z1x (y.take j)=false)(h3:z1x (y++[b])=true):goS kn (.xd h []) (y++[b]) = .xe h (y++[b]) []:=by
 rw[z0j,zi7 (z2g _ _ _ y [b] h1) h2]
 show(if(fgS 8 false 1 (y++[b])).ok then _ else _)=_
 rw[h1,if_pos rfl,h3]
 rfl
theorem zdK(kn:Bool)(h:List Nat):goS kn (.xs h []) zC = .xd h []:=rfl
theorem zg7(kn:Bool)(h y:List Nat):goS kn (.xe h y []) z0w = .tail (z4S h y) (xlF (zo h) (xo y)) (xlD (xo y)) []:=rfl
theorem zfT (kn:Bool) (f:Hd) (l:List Nat) (a:Nat) (ha:a<=1) :
    goS kn (.tail true f l []) [1] = .tail true f l [1]/\(∀j,2<=j->j<=8->goS kn (.tail true f l []) (([1,a]++ones 8).take j) = .tail true f l (([1,a]++ones 8).take j))/\goS kn (.tail true f l []) (([1,a]++ones 8).take 9) = .fin ⟨2,0,f,l⟩:=by
 refine⟨rfl,fun j h1 h2 => ?_,?_⟩
 ·rcases(by omega:a=0\/a=1)with rfl | rfl<;>rcases(by omega:j=2\/j=3\/j=4\/j=5\/j=6\/j=7\/j=8)with rfl | rfl | rfl | rfl | rfl | rfl | rfl<;>rfl
 ·rcases(by omega:a=0\/a=1)with rfl | rfl<;>rfl
theorem z0E{A B:List Nat}(k:Nat){i:Nat}(h:i=A.length+k):zl (A++B) i=zl B k:=by rw[zl,List.getD,h,List.getElem?_append_right (by omega),Nat.add_sub_cancel_left];rfl
theorem zgZ(n:Nat):zc n 4=[n / 8%2,n / 4%2,n / 2%2,n%2]:=by
 simp[zc,List.range_succ]
theorem z8U{A C:List Nat}{n k:Nat}(hn:n < 16)(hk:A.length=k):z1p (zl (A++(zc n 4++C))) k=n:=by
 subst hk
 rw[z1p,z0E (i:=A.length) 0 (by omega),z0E 1 rfl,z0E 2 rfl,z0E 3 rfl,zgZ]
 simp[zl]
 omega
theorem z2s{A B C:List Nat}{k n:Nat}(hk:A.length=k)(hn:B.length=n):((A++(B++C)).drop k).take n=B:=by
 rw[List.drop_left' hk,List.take_left' hn]
theorem z4d{k:Int}{l:List Nat}(hz:szK k≠0)(hb:∀x∈l,x<=1)(hl:l.length<=60000):z1J k (l++z1L k l)=true:=by
 have hc:=z0e hb (by omega)
 have:=(ze9 k l (z2H hz hc) hl).1
 rwa[(z2x hz hc).1]at this
theorem zcv {kn:Bool} {g:Nat->Nat} {c:Nat} (h0:g 0=0) (h12:g 12=1) (h13:g 13=1) (h33:g 33=0) (h34:g 34=0) (hc:z1p g 35=c) (h8:c<=8) (hr:g 32=1->c=0) :
    (∀j,j < 39+8*c+15->zt kn j g = .on)/\zt kn (39+8*c+15) g = .cl:=by
 have key:∀j,15<=j->zt kn j g=if j=39+8*c+15 then .cl else .on:=by
  intro j hj
  unfold zt
  rw[if_neg (by omega),if_neg (by omega),if_neg (by omega),if_pos h13]
  by_cases h1:j < 34
  ·rw[if_pos h1,if_neg (by omega)]
  rw[if_neg h1]
  by_cases h2:j=34
  ·rw[if_pos h2,if_neg (by omega),if_neg (by omega)]
  rw[if_neg h2]
  by_cases h3:j=35
  ·rw[if_pos h3,if_neg (by omega),if_neg (by omega)]
  rw[if_neg h3]
  by_cases h4:j < 39
  ·rw[if_pos h4,if_neg (by omega)]
  rw[if_neg h4,hc,z1K,if_neg (by rintro⟨_,h | ⟨h,h'⟩⟩;omega;have:=hr h;omega)]
 refine⟨fun j hj => ?_,by rw[key _ (by omega),if_pos rfl]⟩
 rcases Nat.lt_or_ge j 15 with h | h
 ·unfold zt
  by_cases h1:j=1
  ·rw[if_pos h1,if_neg (by omega)]
  rw[if_neg h1]
  by_cases h2:j < 14
  ·rw[if_pos h2]
  rw[if_neg h2,if_pos (by omega),if_neg (by omega)]
 ·rw[key j h,if_neg (by omega)]
theorem zdb {kn:Bool} {g:Nat->Nat} {c:Nat} (h0:g 0=0) (h13:g 13=0) (h14:g 14=0) (hc:z1p g 15=c) (h8:c<=8) (hr:g 12=1->c=0) :
    (∀j,j < 19+8*c+15->zt kn j g = .on)/\zt kn (19+8*c+15) g = .cl:=by
 have key:∀j,16<=j->zt kn j g=if j=19+8*c+15 then .cl else .on:=by
  intro j hj
  unfold zt
  rw[if_neg (by omega),if_neg (by omega),if_neg (by omega),if_neg (by omega),if_neg (by omega),if_pos h14]
  by_cases h1:j < 19
  ·rw[if_pos h1,if_neg (by omega)]
  rw[if_neg h1,hc,z1K,if_neg (by rintro⟨_,h | ⟨h,h'⟩⟩;omega;have:=hr h;omega)]
 refine⟨fun j hj => ?_,by rw[key _ (by omega),if_pos rfl]⟩
 rcases Nat.lt_or_ge j 16 with h | h
 ·unfold zt
  by_cases h1:j=1
  ·rw[if_pos h1,if_neg (by omega)]
  rw[if_neg h1]
  by_cases h2:j < 14
  ·rw[if_pos h2]
  rw[if_neg h2]
  by_cases h3:j=14
  ·rw[if_pos h3,if_neg (by omega)]
  rw[if_neg h3,if_neg (by omega),if_pos (by omega),if_neg (by omega)]
 ·rw[key j h,if_neg (by omega)]
theorem z6R{kn:Bool}{g:Nat->Nat}(h0:g 0=0)(h12:g 12=0)(h13:g 13=0)(h14:g 14=1){j:Nat}(hj:j < 16):zt kn j g = .on:=by
 unfold zt
 by_cases h1:j=1
 ·rw[if_pos h1,if_neg (by omega)]
 rw[if_neg h1]
 by_cases h2:j < 14
 ·rw[if_pos h2]
 rw[if_neg h2]
 by_cases h3:j=14
 ·rw[if_pos h3,if_neg (by omega)]
 rw[if_neg h3,if_neg (by omega),if_pos (by omega),if_neg (by omega)]
theorem zeY {kn:Bool} {g:Nat->Nat} {n:Nat} (h0:g 0=0) (h12:g 12=0) (h13:g 13=0) (h14:g 14=1) (h15:g 15=0) (hc:atF 2 (z1p g 18)=n) :
    (∀j,j < 22+8*n->zt kn j g = .on)/\zt kn (22+8*n) g = .fd:=by
 have key:∀j,16<=j->zt kn j g=if j=22+8*n then .fd else .on:=by
  intro j hj
  unfold zt
  rw[if_neg (by omega),if_neg (by omega),if_neg (by omega),if_neg (by omega),if_neg (by omega),if_neg (by omega)]
  by_cases h1:j=16
  ·rw[if_pos h1,if_neg (by omega),if_neg (by omega)]
  rw[if_neg h1,if_pos h15]
  by_cases h2:j < 22
  ·rw[if_pos h2,if_neg (by omega)]
  rw[if_neg h2,hc]
 refine⟨fun j hj => ?_,by rw[key _ (by omega),if_pos rfl]⟩
 rcases Nat.lt_or_ge j 16 with h | h
 ·exact z6R h0 h12 h13 h14 h
 ·rw[key j h,if_neg (by omega)]
theorem zdv {kn:Bool} {g:Nat->Nat} (h0:g 0=0) (h12:g 12=0) (h13:g 13=0) (h14:g 14=1) (h15:g 15=1) (h16:g 16=0) :
    zt kn 16 g=(if kn=true then .on else .alien)/\zt kn 17 g = .xl:=by
 constructor
 ·unfold zt
  rw[if_neg (by omega),if_neg (by omega),if_neg (by omega),if_neg (by omega),if_neg (by omega),if_neg (by omega),if_pos rfl]
  cases kn
  ·rw[if_pos ⟨h15,rfl⟩,if_neg (by simp)]
  ·rw[if_neg (by simp),if_pos rfl]
 ·unfold zt
  rw[if_neg (by omega),if_neg (by omega),if_neg (by omega),if_neg (by omega),if_neg (by omega),if_neg (by omega),if_neg (by omega),if_neg (by omega),if_neg (by omega)]
theorem z3d(R:Bool):(z0k R==1)=R:=by cases R<;>rfl
theorem z9m{f:Hd}{l:List Nat}:okC f l=true->∀x∈zS f l,x<=1:=by
 intro h
 rw[zS,if_pos h]
 exact z6G _ _ _ _
theorem zhf{kn:Bool}{f:Hd}{l:List Nat}(h:okC f l=true)(hI:0<=f.I)(hb:∀x∈l,x < 256):scS kn (zi (zS f l)) = .tail true f l []:=by
 have hbit:=z9m h
 obtain⟨i,ef,et,h8,hR,hX,hi⟩:=z1F h hI
 rw[zS,if_pos h,et]at hbit ⊢
 have hlen:=z6M f.X f.R i l
 have hfit:z1J 1 (zR f.X f.R i l)=true:=z4d (by decide) (z4c _ _ _ _) (by rw[z2P];split<;>omega)
 have hpk:z0r (ze l)=l:=z37 l hb
 cases hx:f.X with
 | true =>
   rw[hx]at ef hbit hlen hfit
   rw[if_pos rfl]at hlen
   have e1:zR true f.R i l=[0]++(zc (i / 262144) 11++([1,1]++(zc (i%262144) 18++[z0k f.R,0,0]++(zc l.length 4++ze l)++z1L 1 (z1s true f.R i l)))):=by simp[zR,z1s,zN]
   have e2:zR true f.R i l=([0]++zc (i / 262144) 11++[1,1])++(zc (i%262144) 18++([z0k f.R,0,0]++(zc l.length 4++ze l)++z1L 1 (z1s true f.R i l))):=by simp[zR,z1s,zN]
   have e3:zR true f.R i l=([0]++zc (i / 262144) 11++[1,1]++zc (i%262144) 18)++([z0k f.R,0,0]++((zc l.length 4++ze l)++z1L 1 (z1s true f.R i l))):=by simp[zR,z1s,zN]
   have e4:zR true f.R i l=([0]++zc (i / 262144) 11++[1,1]++zc (i%262144) 18++[z0k f.R,0,0])++(zc l.length 4++(ze l++z1L 1 (z1s true f.R i l))):=by simp[zR,z1s,zN]
   have e5:zR true f.R i l=([0]++zc (i / 262144) 11++[1,1]++zc (i%262144) 18++[z0k f.R,0,0]++zc l.length 4)++(ze l++z1L 1 (z1s true f.R i l)):=by simp[zR,z1s,zN]
   have e6:zR true f.R i l=([0]++zc (i / 262144) 11)++([1,1]++(zc (i%262144) 18++([z0k f.R,0,0]++(zc l.length 4++ze l)++z1L 1 (z1s true f.R i l)))):=by simp[zR,z1s,zN]
   have g0:zl (zR true f.R i l) 0=0:=by rw[e1];rfl
   have g12:zl (zR true f.R i l) 12=1:=by rw[e6,z0E 0 (by simp[zb])];rfl
   have g13:zl (zR true f.R i l) 13=1:=by rw[e6,z0E 1 (by simp[zb])];rfl
   have g32:zl (zR true f.R i l) 32=z0k f.R:=by rw[e3,z0E 0 (by simp[zb])];rfl
   have g33:zl (zR true f.R i l) 33=0:=by rw[e3,z0E 1 (by simp[zb])];rfl
   have g34:zl (zR true f.R i l) 34=0:=by rw[e3,z0E 2 (by simp[zb])];rfl
   have gc:z1p (zl (zR true f.R i l)) 35=l.length:=by rw[e4];exact z8U (by omega) (by simp[zb])
   obtain⟨j1,j2⟩:=zcv (kn:=kn) g0 g12 g13 g33 g34 gc h8 (fun h=>by
    rw[g32]at h
    have:f.R=true:=by cases hr:f.R with | true=>rfl | false=>rw[hr]at h;simp[z0k]at h
    rw[hR this];rfl)
   have hl2:(zR true f.R i l).length=39+8*l.length+15:=by omega
   rw[z5t hbit (fun j h1 h2=>by rw[z1d (by omega)];exact j1 j (by omega)) (by intro e;rw[e]at hl2;simp at hl2),zy,hl2,j2]
   show Ph.tail _ _ _ _=_
   rw[hfit]
   have eF:clF (zR true f.R i l)=f:=by
    rw[clF,if_pos g13,g32,z3d]
    have a1:((zR true f.R i l).drop 1).take 11=zc (i / 262144) 11:=by rw[e1];exact z2s rfl (zb _ _)
    have a2:((zR true f.R i l).drop 14).take 18=zc (i%262144) 18:=by rw[e2];exact z2s (by simp[zb]) (zb _ _)
    rw[a1,a2,z0p _ _ (by omega),z0p _ _ (by omega),show i / 262144*262144+i%262144=i by omega]
    exact ef.symm
   have eD:clD (zR true f.R i l)=l:=by
    rw[clD,zdz,if_pos g13,gc]
    rw[show((zR true f.R i l).drop 39).take (8*l.length)=ze l by rw[e5];exact z2s (by simp[zb]) (zM l),hpk]
   rw[eF,eD]
 | false =>
   rw[hx]at ef hbit hlen hfit
   rw[if_neg (by simp)]at hlen
   have hi2:i < 2048:=hX hx
   have e1:zR false f.R i l=[0]++(zc i 11++([z0k f.R,0,0]++(zc l.length 4++ze l)++z1L 1 (z1s false f.R i l))):=by simp[zR,z1s,zN]
   have e2:zR false f.R i l=([0]++zc i 11)++([z0k f.R,0,0]++((zc l.length 4++ze l)++z1L 1 (z1s false f.R i l))):=by simp[zR,z1s,zN]
   have e3:zR false f.R i l=([0]++zc i 11++[z0k f.R,0,0])++(zc l.length 4++(ze l++z1L 1 (z1s false f.R i l))):=by simp[zR,z1s,zN]
   have e4:zR false f.R i l=([0]++zc i 11++[z0k f.R,0,0]++zc l.length 4)++(ze l++z1L 1 (z1s false f.R i l)):=by simp[zR,z1s,zN]
   have g0:zl (zR false f.R i l) 0=0:=by rw[e1];rfl
   have g12:zl (zR false f.R i l) 12=z0k f.R:=by rw[e2,z0E 0 (by simp[zb])];rfl
   have g13:zl (zR false f.R i l) 13=0:=by rw[e2,z0E 1 (by simp[zb])];rfl
   have g14:zl (zR false f.R i l) 14=0:=by rw[e2,z0E 2 (by simp[zb])];rfl
   have gc:z1p (zl (zR false f.R i l)) 15=l.length:=by rw[e3];exact z8U (by omega) (by simp[zb])
   obtain⟨j1,j2⟩:=zdb (kn:=kn) g0 g13 g14 gc h8 (fun h=>by
    rw[g12]at h
    have:f.R=true:=by cases hr:f.R with | true=>rfl | false=>rw[hr]at h;simp[z0k]at h
    rw[hR this];rfl)
   have hl2:(zR false f.R i l).length=19+8*l.length+15:=by omega
   rw[z5t hbit (fun j h1 h2=>by rw[z1d (by omega)];exact j1 j (by omega)) (by intro e;rw[e]at hl2;simp at hl2),zy,hl2,j2]
   show Ph.tail _ _ _ _=_
   rw[hfit]
   have eF:clF (zR false f.R i l)=f:=by
    rw[clF,if_neg (by omega),g12,z3d]
    have a1:((zR false f.R i l).drop 1).take 11=zc i 11:=by rw[e1];exact z2s rfl (zb _ _)
    rw[a1,z0p _ _ (by omega)]
    exact ef.symm
   have eD:clD (zR false f.R i l)=l:=by
    rw[clD,zdz,if_neg (by omega),gc]
    rw[show((zR false f.R i l).drop 19).take (8*l.length)=ze l by rw[e4];exact z2s (by simp[zb]) (zM l),hpk]
   rw[eF,eD]
theorem zfP {kn:Bool} {f:Hd} {l:List Nat} (h:okD f l=true) (hI:0<=f.I) (hb:∀x∈l,x < 256) :
    scS kn (zi (bdC f l)) = .fx (zi (bdC f l)) []/\zo (zi (bdC f l))=bdC f l/\fdN (bdC f l)=l.length/\fdF (bdC f l)=f/\fdD (bdC f l)=l:=by
 have hbit:=z3L (f:=f) (l:=l)
 have hlen:=z5p h
 obtain⟨i,ef,et,hh,hi⟩:=z1Z h hI
 obtain⟨h64,c16,_,cat⟩:=zhy hh
 have ht:=(z1k hbit).1
 have hpk:z0r (ze l)=l:=z37 l hb
 have eb:bdC f l=z0I f.B f.E i l:=by rw[bdC,if_pos h,et]
 rw[eb]at hbit hlen ht ⊢
 obtain⟨c,hc⟩:∃c,z0u 2 (l.length:Int)=c:=⟨_,rfl⟩
 rw[hc]at c16 cat
 have e1:z0I f.B f.E i l=[0]++(zc i 11++([0,0,1,0,z0k f.B,z0k f.E]++(zc c 4++ze l))):=by rw[<- hc];simp[z0I,headD]
 have e2:z0I f.B f.E i l=([0]++zc i 11)++([0,0,1,0,z0k f.B,z0k f.E]++(zc c 4++ze l)):=by rw[<- hc];simp[z0I,headD]
 have e3:z0I f.B f.E i l=([0]++zc i 11++[0,0,1,0,z0k f.B,z0k f.E])++(zc c 4++ze l):=by rw[<- hc];simp[z0I,headD]
 have e4:z0I f.B f.E i l=([0]++zc i 11++[0,0,1,0,z0k f.B,z0k f.E]++zc c 4)++ze l:=by rw[<- hc];simp[z0I,headD]
 have g0:zl (z0I f.B f.E i l) 0=0:=by rw[e1];rfl
 have g12:zl (z0I f.B f.E i l) 12=0:=by rw[e2,z0E 0 (by simp[zb])];rfl
 have g13:zl (z0I f.B f.E i l) 13=0:=by rw[e2,z0E 1 (by simp[zb])];rfl
 have g14:zl (z0I f.B f.E i l) 14=1:=by rw[e2,z0E 2 (by simp[zb])];rfl
 have g15:zl (z0I f.B f.E i l) 15=0:=by rw[e2,z0E 3 (by simp[zb])];rfl
 have g16:zl (z0I f.B f.E i l) 16=z0k f.B:=by rw[e2,z0E 4 (by simp[zb])];rfl
 have g17:zl (z0I f.B f.E i l) 17=z0k f.E:=by rw[e2,z0E 5 (by simp[zb])];rfl
 have gc:z1p (zl (z0I f.B f.E i l)) 18=c:=by rw[e3];exact z8U c16 (by simp[zb])
 have hn:atF 2 (z1p (zl (z0I f.B f.E i l)) 18)=l.length:=by rw[gc];omega
 obtain⟨j1,j2⟩:=zeY (kn:=kn) g0 g12 g13 g14 g15 hn
 refine⟨?_,ht,hn,?_,?_⟩
 ·rw[z5t hbit (fun j h1 h2=>by rw[z1d (by omega)];exact j1 j (by omega)) (by intro e;rw[e]at hlen;simp at hlen;omega),zy,hlen,j2]
  rfl
 ·have a1:((z0I f.B f.E i l).drop 1).take 11=zc i 11:=by rw[e1];exact z2s rfl (zb _ _)
  rw[fdF,g16,g17,z3d,z3d,a1,z0p _ _ (by omega)]
  exact ef.symm
 ·rw[fdD,e4,List.drop_left' (by simp[zb]),hpk]
theorem zbw{y:List Nat}(h:0 < y.length):∃z b,y=z++[b]:=⟨y.dropLast,y.getLast (List.ne_nil_of_length_pos h),(List.dropLast_concat_getLast _).symm⟩
theorem zgB{kn:Bool}{f:Hd}{l:List Nat}(h:okD f l=true)(hI:0<=f.I)(hb:∀x∈l,x < 256):scS kn (rwD f l) = .tail true f l []:=by
 obtain⟨h1,h2,h3,h4,h5⟩:=zfP (kn:=kn) h hI hb
 have hbit:=z3L (f:=f) (l:=l)
 have hpb:=z0h hbit
 have hle:=z0Z hpb
 have hnum:=z48 l.length (zi (bdC f l)) (bdC f l)
 have hM:fdM (zi (bdC f l))=(z53 l.length (zi (bdC f l)) (bdC f l)).length:=by rw[fdM,h2,h3,hnum]
 obtain⟨o1,o2,o3,o4⟩:=zfm (E:=4) (A:=true) hle (z6m l.length (zi (bdC f l)) (bdC f l))
 have hpos:0 < (z53 l.length (zi (bdC f l)) (bdC f l)).length:=by rw[hnum];split<;>omega
 have hfit:z3V (zi (bdC f l)) (z53 l.length (zi (bdC f l)) (bdC f l))=true:=by
  have e:fdO (zi (bdC f l)) (z53 l.length (zi (bdC f l)) (bdC f l))=zgv l.length (zi (bdC f l)) (bdC f l):=o1
  have hpl:=(zu (bdC f l)).1
  have hbl:=z5p h
  have h64:=zdi h
  rw[z3V,e,h2,h3,zgv,List.take_left' (z02 _),decide_eq_true rfl,Bool.true_and,<- List.append_assoc]
  refine z4d (by rw[z2X];split<;>omega) (fun x hx => ?_) (by rw[List.length_append,z02];omega)
  rcases List.mem_append.1 hx with hx | hx
  ·exact hpb x hx
  ·exact z0C _ x hx
 have ho:(fgS 4 true (zm (zi (bdC f l))) (z53 l.length (zi (bdC f l)) (bdC f l))).ok=true:=o3
 obtain⟨z,b,hz⟩:=zbw hpos
 rw[hz]at hM hfit ho
 rw[rwD,scS,z1h,<- scS,h1,hz,zhb ho (by rw[hM,List.length_append];rfl),hfit,h2,h4,h5]
def cS(E:Nat)(A:Bool):Nat->Bool × Nat
 | 0=>(A,0)
 | n+1=>(!(cS E A n).1&&decide (((cS E A n).2+1)%E=0),if(cS E A n).1 then(cS E A n).2 else(cS E A n).2+1)
theorem zha(E:Nat)(A:Bool)(p:Nat)(y:List Nat):(fgS E A p y).due=(cS E A y.length).1/\(fgS E A p y).out.length=(cS E A y.length).2:=by
 refine zz (P:=fun y=>(fgS E A p y).due=(cS E A y.length).1/\(fgS E A p y).out.length=(cS E A y.length).2) ⟨rfl,rfl⟩ (fun y b ih => ?_) y
 obtain⟨i1,i2⟩:=ih
 rw[z0y,List.length_append,List.length_singleton]
 unfold z0B
 simp only[cS]
 rw[i1]
 constructor
 ·rw[List.length_append,i2];rfl
 ·cases (cS E A y.length).1
  ·simp[i2]
  ·simp[i2]
theorem zbk(E:Nat)(A:Bool)(p:Nat)(x y:List Nat):∃Z,(fgS E A p (x++y)).out=(fgS E A p x).out++Z:=by
 refine zz (P:=fun y=>∃Z,(fgS E A p (x++y)).out=(fgS E A p x).out++Z) ⟨[],by simp⟩ (fun y b ih => ?_) y
 obtain⟨Z,hZ⟩:=ih
 rw[<- List.append_assoc,z0y]
 unfold z0B
 simp only
 split
 ·exact⟨Z,hZ⟩
 ·exact⟨Z++[b],by rw[hZ,List.append_assoc]⟩
theorem zhI{y:List Nat}{j:Nat}(h:22<=j)(hj:j<=y.length):∃W Z,(xo (y.take j))=W++Z/\W.length=20/\∃Z',xo y=W++Z':=by
 refine⟨xo (y.take 22),?_⟩
 have hl:(xo (y.take 22)).length=20:=by
  have:=(zha 8 false 1 (y.take 22)).2
  rw[List.length_take,Nat.min_eq_left (by omega)]at this
  rw[xo,this]
  decide
 obtain⟨Z,hZ⟩:=zbk 8 false 1 (y.take 22) ((y.take j).drop 22)
 obtain⟨Z',hZ'⟩:=zbk 8 false 1 (y.take 22) (y.drop 22)
 rw[List.take_append_drop]at hZ'
 have e:y.take 22++(y.take j).drop 22=y.take j:=by
  have:=List.take_append_drop 22 (y.take j)
  rwa[List.take_take,Nat.min_eq_left h]at this
 rw[e]at hZ
 exact⟨Z,hZ,hl,Z',hZ'⟩
theorem zdf{W Z:List Nat}(h:W.length=20):xlN (W++Z)=xlN W:=by
 rw[xlN,xlN,List.drop_append_of_le_length (by omega),List.take_append_of_le_length (by rw[List.length_drop];omega)]
theorem zhl{y:List Nat}{j:Nat}(h:22<=j)(hj:j<=y.length):xlN (xo (y.take j))=xlN (xo y):=by
 obtain⟨W,Z,h1,h2,Z',h3⟩:=zhI h hj
 rw[h1,h3,zdf h2,zdf h2]
theorem zbh{kn:Bool}{i:Nat}:(∀j,j < 16->zy kn ((zk i).take j) = .on)/\zy kn ((zk i).take 16)=(if kn=true then .on else .alien)/\zy kn (zk i) = .xl:=by
 have e2:zk i=([0]++zc i 11)++[0,0,1,1,0]:=by simp[zk]
 have g0:zl (zk i) 0=0:=by rw[zk];rfl
 have g12:zl (zk i) 12=0:=by rw[e2,z0E 0 (by simp[zb])];rfl
 have g13:zl (zk i) 13=0:=by rw[e2,z0E 1 (by simp[zb])];rfl
 have g14:zl (zk i) 14=1:=by rw[e2,z0E 2 (by simp[zb])];rfl
 have g15:zl (zk i) 15=1:=by rw[e2,z0E 3 (by simp[zb])];rfl
 have g16:zl (zk i) 16=0:=by rw[e2,z0E 4 (by simp[zb])];rfl
 obtain⟨j1,j2⟩:=zdv (kn:=kn) g0 g12 g13 g14 g15 g16
 refine⟨fun j hj => ?_,?_,?_⟩
 ·rw[z1d (by rw[zU];omega)];exact z6R g0 g12 g13 g14 hj
 ·rw[z1d (by rw[zU];omega)];exact j1
 ·rw[zy,zU];exact j2
theorem zii(i:Nat):scS true (zi (zk i)) = .xs (zi (zk i)) []:=by
 obtain⟨j1,j2,j3⟩:=zbh (kn:=true) (i:=i)
 rw[z5t (z0g i) (fun j h1 h2=>by
  rw[zU]at h2
  rcases Nat.lt_or_ge j 16 with h | h
  ·exact j1 j h
  ·obtain rfl:j=16:=by omega
   rw[j2,if_pos rfl]) (by intro e;have:=zU i;rw[e]at this;simp at this),j3]
 rfl
theorem zgD{y:List Nat}{n j:Nat}(hn:xlN (xo y)=n)(hj:j<=y.length)(hm:j < szF 8 false (109+8*n)):z1x (y.take j)=false:=by
 unfold z1x
 rw[List.length_take,Nat.min_eq_left hj]
 by_cases h:22<=j
 ·rw[zhl h hj,hn,decide_eq_false (show ¬j=_ by omega),Bool.and_false]
 ·rw[decide_eq_false h,Bool.false_and]
theorem zga {i d v A:Nat} {S:Bool} {l:List Nat} (h1:1<=l.length) (h2:l.length<=2048) (hd:d < 256) (hv:v < 256) (hA:A < 4294967296) (hi:i < 2048) (hb:∀x∈l,x < 256) :
    xlN (z0z i d v A S l)=l.length/\xlF (zk i) (z0z i d v A S l)=⟨3,(i:Int),false,false,false,false,S,(d:Int),(v:Int),(A:Int)⟩/\xlD (z0z i d v A S l)=l /\
     ((z0z i d v A S l).drop 20).take 4=z1l i/\z1J 4 (zk i++(z0z i d v A S l).take 37)=true/\z1J 5 (z0z i d v A S l)=true:=by
 have hs4:(z1L 4 (zk i++z6A i d l.length S)).length=13:=by rw[z1z];decide
 obtain⟨S4,hS4⟩:∃S4,z1L 4 (zk i++z6A i d l.length S)=S4:=⟨_,rfl⟩
 obtain⟨S5,hS5⟩:∃S5,z1L 5 (z33 i d v A S l)=S5:=⟨_,rfl⟩
 have hT:(z1l i).length=4:=z02 _
 have e0:z0z i d v A S l=z33 i d v A S l++S5:=by rw[z0z,hS5]
 have e1:z0z i d v A S l=z6A i d l.length S++(S4++(zc v 8++(zc A 32++(ze l++S5)))):=by rw[e0,z33,hS4];simp
 rw[hS4]at hs4
 have p1:z6A i d l.length S=zc d 8++([z0k S]++(zc (l.length - 1) 11++z1l i)):=rfl
 have a1:((z0z i d v A S l).drop 9).take 11=zc (l.length - 1) 11:=by
  rw[e1,p1,show zc d 8++([z0k S]++(zc (l.length - 1) 11++z1l i))++(S4++(zc v 8++(zc A 32++(ze l++S5))))=(zc d 8++[z0k S])++(zc (l.length - 1) 11++(z1l i++(S4++(zc v 8++(zc A 32++(ze l++S5)))))) by simp]
  exact z2s (by simp[zb]) (zb _ _)
 have a2:(z0z i d v A S l).take 8=zc d 8:=by
  rw[e1,p1,List.append_assoc]
  exact List.take_left' (zb _ _)
 have a3:zl (z0z i d v A S l) 8=z0k S:=by
  rw[e1,p1,List.append_assoc,z0E 0 (by rw[zb])]
  rfl
 have a4:((z0z i d v A S l).drop 37).take 8=zc v 8:=by
  rw[e1,<- List.append_assoc]
  exact z2s (by rw[List.length_append,z2b,hs4]) (zb _ _)
 have a5:((z0z i d v A S l).drop 45).take 32=zc A 32:=by
  rw[e1,<- List.append_assoc,<- List.append_assoc]
  exact z2s (by rw[List.length_append,List.length_append,z2b,hs4,zb]) (zb _ _)
 have a6:((z0z i d v A S l).drop 77).take (8*l.length)=ze l:=by
  rw[e1,<- List.append_assoc,<- List.append_assoc,<- List.append_assoc]
  exact z2s (by rw[List.length_append,List.length_append,List.length_append,z2b,hs4,zb,zb]) (zM l)
 have a7:((z0z i d v A S l).drop 20).take 4=z1l i:=by
  rw[e1,p1,show zc d 8++([z0k S]++(zc (l.length - 1) 11++z1l i))++(S4++(zc v 8++(zc A 32++(ze l++S5))))=(zc d 8++[z0k S]++zc (l.length - 1) 11)++(z1l i++(S4++(zc v 8++(zc A 32++(ze l++S5))))) by simp]
  exact z2s (by simp[zb]) hT
 have a8:(z0z i d v A S l).take 37=z6A i d l.length S++S4:=by
  rw[e1,<- List.append_assoc]
  exact List.take_left' (by rw[List.length_append,z2b,hs4])
 have hN:xlN (z0z i d v A S l)=l.length:=by rw[xlN,a1,z0p _ _ (by omega)];omega
 refine⟨hN,?_,?_,a7,?_,?_⟩
 ·have b1:((zk i).drop 1).take 11=zc i 11:=by rw[zk];exact z2s rfl (zb _ _)
  rw[xlF,a2,a3,a4,a5,b1,z3d,z0p _ _ (by omega),z0p _ _ (by omega),z0p _ _ (by omega),z0p _ _ (by omega)]
 ·rw[xlD,hN,a6];exact z37 l hb
 ·rw[a8,<- List.append_assoc,<- hS4]
  refine z4d (by decide) (fun x hx => ?_) (by rw[List.length_append,zU,z2b];omega)
  rcases List.mem_append.1 hx with hx | hx
  ·exact z0g i x hx
  ·exact z67 _ _ _ _ x hx
 ·rw[z0z]
  exact z4d (by decide) (z4L _ _ _ _ _ _) (by rw[z4V];omega)
theorem zhF{f:Hd}{l:List Nat}(h:okX f l=true)(hW:WdX f)(hb:∀x∈l,x < 256):scS true (rwX f l) = .tail true f l []:=by
 obtain⟨i,d,v,A,S,ef,h1,h2,hi,hd,hv,hA,eb,_,et⟩:=z4e h hW
 obtain⟨x1,x2,x3,x4,x5,x6⟩:=zga (S:=S) h1 h2 hd hv hA hi hb
 have hbit:=z6W i d v A S l
 have hlen:=z77 i d v A S l
 obtain⟨o1,o2,o3,o4⟩:=zfm (E:=8) (A:=false) (p:=1) (by omega) hbit
 have hm:(zv 8 false 1 (z0z i d v A S l)).length=szF 8 false (109+8*l.length):=by rw[z1I,hlen]
 have hge:=zbn 8 false (109+8*l.length)
 have ho:xo (zv 8 false 1 (z0z i d v A S l))=z0z i d v A S l:=o1
 have hend:z1x (zv 8 false 1 (z0z i d v A S l))=true:=by
  unfold z1x
  rw[ho,x1,hm,decide_eq_true (show 22<=_ by omega),decide_eq_true rfl]
  rfl
 have hnot:∀j,j < (zv 8 false 1 (z0z i d v A S l)).length->z1x ((zv 8 false 1 (z0z i d v A S l)).take j)=false:=fun j hj =>
  zgD (n:=l.length) (by rw[ho,x1]) (by omega) (by omega)
 have hfit:z4S (zi (zk i)) (zv 8 false 1 (z0z i d v A S l))=true:=by
  rw[z4S,ho,(z1k (z0g i)).1,x4,x5,x6,z1l,zU,decide_eq_true rfl]
  rfl
 have ht:=(z1k (z0g i)).1
 rw[rwX,eb,et]
 obtain⟨z,b,hz⟩:=zbw (y:=zv 8 false 1 (z0z i d v A S l)) (by omega)
 rw[hz]at o3 hend hnot hfit ho
 rw[scS,z1h,z1h,z1h,<- scS,zii,zdK,hz,zh2 o3 (fun j hj=>by
  have:=hnot j (by rw[List.length_append];simp;omega)
  rwa[List.take_append_of_le_length hj]at this) hend,zg7,hfit,ho,ht,x2,x3,<- ef]
def zf:Sta:=⟨0,0,noF,[]⟩
def zgq:Sta:=⟨1,0,noF,[]⟩
def zhd(f:Hd)(l:List Nat):Sta:=⟨2,0,f,l⟩
def z3S:Sta:=⟨4,0,noF,[]⟩
def rkS:Ph->Nat
 | .dyn _=>0
 | .fx _ _=>1
 | .xs _ _=>1
 | .xd _ _=>2
 | .xe _ _ _=>3
 | .tail _ _ _ t=>4+min t.length 9
 | .fin _=>1000
theorem zgk(kn:Bool)(p:Ph)(b:Nat):rkS p<=rkS (z07 kn p b):=by
 cases p with
 | dyn x=>exact Nat.zero_le _
 | fx h y =>
   show 1<=_
   simp only[z07]
   (repeat' split)<;>simp[rkS]
 | xs h y =>
   show 1<=_
   simp only[z07]
   (repeat' split)<;>simp[rkS]
 | xd h y =>
   show 2<=_
   simp only[z07]
   (repeat' split)<;>simp[rkS]
 | xe h y z =>
   show 3<=_
   simp only[z07]
   (repeat' split)<;>simp[rkS]
 | tail ok f l t =>
   show 4+min t.length 9<=_
   simp only[z07]
   (repeat' split)<;>simp only[rkS,List.length_append,List.length_singleton]<;>omega
 | fin s=>exact Nat.le_refl _
theorem zi8(kn:Bool)(p:Ph)(x:List Nat):rkS p<=rkS (goS kn p x):=by
 refine zz (P:=fun x=>rkS p<=rkS (goS kn p x)) (Nat.le_refl _) (fun x b ih => ?_) x
 rw[z0j]
 exact Nat.le_trans ih (zgk _ _ _)
theorem zfU{p:Ph}(h:rkS p<=4):zT p=zf:=by
 cases p with
 | tail ok f l t =>
   have h0:t.length=0:=by
    have:4+min t.length 9<=4:=h
    omega
   show(if t.length=1/\ok=true then _ else _)=_
   rw[if_neg (by omega)]
   rfl
 | fin s=>exact absurd h (by simp[rkS])
 | _=>rfl
theorem z9C(kn:Bool)(x:List Nat)(j:Nat):scS kn x=goS kn (scS kn (x.take j)) (x.drop j):=by
 conv=>lhs;rw[<- List.take_append_drop j x]
 exact z1h _ _ _ _
theorem zg1{kn:Bool}{x:List Nat}(h:rkS (scS kn x)<=4)(j:Nat):zT (scS kn (x.take j))=zf:=by
 refine zfU (Nat.le_trans ?_ h)
 rw[z9C kn x j]
 exact zi8 _ _ _
theorem zfB {kn:Bool} {raw:List Nat} {f:Hd} {l:List Nat} {a:Nat} (h:scS kn raw = .tail true f l []) (ha:a<=1) :
    (∀n,n<=raw.length->zT (scS kn ((raw++([1,a]++ones 8)).take n))=zf)/\zT (scS kn ((raw++([1,a]++ones 8)).take (raw.length+1)))=zgq /\
     (∀j,2<=j->j<=8->zT (scS kn ((raw++([1,a]++ones 8)).take (raw.length+j)))=zf)/\scS kn ((raw++([1,a]++ones 8)).take (raw.length+9)) = .fin (zhd f l):=by
 have key:∀j,scS kn ((raw++([1,a]++ones 8)).take (raw.length+j))=goS kn (.tail true f l []) (([1,a]++ones 8).take j):=fun j=>by
  rw[List.take_length_add_append,scS,z1h,<- scS,h]
 obtain⟨t1,t2,t3⟩:=zfT kn f l a ha
 refine⟨fun n hn => ?_,?_,fun j h1 h2 => ?_,?_⟩
 ·rw[List.take_append_of_le_length hn]
  exact zg1 (by rw[h];exact Nat.le_refl _) n
 ·rw[key,show([1,a]++ones 8).take 1=[1]from rfl,t1]
  rfl
 ·rw[key,t2 j h1 h2]
  show(if(List.take j _).length=1/\_ then _ else _)=_
  rw[List.length_take,if_neg (by simp[ones];omega)]
  rfl
 ·rw[key,t3]
  rfl
theorem z62(l:List Nat):zy true l ≠ .alien/\(zy false l=zy true l\/zy false l = .alien):=by
 unfold zy
 generalize l.length=n
 generalize zl l=g
 constructor
 ·unfold zt z1K
  (repeat' split)<;>first
   | (intro h;cases h;done)
   | (rename_i hh;exact absurd hh.2 (by simp))
 ·by_cases h16:n=16
  ·subst h16
   have e:∀kn,zt kn 16 g=if g 13=1 then .on else if g 14=0 then .on else if g 15=1/\kn=false then .alien else .on:=fun kn=>by
    unfold zt
    rw[if_neg (show ¬16=1 by omega),if_neg (show ¬16 < 14 by omega),if_neg (show ¬16=14 by omega),if_neg (show ¬16=15 by omega),if_pos (show 16 < 34 by omega),if_pos (show 16 < 19 by omega),if_pos (show 16=16 from rfl)]
   rw[e,e]
   by_cases h13:g 13=1
   ·rw[if_pos h13,if_pos h13];exact .inl rfl
   rw[if_neg h13,if_neg h13]
   by_cases h14:g 14=0
   ·rw[if_pos h14,if_pos h14];exact .inl rfl
   rw[if_neg h14,if_neg h14]
   by_cases h15:g 15=1
   ·rw[if_pos ⟨h15,rfl⟩];exact .inr rfl
   ·rw[if_neg (fun h=>h15 h.1),if_neg (fun h=>h15 h.1)];exact .inl rfl
  ·refine .inl ?_
   unfold zt
   rw[if_neg h16,if_neg h16]
theorem zed(x:List Nat):zT (scS true x)≠z3S/\(zT (scS true x)).k≠4/\(scS false x=scS true x\/scS false x = .fin z3S):=by
 have key:(∀s,scS true x = .fin s->s.k≠4)/\(scS false x=scS true x\/scS false x = .fin z3S):=by
  refine zz (P:=fun x=>(∀s,scS true x = .fin s->s.k≠4)/\(scS false x=scS true x\/scS false x = .fin z3S)) ⟨fun s h=>(by cases h),.inl rfl⟩ (fun x b ih => ?_) x
  obtain⟨i1,i2⟩:=ih
  rw[scS,scS,z0j,z0j,<- scS,<- scS]
  constructor
  ·intro s hs
   generalize scS true x=p at *
   cases p with
   | dyn y =>
     have hj:=(z62 (zo y++[b])).1
     simp only[z07]at hs
     split at hs
     ·split at hs
      ·cases hs;simp[z1j]
      ·cases hs
     ·cases hq:zy true (zo y++[b])<;>rw[hq]at hs hj<;>simp only[z2F]at hs
      ·cases hs
      ·cases hs;simp[z1j]
      ·exact absurd rfl hj
      ·cases hs
      ·cases hs
      ·cases hs
   | fx h y=>simp only[z07]at hs;(repeat' split at hs)<;>cases hs<;>simp[z1j]
   | xs h y=>simp only[z07]at hs;(repeat' split at hs)<;>cases hs<;>simp[z1j]
   | xd h y=>simp only[z07]at hs;(repeat' split at hs)<;>cases hs<;>simp[z1j]
   | xe h y z=>simp only[z07]at hs;(repeat' split at hs)<;>cases hs<;>simp[z1j]
   | tail ok f l t=>simp only[z07]at hs;(repeat' split at hs)<;>cases hs<;>simp[z1j]
   | fin s'=>exact i1 s hs
  ·rcases i2 with i2 | i2
   ·rw[i2]
    generalize scS true x=p at *
    cases p with
    | dyn y =>
      simp only[z07]
      split
      ·exact .inl rfl
      ·rcases(z62 (zo y++[b])).2 with h | h
       ·exact .inl (by rw[h])
       ·exact .inr (by rw[h];rfl)
    | _=>exact .inl rfl
   ·exact .inr (by rw[i2];rfl)
 have h4:(zT (scS true x)).k≠4:=by
  have k1:=key.1
  generalize scS true x=p at *
  cases p with
  | tail ok f l t =>
    show(if t.length=1/\ok=true then(_:Sta)else _).k≠4
    split<;>simp
  | fin s=>exact k1 s rfl
  | _=>simp[zT]
 exact⟨fun h=>h4 (by rw[h];rfl),h4,key.2⟩
theorem zc7(l:List Nat)(b:Nat):zm (zi (l++[b]))=b:=by
 rw[z0c]
 unfold zW
 split
 ·rw[show zi l++[1 - zm (zi l),b]=(zi l++[1 - zm (zi l)])++[b] by simp,z0J]
 ·rw[z0J]
theorem zcB{l:List Nat}{b c:Nat}(hb:∀x∈l++[b],x<=1)(h:c≠b):(zq (zi (l++[b]++[c]))).2<=2:=by
 rw[z0c]
 unfold zW
 have hl:=zc7 l b
 split
 ·have h1:=(z26 (z0Z (z0h hb))).2
  rw[show zi (l++[b])++[1 - zm (zi (l++[b])),c]=(zi (l++[b])++[1 - zm (zi (l++[b]))])++[c] by simp]
  have h2:=(z16 (zi (l++[b])++[1 - zm (zi (l++[b]))]) c).1
  omega
 ·rw[z25 (by rw[hl];exact h)]
  omega
theorem zcF(i:Nat):zi ((zk i).take 16)=zi ((zk i).take 15)++[1]/\zi (zk i)=zi ((zk i).take 16)++[0]:=by
 have e:zk i=([0]++zc i 11++[0])++[0]++[1]++[1]++[0]:=by simp[zk]
 have hl:([0]++zc i 11++[0]).length=13:=by simp[zb]
 have e15:(zk i).take 15=([0]++zc i 11++[0])++[0]++[1]:=by
  rw[e,show([0]++zc i 11++[0])++[0]++[1]++[1]++[0]=(([0]++zc i 11++[0])++[0]++[1])++[1,0] by simp]
  exact List.take_left' (by rw[List.length_append,List.length_append,hl];rfl)
 have e16:(zk i).take 16=([0]++zc i 11++[0])++[0]++[1]++[1]:=by
  rw[e]
  exact List.take_left' (by rw[List.length_append,List.length_append,List.length_append,hl];rfl)
 have hb:=z0g i
 have hb14:∀x∈([0]++zc i 11++[0])++[0],x<=1:=fun x hx=>hb x (by rw[e];exact List.mem_append_left _ (List.mem_append_left _ (List.mem_append_left _ hx)))
 have r1:=zcB (c:=1) hb14 (by omega)
 rw[<- e15]at r1
 have f1:zi ((zk i).take 16)=zi ((zk i).take 15)++[1]:=by
  rw[e16,<- e15,z0c]
  unfold zW
  rw[if_neg (by unfold full;simp;omega)]
 refine⟨f1,?_⟩
 have r2:=(z16 (zi ((zk i).take 15)) 1).1
 rw[<- f1]at r2
 conv=>lhs;rw[e,<- e16,z0c]
 unfold zW
 rw[if_neg (by unfold full;simp;omega)]
theorem zeu(i:Nat)(y:List Nat):scS false (zi (zk i)++y) = .fin z3S/\scS false (zi (zk i)) = .fin z3S/\zT (scS false ((zi (zk i)).take ((zi (zk i)).length - 2)))=zf:=by
 obtain⟨e1,e2⟩:=zcF i
 obtain⟨j1,j2,j3⟩:=zbh (kn:=false) (i:=i)
 have hl:=zU i
 have hb:∀n,∀x∈(zk i).take n,x<=1:=fun n x hx=>z0g i x (List.mem_of_mem_take hx)
 have l16:((zk i).take 16).length=16:=by rw[List.length_take];omega
 have l15:((zk i).take 15).length=15:=by rw[List.length_take];omega
 have h16:scS false (zi ((zk i).take 16)) = .fin z3S:=by
  rw[z5t (hb 16) (fun j h1 h2=>by rw[List.take_take,Nat.min_eq_left (by omega)];exact j1 j (by omega)) (by intro e;rw[e]at l16;simp at l16),j2]
  rfl
 have h15:scS false (zi ((zk i).take 15)) = .dyn (zi ((zk i).take 15)):=by
  rw[z5t (hb 15) (fun j h1 h2=>by rw[List.take_take,Nat.min_eq_left (by omega)];exact j1 j (by omega)) (by intro e;rw[e]at l15;simp at l15),j1 15 (by omega)]
  rfl
 have hw:scS false (zi (zk i)) = .fin z3S:=by
  rw[e2,scS,z0j,<- scS,h16]
  rfl
 refine⟨by rw[scS,z1h,<- scS,hw];exact zd3 _ _ _,hw,?_⟩
 have e3:(zi ((zk i).take 15)).length+([1]++[0]:List Nat).length - 2=(zi ((zk i).take 15)).length:=by simp
 rw[e2,e1,List.append_assoc,List.length_append,e3,List.take_left,h15]
 rfl
end Go.Proofs.YtkjjfnmeogpdbaaGreatDoor
