/- What a row of raw bits is (layer 9), as an automaton on lists, and more. Conditions: as each says. -/
import Derived.Test.YtplbmlpdefpplaaGreatDoorXlM
import Derived.Test.YtplbmlpdefpplaaGreatDoorFdP
namespace Go.Proofs.YtplbmlpdefpplaaGreatDoor
set_option linter.unusedVariables false
set_option linter.unusedSimpArgs false
open Go.RowKit
variable {kn:Bool} {A B C h raw x y:List Nat} {b c i j n:Nat} {g:Nat->Nat}
def noF:Hd:=⟨0,0,false,false,false,false,false,0,0,0⟩
structure Sta where
 k:Nat
 e:Nat
 f:Hd
 l:List Nat
def z1j(e:Nat):Sta:=⟨3,e,noF,[]⟩
inductive Ph where
 | dyn (x:List Nat)
 | fx (h y:List Nat)
 | xs (h y:List Nat)
 | xd (h y:List Nat)
 | xe (h y z:List Nat)
 | tail (ok:Bool) (f:Hd) (l t:List Nat)
 | fin (s:Sta)
inductive Jd where
 | on
 | bad
 | alien
 | cl
 | fd
 | xl
def z1x(g:Nat->Nat)(k:Nat):Nat:=8*g k+4*g (k+1)+2*g (k+2)+g (k+3)
def z1N(n at_ r code:Nat):Jd:=if n=at_/\(8 < code\/(r=1/\0 < code))then .bad else if n=at_+8*code+15 then .cl else .on
def zu(kn:Bool)(n:Nat)(g:Nat->Nat):Jd :=
 if n=1 then(if g 0=1 then .bad else .on)
 else if n < 14 then .on
 else if n=14 then(if g 13=1/\g 12=0 then .bad else .on)
 else if g 13=1 then
  (if n < 34 then .on else if n=34 then(if g 33=1 then .bad else .on)else if n=35 then(if g 34=1 then .bad else .on)else if n < 39 then .on else z1N n 39 (g 32) (z1x g 35))
 else if n=15 then(if g 14=1/\g 12=1 then .bad else .on)
 else if g 14=0 then(if n < 19 then .on else z1N n 19 (g 12) (z1x g 15))
 else if n=16 then(if g 15=1/\kn=false then .alien else .on)
 else if g 15=0 then(if n < 22 then .on else if n=22+8*atF 2 (z1x g 18)then .fd else .on)
 else if g 16=1 then .bad else .xl
def zk(l:List Nat)(i:Nat):Nat:=l.getD i 0
def zz(kn:Bool)(l:List Nat):Jd:=zu kn l.length (zk l)
theorem z8s{g':Nat->Nat}(h:∀i,i < n->g i=g' i):zu kn n g=zu kn n g':=by
 by_cases h1:n=1
 ·subst h1;simp[zu,h 0 (by omega)]
 by_cases h14:n < 14
 ·simp[zu,h1,h14]
 by_cases h14':n=14
 ·subst h14';simp[zu,h 12 (by omega),h 13 (by omega)]
 have e12:=h 12 (by omega)
 have e13:=h 13 (by omega)
 have e14:=h 14 (by omega)
 unfold zu
 rw[if_neg h1,if_neg h1,if_neg h14,if_neg h14,if_neg h14',if_neg h14',e12,e13,e14]
 by_cases hx:g' 13=1
 ·rw[if_pos hx,if_pos hx]
  by_cases h34:n < 34
  ·rw[if_pos h34,if_pos h34]
  rw[if_neg h34,if_neg h34]
  by_cases h34':n=34
  ·rw[if_pos h34',if_pos h34',h 33 (by omega)]
  rw[if_neg h34',if_neg h34']
  by_cases h35:n=35
  ·rw[if_pos h35,if_pos h35,h 34 (by omega)]
  rw[if_neg h35,if_neg h35]
  by_cases h39:n < 39
  ·rw[if_pos h39,if_pos h39]
  rw[if_neg h39,if_neg h39,z1x,z1x,h 32 (by omega),h 35 (by omega),h 36 (by omega),h 37 (by omega),h 38 (by omega)]
 ·rw[if_neg hx,if_neg hx]
  by_cases h15:n=15
  ·rw[if_pos h15,if_pos h15]
  rw[if_neg h15,if_neg h15]
  by_cases hc:g' 14=0
  ·rw[if_pos hc,if_pos hc]
   by_cases h19:n < 19
   ·rw[if_pos h19,if_pos h19]
   rw[if_neg h19,if_neg h19,z1x,z1x,h 15 (by omega),h 16 (by omega),h 17 (by omega),h 18 (by omega)]
  ·rw[if_neg hc,if_neg hc,h 15 (by omega)]
   by_cases h16:n=16
   ·rw[if_pos h16,if_pos h16]
   rw[if_neg h16,if_neg h16,h 16 (by omega)]
   by_cases hf:g' 15=0
   ·rw[if_pos hf,if_pos hf]
    by_cases h22:n < 22
    ·rw[if_pos h22,if_pos h22]
    rw[if_neg h22,if_neg h22,z1x,z1x,h 18 (by omega),h 19 (by omega),h 20 (by omega),h 21 (by omega)]
   ·rw[if_neg hf,if_neg hf]
theorem z1i{l:List Nat}(hj:j<=l.length):zz kn (l.take j)=zu kn j (zk l):=by
 rw[zz,List.length_take,Nat.min_eq_left hj]
 exact z8s (fun i hi=>by simp[zk,List.getD,List.getElem?_take,hi])
def zhu(l:List Nat):Nat:=if zk l 13=1 then 39 else 19
def clF(l:List Nat):Hd :=
 if zk l 13=1 then⟨1,((zF ((l.drop 1).take 11)*262144+zF ((l.drop 14).take 18):Nat):Int),true,zk l 32==1,false,false,false,0,0,0⟩
 else⟨1,(zF ((l.drop 1).take 11):Nat),false,zk l 12==1,false,false,false,0,0,0⟩
def clD(l:List Nat):List Nat:=z0p ((l.drop (zhu l)).take (8*z1x (zk l) (zhu l - 4)))
def fdN(l:List Nat):Nat:=atF 2 (z1x (zk l) 18)
def fdF(l:List Nat):Hd:=⟨2,(zF ((l.drop 1).take 11):Nat),false,false,zk l 16==1,zk l 17==1,false,0,0,0⟩
def fdD(l:List Nat):List Nat:=z0p (l.drop 22)
def fdM(h:List Nat):Nat:=if 16 < fdN (zo h)then 32 else 27
def fdO(h y:List Nat):List Nat:=(fgS 4 true (zl h) y).out
def z4v(h y:List Nat):Bool:=decide ((fdO h y).take 4=zw (h.length - (zo h).length))&&z1F (zx (fdN (zo h))) (h++fdO h y)
def xo(y:List Nat):List Nat:=(fgS 8 false 1 y).out
def xlN(o:List Nat):Nat:=zF ((o.drop 9).take 11)+1
def z1E(y:List Nat):Bool:=decide (22<=y.length)&&decide (y.length=szF 8 false (109+8*xlN (xo y)))
def z3D(h y:List Nat):Bool:=decide (((xo y).drop 20).take 4=zw (h.length - 17))&&(z1F 4 (zo h++(xo y).take 37)&&z1F 5 (xo y))
def xlF(hd o:List Nat):Hd:=⟨3,(zF ((hd.drop 1).take 11):Nat),false,false,false,false,zk o 8==1,(zF (o.take 8):Nat),(zF ((o.drop 37).take 8):Nat),(zF ((o.drop 45).take 32):Nat)⟩
def xlD(o:List Nat):List Nat:=z0p ((o.drop 77).take (8*xlN o))
def z2T(x l:List Nat):Jd->Ph
 | .on => .dyn x
 | .bad => .fin (z1j 5)
 | .alien => .fin ⟨4,0,noF,[]⟩
 | .cl => .tail (z1F 1 l) (clF l) (clD l) []
 | .fd => .fx x []
 | .xl => .xs x []
def z09(kn:Bool):Ph->Nat->Ph
 | .dyn x,b=>if full x then(if b=zl x then .fin (z1j 4)else .dyn (x++[b]))else z2T (x++[b]) (zo x++[b]) (zz kn (zo x++[b]))
 | .fx h y,b=>if(fgS 4 true (zl h) (y++[b])).ok then(if(y++[b]).length=fdM h then .tail (z4v h (y++[b])) (fdF (zo h)) (fdD (zo h)) []else .fx h (y++[b]))else .fin (z1j 4)
 | .xs h y,b=>if b=zy.getD y.length 0 then(if y.length=3 then .xd h []else .xs h (y++[b]))else .fin (z1j 5)
 | .xd h y,b=>if(fgS 8 false 1 (y++[b])).ok then(if z1E (y++[b])then .xe h (y++[b]) []else .xd h (y++[b]))else .fin (z1j 4)
 | .xe h y z,b=>if b=z0u.getD z.length 0 then(if z.length=3 then .tail (z3D h y) (xlF (zo h) (xo y)) (xlD (xo y)) []else .xe h y (z++[b]))else .fin (z1j 5)
 | .tail ok f l t,b=>if t.length=2/\ok=false then .fin (z1j 6)else if t.length≠1/\b=0 then .fin (z1j 5)else if t.length=8 then .fin ⟨2,0,f,l⟩else .tail ok f l (t++[b])
 | .fin s,_ => .fin s
def goS(kn:Bool)(p:Ph)(x:List Nat):Ph:=x.foldl (z09 kn) p
def scS(kn:Bool)(x:List Nat):Ph:=goS kn (.dyn []) x
def zW:Ph->Sta
 | .tail ok _ _ t=>if t.length=1/\ok=true then⟨1,0,noF,[]⟩ else⟨0,0,noF,[]⟩
 | .fin s=>s
 | _=>⟨0,0,noF,[]⟩
theorem z0h(kn:Bool)(p:Ph)(x:List Nat)(b:Nat):goS kn p (x++[b])=z09 kn (goS kn p x) b:=by simp[goS]
theorem z1m(kn:Bool)(p:Ph)(x y:List Nat):goS kn p (x++y)=goS kn (goS kn p x) y:=by simp[goS]
theorem zhM(kn:Bool)(p:Ph)(b:Nat)(x:List Nat):goS kn p (b::x)=goS kn (z09 kn p b) x:=rfl
theorem zd6(kn:Bool)(s:Sta)(x:List Nat):goS kn (.fin s) x = .fin s:=by
 induction x with
 | nil=>rfl
 | cons b x ih=>rw[zhM];exact ih
theorem z6t{l:List Nat}:(∀x∈l,x<=1)->(∀j,1<=j->j < l.length->zz kn (l.take j) = .on)->l≠[]->scS kn (zh l)=z2T (zh l) l (zz kn l):=by
 refine zB (P:=fun l=>(∀x∈l,x<=1)->(∀j,1<=j->j < l.length->zz kn (l.take j) = .on)->l≠[]->scS kn (zh l)=z2T (zh l) l (zz kn l)) (fun _ _ h=>absurd rfl h) (fun l b ih hb hj _ => ?_) l
 have hb':∀x∈l,x<=1:=fun x hx=>hb x (List.mem_append_left _ hx)
 have hd:scS kn (zh l) = .dyn (zh l):=by
  by_cases hl:l=[]
  ·subst hl;rfl
  ·have hp:0 < l.length:=List.length_pos_iff.2 hl
   have h1:=ih hb' (fun j h1 h2=>by
    have:=hj j h1 (by rw[List.length_append];omega)
    rwa[List.take_append_of_le_length (by omega)]at this) hl
   have h2:=hj l.length (by omega) (by rw[List.length_append];simp)
   rw[List.take_left]at h2
   rw[h1,h2]
   rfl
 have ht:=(z1w hb').1
 rw[z0d]
 unfold z00
 have hle:=z1a (z0j hb')
 cases hf:full (zh l) with
 | true =>
   simp only[if_true]
   obtain⟨ho,_⟩:=z2i hle
   have h1:scS kn (zh l++[1 - zl (zh l)]) = .dyn (zh l++[1 - zl (zh l)]):=by
    rw[scS,z0h,<- scS,hd]
    show(if full (zh l)then _ else _)=_
    rw[hf,if_pos rfl,if_neg (by omega)]
   rw[show zh l++[1 - zl (zh l),b]=(zh l++[1 - zl (zh l)])++[b] by simp,scS,z0h,<- scS,h1]
   show(if full (zh l++[1 - zl (zh l)])then _ else z2T _ (zo _++[b]) (zz kn (zo _++[b])))=_
   rw[ho,z0o,hf,if_pos rfl,ht]
   rfl
 | false =>
   simp only[Bool.false_eq_true,if_false]
   rw[scS,z0h,<- scS,hd]
   show(if full (zh l)then _ else z2T _ (zo _++[b]) (zz kn (zo _++[b])))=_
   rw[hf,ht]
   rfl
theorem zlW:(fgS 4 true (zl h) y).ok=true->y.length < fdM h->goS kn (.fx h []) y = .fx h y:=by
 refine zB (P:=fun y=>(fgS 4 true (zl h) y).ok=true->y.length < fdM h->goS kn (.fx h []) y = .fx h y) (fun _ _=>rfl) (fun y b ih h1 h2 => ?_) y
 rw[List.length_append,List.length_singleton]at h2
 rw[z0h,ih (z2s _ _ _ y [b] h1) (by omega)]
 show(if(fgS 4 true (zl h) (y++[b])).ok then _ else _)=_
 rw[h1,if_pos rfl,if_neg (by rw[List.length_append,List.length_singleton];omega)]
theorem zk3(h1:(fgS 4 true (zl h) (y++[b])).ok=true)(h2:y.length+1=fdM h):goS kn (.fx h []) (y++[b]) = .tail (z4v h (y++[b])) (fdF (zo h)) (fdD (zo h)) []:=by
 rw[z0h,zlW (z2s _ _ _ y [b] h1) (by omega)]
 show(if(fgS 4 true (zl h) (y++[b])).ok then _ else _)=_
 rw[h1,if_pos rfl,if_pos (by rw[List.length_append,List.length_singleton];omega)]
theorem zlK:(fgS 8 false 1 y).ok=true->(∀j,j<=y.length->z1E (y.take j)=false)->goS kn (.xd h []) y = .xd h y:=by
 refine zB (P:=fun y=>(fgS 8 false 1 y).ok=true->(∀j,j<=y.length->z1E (y.take j)=false)->goS kn (.xd h []) y = .xd h y) (fun _ _=>rfl) (fun y b ih h1 h2 => ?_) y
 rw[z0h,ih (z2s _ _ _ y [b] h1) (fun j hj=>by
  have:=h2 j (by rw[List.length_append];omega)
  rwa[List.take_append_of_le_length hj]at this)]
 have h3:=h2 (y++[b]).length (Nat.le_refl _)
 rw[List.take_length]at h3
 show(if(fgS 8 false 1 (y++[b])).ok then _ else _)=_
 rw[h1,if_pos rfl,h3]
 rfl
theorem zkk(h1:(fgS 8 false 1 (y++[b])).ok=true)(h2:∀j,j<=y.length->z1E (y.take j)=false)(h3:z1E (y++[b])=true):goS kn (.xd h []) (y++[b]) = .xe h (y++[b]) []:=by
 rw[z0h,zlK (z2s _ _ _ y [b] h1) h2]
 show(if(fgS 8 false 1 (y++[b])).ok then _ else _)=_
 rw[h1,if_pos rfl,h3]
 rfl
theorem zgH(kn:Bool)(h:List Nat):goS kn (.xs h []) zy = .xd h []:=rfl
theorem zj0(kn:Bool)(h y:List Nat):goS kn (.xe h y []) z0u = .tail (z3D h y) (xlF (zo h) (xo y)) (xlD (xo y)) []:=rfl
theorem zjf (kn:Bool) (f:Hd) (l:List Nat) (a:Nat) (ha:a<=1) :
    goS kn (.tail true f l []) [1] = .tail true f l [1]/\(∀j,2<=j->j<=8->goS kn (.tail true f l []) (([1,a]++ones 8).take j) = .tail true f l (([1,a]++ones 8).take j))/\goS kn (.tail true f l []) (([1,a]++ones 8).take 9) = .fin ⟨2,0,f,l⟩:=by
 refine⟨rfl,fun j h1 h2 => ?_,?_⟩
 ·rcases(by omega:a=0\/a=1)with rfl | rfl<;>rcases(by omega:j=2\/j=3\/j=4\/j=5\/j=6\/j=7\/j=8)with rfl | rfl | rfl | rfl | rfl | rfl | rfl<;>rfl
 ·rcases(by omega:a=0\/a=1)with rfl | rfl<;>rfl
theorem z0D(k:Nat)(h:i=A.length+k):zk (A++B) i=zk B k:=by rw[zk,List.getD,h,List.getElem?_append_right (by omega),Nat.add_sub_cancel_left];rfl
theorem zkd(n:Nat):zc n 4=[n / 8%2,n / 4%2,n / 2%2,n%2]:=by
 simp[zc,List.range_succ]
theorem z9Z{k:Nat}(hn:n < 16)(hk:A.length=k):z1x (zk (A++(zc n 4++C))) k=n:=by
 subst hk
 rw[z1x,z0D (i:=A.length) 0 (by omega),z0D 1 rfl,z0D 2 rfl,z0D 3 rfl,zkd]
 simp[zk]
 omega
theorem z2B{k:Nat}(hk:A.length=k)(hn:B.length=n):((A++(B++C)).drop k).take n=B:=by
 rw[List.drop_left' hk,List.take_left' hn]
theorem z52{k:Int}{l:List Nat}(hz:szK k≠0)(hb:∀x∈l,x<=1)(hl:l.length<=60000):z1F k (l++z1R k l)=true:=by
 have hc:=z0g hb (by omega)
 have:=(zgB k l (z2W hz hc) hl).1
 rwa[(z2Y hz hc).1]at this
theorem zf6 (h0:g 0=0) (h12:g 12=1) (h13:g 13=1) (h33:g 33=0) (h34:g 34=0) (hc:z1x g 35=c) (h8:c<=8) (hr:g 32=1->c=0) :
    (∀j,j < 39+8*c+15->zu kn j g = .on)/\zu kn (39+8*c+15) g = .cl:=by
 have key:∀j,15<=j->zu kn j g=if j=39+8*c+15 then .cl else .on:=by
  intro j hj
  unfold zu
  rw[if_neg (by omega),if_neg (by omega),if_neg (by omega),if_pos h13]
  by_cases h1:j < 34
  ·rw[if_pos h1,if_neg (by omega)]
  rw[if_neg h1]
  by_cases h2:j=34
  ·rw[if_pos h2,if_neg (by omega),if_neg (by omega)]
  rw[if_neg h2]
  by_cases h3:j=35
  ·rw[if_pos h3,if_neg (by omega),if_neg (by omega)]
  rw[if_neg h3]
  by_cases h4:j < 39
  ·rw[if_pos h4,if_neg (by omega)]
  rw[if_neg h4,hc,z1N,if_neg (by rintro⟨_,h | ⟨h,h'⟩⟩;omega;have:=hr h;omega)]
 refine⟨fun j hj => ?_,by rw[key _ (by omega),if_pos rfl]⟩
 rcases Nat.lt_or_ge j 15 with h | h
 ·unfold zu
  by_cases h1:j=1
  ·rw[if_pos h1,if_neg (by omega)]
  rw[if_neg h1]
  by_cases h2:j < 14
  ·rw[if_pos h2]
  rw[if_neg h2,if_pos (by omega),if_neg (by omega)]
 ·rw[key j h,if_neg (by omega)]
theorem zfg (h0:g 0=0) (h13:g 13=0) (h14:g 14=0) (hc:z1x g 15=c) (h8:c<=8) (hr:g 12=1->c=0) :
    (∀j,j < 19+8*c+15->zu kn j g = .on)/\zu kn (19+8*c+15) g = .cl:=by
 have key:∀j,16<=j->zu kn j g=if j=19+8*c+15 then .cl else .on:=by
  intro j hj
  unfold zu
  rw[if_neg (by omega),if_neg (by omega),if_neg (by omega),if_neg (by omega),if_neg (by omega),if_pos h14]
  by_cases h1:j < 19
  ·rw[if_pos h1,if_neg (by omega)]
  rw[if_neg h1,hc,z1N,if_neg (by rintro⟨_,h | ⟨h,h'⟩⟩;omega;have:=hr h;omega)]
 refine⟨fun j hj => ?_,by rw[key _ (by omega),if_pos rfl]⟩
 rcases Nat.lt_or_ge j 16 with h | h
 ·unfold zu
  by_cases h1:j=1
  ·rw[if_pos h1,if_neg (by omega)]
  rw[if_neg h1]
  by_cases h2:j < 14
  ·rw[if_pos h2]
  rw[if_neg h2]
  by_cases h3:j=14
  ·rw[if_pos h3,if_neg (by omega)]
  rw[if_neg h3,if_neg (by omega),if_pos (by omega),if_neg (by omega)]
 ·rw[key j h,if_neg (by omega)]
theorem z8o(h0:g 0=0)(h12:g 12=0)(h13:g 13=0)(h14:g 14=1)(hj:j < 16):zu kn j g = .on:=by
 unfold zu
 by_cases h1:j=1
 ·rw[if_pos h1,if_neg (by omega)]
 rw[if_neg h1]
 by_cases h2:j < 14
 ·rw[if_pos h2]
 rw[if_neg h2]
 by_cases h3:j=14
 ·rw[if_pos h3,if_neg (by omega)]
 rw[if_neg h3,if_neg (by omega),if_pos (by omega),if_neg (by omega)]
theorem zht (h0:g 0=0) (h12:g 12=0) (h13:g 13=0) (h14:g 14=1) (h15:g 15=0) (hc:atF 2 (z1x g 18)=n) :
    (∀j,j < 22+8*n->zu kn j g = .on)/\zu kn (22+8*n) g = .fd:=by
 have key:∀j,16<=j->zu kn j g=if j=22+8*n then .fd else .on:=by
  intro j hj
  unfold zu
  rw[if_neg (by omega),if_neg (by omega),if_neg (by omega),if_neg (by omega),if_neg (by omega),if_neg (by omega)]
  by_cases h1:j=16
  ·rw[if_pos h1,if_neg (by omega),if_neg (by omega)]
  rw[if_neg h1,if_pos h15]
  by_cases h2:j < 22
  ·rw[if_pos h2,if_neg (by omega)]
  rw[if_neg h2,hc]
 refine⟨fun j hj => ?_,by rw[key _ (by omega),if_pos rfl]⟩
 rcases Nat.lt_or_ge j 16 with h | h
 ·exact z8o h0 h12 h13 h14 h
 ·rw[key j h,if_neg (by omega)]
theorem zgz (h0:g 0=0) (h12:g 12=0) (h13:g 13=0) (h14:g 14=1) (h15:g 15=1) (h16:g 16=0) :
    zu kn 16 g=(if kn=true then .on else .alien)/\zu kn 17 g = .xl:=by
 constructor
 ·unfold zu
  rw[if_neg (by omega),if_neg (by omega),if_neg (by omega),if_neg (by omega),if_neg (by omega),if_neg (by omega),if_pos rfl]
  cases kn
  ·rw[if_pos ⟨h15,rfl⟩,if_neg (by simp)]
  ·rw[if_neg (by simp),if_pos rfl]
 ·unfold zu
  rw[if_neg (by omega),if_neg (by omega),if_neg (by omega),if_neg (by omega),if_neg (by omega),if_neg (by omega),if_neg (by omega),if_neg (by omega),if_neg (by omega)]
theorem z3E(R:Bool):(zP R==1)=R:=by cases R<;>rfl
theorem zax{f:Hd}{l:List Nat}:okC f l=true->∀x∈zT f l,x<=1:=by
 intro h
 rw[zT,if_pos h]
 exact z98 _ _ _ _
theorem zkF{f:Hd}{l:List Nat}(h:okC f l=true)(hI:0<=f.I)(hb:∀x∈l,x < 256):scS kn (zh (zT f l)) = .tail true f l []:=by
 have hbit:=zax h
 obtain⟨i,ef,et,h8,hR,hX,hi⟩:=z1u h hI
 rw[zT,if_pos h,et]at hbit ⊢
 have hlen:=z8n f.X f.R i l
 have hfit:z1F 1 (zS f.X f.R i l)=true:=z52 (by decide) (z53 _ _ _ _) (by rw[z3d];split<;>omega)
 have hpk:z0p (ze l)=l:=z3y l hb
 cases hx:f.X with
 | true =>
   rw[hx]at ef hbit hlen hfit
   rw[if_pos rfl]at hlen
   have e1:zS true f.R i l=[0]++(zc (i / 262144) 11++([1,1]++(zc (i%262144) 18++[zP f.R,0,0]++(zc l.length 4++ze l)++z1R 1 (z1q true f.R i l)))):=by simp[zS,z1q,zJ]
   have e2:zS true f.R i l=([0]++zc (i / 262144) 11++[1,1])++(zc (i%262144) 18++([zP f.R,0,0]++(zc l.length 4++ze l)++z1R 1 (z1q true f.R i l))):=by simp[zS,z1q,zJ]
   have e3:zS true f.R i l=([0]++zc (i / 262144) 11++[1,1]++zc (i%262144) 18)++([zP f.R,0,0]++((zc l.length 4++ze l)++z1R 1 (z1q true f.R i l))):=by simp[zS,z1q,zJ]
   have e4:zS true f.R i l=([0]++zc (i / 262144) 11++[1,1]++zc (i%262144) 18++[zP f.R,0,0])++(zc l.length 4++(ze l++z1R 1 (z1q true f.R i l))):=by simp[zS,z1q,zJ]
   have e5:zS true f.R i l=([0]++zc (i / 262144) 11++[1,1]++zc (i%262144) 18++[zP f.R,0,0]++zc l.length 4)++(ze l++z1R 1 (z1q true f.R i l)):=by simp[zS,z1q,zJ]
   have e6:zS true f.R i l=([0]++zc (i / 262144) 11)++([1,1]++(zc (i%262144) 18++([zP f.R,0,0]++(zc l.length 4++ze l)++z1R 1 (z1q true f.R i l)))):=by simp[zS,z1q,zJ]
   have g0:zk (zS true f.R i l) 0=0:=by rw[e1];rfl
   have g12:zk (zS true f.R i l) 12=1:=by rw[e6,z0D 0 (by simp[zb])];rfl
   have g13:zk (zS true f.R i l) 13=1:=by rw[e6,z0D 1 (by simp[zb])];rfl
   have g32:zk (zS true f.R i l) 32=zP f.R:=by rw[e3,z0D 0 (by simp[zb])];rfl
   have g33:zk (zS true f.R i l) 33=0:=by rw[e3,z0D 1 (by simp[zb])];rfl
   have g34:zk (zS true f.R i l) 34=0:=by rw[e3,z0D 2 (by simp[zb])];rfl
   have gc:z1x (zk (zS true f.R i l)) 35=l.length:=by rw[e4];exact z9Z (by omega) (by simp[zb])
   obtain⟨j1,j2⟩:=zf6 (kn:=kn) g0 g12 g13 g33 g34 gc h8 (fun h=>by
    rw[g32]at h
    have:f.R=true:=by cases hr:f.R with | true=>rfl | false=>rw[hr]at h;simp[zP]at h
    rw[hR this];rfl)
   have hl2:(zS true f.R i l).length=39+8*l.length+15:=by omega
   rw[z6t hbit (fun j h1 h2=>by rw[z1i (by omega)];exact j1 j (by omega)) (by intro e;rw[e]at hl2;simp at hl2),zz,hl2,j2]
   show Ph.tail _ _ _ _=_
   rw[hfit]
   have eF:clF (zS true f.R i l)=f:=by
    rw[clF,if_pos g13,g32,z3E]
    have a1:((zS true f.R i l).drop 1).take 11=zc (i / 262144) 11:=by rw[e1];exact z2B rfl (zb _ _)
    have a2:((zS true f.R i l).drop 14).take 18=zc (i%262144) 18:=by rw[e2];exact z2B (by simp[zb]) (zb _ _)
    rw[a1,a2,z0q _ _ (by omega),z0q _ _ (by omega),show i / 262144*262144+i%262144=i by omega]
    exact ef.symm
   have eD:clD (zS true f.R i l)=l:=by
    rw[clD,zhu,if_pos g13,gc]
    rw[show((zS true f.R i l).drop 39).take (8*l.length)=ze l by rw[e5];exact z2B (by simp[zb]) (zN l),hpk]
   rw[eF,eD]
 | false =>
   rw[hx]at ef hbit hlen hfit
   rw[if_neg (by simp)]at hlen
   have hi2:i < 2048:=hX hx
   have e1:zS false f.R i l=[0]++(zc i 11++([zP f.R,0,0]++(zc l.length 4++ze l)++z1R 1 (z1q false f.R i l))):=by simp[zS,z1q,zJ]
   have e2:zS false f.R i l=([0]++zc i 11)++([zP f.R,0,0]++((zc l.length 4++ze l)++z1R 1 (z1q false f.R i l))):=by simp[zS,z1q,zJ]
   have e3:zS false f.R i l=([0]++zc i 11++[zP f.R,0,0])++(zc l.length 4++(ze l++z1R 1 (z1q false f.R i l))):=by simp[zS,z1q,zJ]
   have e4:zS false f.R i l=([0]++zc i 11++[zP f.R,0,0]++zc l.length 4)++(ze l++z1R 1 (z1q false f.R i l)):=by simp[zS,z1q,zJ]
   have g0:zk (zS false f.R i l) 0=0:=by rw[e1];rfl
   have g12:zk (zS false f.R i l) 12=zP f.R:=by rw[e2,z0D 0 (by simp[zb])];rfl
   have g13:zk (zS false f.R i l) 13=0:=by rw[e2,z0D 1 (by simp[zb])];rfl
   have g14:zk (zS false f.R i l) 14=0:=by rw[e2,z0D 2 (by simp[zb])];rfl
   have gc:z1x (zk (zS false f.R i l)) 15=l.length:=by rw[e3];exact z9Z (by omega) (by simp[zb])
   obtain⟨j1,j2⟩:=zfg (kn:=kn) g0 g13 g14 gc h8 (fun h=>by
    rw[g12]at h
    have:f.R=true:=by cases hr:f.R with | true=>rfl | false=>rw[hr]at h;simp[zP]at h
    rw[hR this];rfl)
   have hl2:(zS false f.R i l).length=19+8*l.length+15:=by omega
   rw[z6t hbit (fun j h1 h2=>by rw[z1i (by omega)];exact j1 j (by omega)) (by intro e;rw[e]at hl2;simp at hl2),zz,hl2,j2]
   show Ph.tail _ _ _ _=_
   rw[hfit]
   have eF:clF (zS false f.R i l)=f:=by
    rw[clF,if_neg (by omega),g12,z3E]
    have a1:((zS false f.R i l).drop 1).take 11=zc i 11:=by rw[e1];exact z2B rfl (zb _ _)
    rw[a1,z0q _ _ (by omega)]
    exact ef.symm
   have eD:clD (zS false f.R i l)=l:=by
    rw[clD,zhu,if_neg (by omega),gc]
    rw[show((zS false f.R i l).drop 19).take (8*l.length)=ze l by rw[e4];exact z2B (by simp[zb]) (zN l),hpk]
   rw[eF,eD]
theorem ziL {f:Hd} {l:List Nat} (h:okD f l=true) (hI:0<=f.I) (hb:∀x∈l,x < 256) :
    scS kn (zh (bdC f l)) = .fx (zh (bdC f l)) []/\zo (zh (bdC f l))=bdC f l/\fdN (bdC f l)=l.length/\fdF (bdC f l)=f/\fdD (bdC f l)=l:=by
 have hbit:=z4y (f:=f) (l:=l)
 have hlen:=z5L h
 obtain⟨i,ef,et,hh,hi⟩:=z1Q h hI
 obtain⟨h64,c16,_,cat⟩:=zlb hh
 have ht:=(z1w hbit).1
 have hpk:z0p (ze l)=l:=z3y l hb
 have eb:bdC f l=z0F f.B f.E i l:=by rw[bdC,if_pos h,et]
 rw[eb]at hbit hlen ht ⊢
 obtain⟨c,hc⟩:∃c,z0s 2 (l.length:Int)=c:=⟨_,rfl⟩
 rw[hc]at c16 cat
 have e1:z0F f.B f.E i l=[0]++(zc i 11++([0,0,1,0,zP f.B,zP f.E]++(zc c 4++ze l))):=by rw[<- hc];simp[z0F,headD]
 have e2:z0F f.B f.E i l=([0]++zc i 11)++([0,0,1,0,zP f.B,zP f.E]++(zc c 4++ze l)):=by rw[<- hc];simp[z0F,headD]
 have e3:z0F f.B f.E i l=([0]++zc i 11++[0,0,1,0,zP f.B,zP f.E])++(zc c 4++ze l):=by rw[<- hc];simp[z0F,headD]
 have e4:z0F f.B f.E i l=([0]++zc i 11++[0,0,1,0,zP f.B,zP f.E]++zc c 4)++ze l:=by rw[<- hc];simp[z0F,headD]
 have g0:zk (z0F f.B f.E i l) 0=0:=by rw[e1];rfl
 have g12:zk (z0F f.B f.E i l) 12=0:=by rw[e2,z0D 0 (by simp[zb])];rfl
 have g13:zk (z0F f.B f.E i l) 13=0:=by rw[e2,z0D 1 (by simp[zb])];rfl
 have g14:zk (z0F f.B f.E i l) 14=1:=by rw[e2,z0D 2 (by simp[zb])];rfl
 have g15:zk (z0F f.B f.E i l) 15=0:=by rw[e2,z0D 3 (by simp[zb])];rfl
 have g16:zk (z0F f.B f.E i l) 16=zP f.B:=by rw[e2,z0D 4 (by simp[zb])];rfl
 have g17:zk (z0F f.B f.E i l) 17=zP f.E:=by rw[e2,z0D 5 (by simp[zb])];rfl
 have gc:z1x (zk (z0F f.B f.E i l)) 18=c:=by rw[e3];exact z9Z c16 (by simp[zb])
 have hn:atF 2 (z1x (zk (z0F f.B f.E i l)) 18)=l.length:=by rw[gc];omega
 obtain⟨j1,j2⟩:=zht (kn:=kn) g0 g12 g13 g14 g15 hn
 refine⟨?_,ht,hn,?_,?_⟩
 ·rw[z6t hbit (fun j h1 h2=>by rw[z1i (by omega)];exact j1 j (by omega)) (by intro e;rw[e]at hlen;simp at hlen;omega),zz,hlen,j2]
  rfl
 ·have a1:((z0F f.B f.E i l).drop 1).take 11=zc i 11:=by rw[e1];exact z2B rfl (zb _ _)
  rw[fdF,g16,g17,z3E,z3E,a1,z0q _ _ (by omega)]
  exact ef.symm
 ·rw[fdD,e4,List.drop_left' (by simp[zb]),hpk]
theorem zdb(h:0 < y.length):∃z b,y=z++[b]:=⟨y.dropLast,y.getLast (List.ne_nil_of_length_pos h),(List.dropLast_concat_getLast _).symm⟩
theorem zku{f:Hd}{l:List Nat}(h:okD f l=true)(hI:0<=f.I)(hb:∀x∈l,x < 256):scS kn (rwD f l) = .tail true f l []:=by
 obtain⟨h1,h2,h3,h4,h5⟩:=ziL (kn:=kn) h hI hb
 have hbit:=z4y (f:=f) (l:=l)
 have hpb:=z0j hbit
 have hle:=z1a hpb
 have hnum:=z50 l.length (zh (bdC f l)) (bdC f l)
 have hM:fdM (zh (bdC f l))=(z4I l.length (zh (bdC f l)) (bdC f l)).length:=by rw[fdM,h2,h3,hnum]
 obtain⟨o1,o2,o3,o4⟩:=zi8 (E:=4) (A:=true) hle (z7F l.length (zh (bdC f l)) (bdC f l))
 have hpos:0 < (z4I l.length (zh (bdC f l)) (bdC f l)).length:=by rw[hnum];split<;>omega
 have hfit:z4v (zh (bdC f l)) (z4I l.length (zh (bdC f l)) (bdC f l))=true:=by
  have e:fdO (zh (bdC f l)) (z4I l.length (zh (bdC f l)) (bdC f l))=zjF l.length (zh (bdC f l)) (bdC f l):=o1
  have hpl:=(zr (bdC f l)).1
  have hbl:=z5L h
  have h64:=zfe h
  rw[z4v,e,h2,h3,zjF,List.take_left' (z05 _),decide_eq_true rfl,Bool.true_and,<- List.append_assoc]
  refine z52 (by rw[z3c];split<;>omega) (fun x hx => ?_) (by rw[List.length_append,z05];omega)
  rcases List.mem_append.1 hx with hx | hx
  ·exact hpb x hx
  ·exact z0B _ x hx
 have ho:(fgS 4 true (zl (zh (bdC f l))) (z4I l.length (zh (bdC f l)) (bdC f l))).ok=true:=o3
 obtain⟨z,b,hz⟩:=zdb hpos
 rw[hz]at hM hfit ho
 rw[rwD,scS,z1m,<- scS,h1,hz,zk3 ho (by rw[hM,List.length_append];rfl),hfit,h2,h4,h5]
def cS(E:Nat)(A:Bool):Nat->Bool × Nat
 | 0=>(A,0)
 | n+1=>(!(cS E A n).1&&decide (((cS E A n).2+1)%E=0),if(cS E A n).1 then(cS E A n).2 else(cS E A n).2+1)
theorem zkP(E:Nat)(A:Bool)(p:Nat)(y:List Nat):(fgS E A p y).due=(cS E A y.length).1/\(fgS E A p y).out.length=(cS E A y.length).2:=by
 refine zB (P:=fun y=>(fgS E A p y).due=(cS E A y.length).1/\(fgS E A p y).out.length=(cS E A y.length).2) ⟨rfl,rfl⟩ (fun y b ih => ?_) y
 obtain⟨i1,i2⟩:=ih
 rw[z0w,List.length_append,List.length_singleton]
 unfold z0y
 simp only[cS]
 rw[i1]
 constructor
 ·rw[List.length_append,i2];rfl
 ·cases (cS E A y.length).1
  ·simp[i2]
  ·simp[i2]
theorem zd4(E:Nat)(A:Bool)(p:Nat)(x y:List Nat):∃Z,(fgS E A p (x++y)).out=(fgS E A p x).out++Z:=by
 refine zB (P:=fun y=>∃Z,(fgS E A p (x++y)).out=(fgS E A p x).out++Z) ⟨[],by simp⟩ (fun y b ih => ?_) y
 obtain⟨Z,hZ⟩:=ih
 rw[<- List.append_assoc,z0w]
 unfold z0y
 simp only
 split
 ·exact⟨Z,hZ⟩
 ·exact⟨Z++[b],by rw[hZ,List.append_assoc]⟩
theorem zlJ(h:22<=j)(hj:j<=y.length):∃W Z,(xo (y.take j))=W++Z/\W.length=20/\∃Z',xo y=W++Z':=by
 refine⟨xo (y.take 22),?_⟩
 have hl:(xo (y.take 22)).length=20:=by
  have:=(zkP 8 false 1 (y.take 22)).2
  rw[List.length_take,Nat.min_eq_left (by omega)]at this
  rw[xo,this]
  decide
 obtain⟨Z,hZ⟩:=zd4 8 false 1 (y.take 22) ((y.take j).drop 22)
 obtain⟨Z',hZ'⟩:=zd4 8 false 1 (y.take 22) (y.drop 22)
 rw[List.take_append_drop]at hZ'
 have e:y.take 22++(y.take j).drop 22=y.take j:=by
  have:=List.take_append_drop 22 (y.take j)
  rwa[List.take_take,Nat.min_eq_left h]at this
 rw[e]at hZ
 exact⟨Z,hZ,hl,Z',hZ'⟩
theorem zfL{W Z:List Nat}(h:W.length=20):xlN (W++Z)=xlN W:=by
 rw[xlN,xlN,List.drop_append_of_le_length (by omega),List.take_append_of_le_length (by rw[List.length_drop];omega)]
theorem zkm(h:22<=j)(hj:j<=y.length):xlN (xo (y.take j))=xlN (xo y):=by
 obtain⟨W,Z,h1,h2,Z',h3⟩:=zlJ h hj
 rw[h1,h3,zfL h2,zfL h2]
theorem zdz:(∀j,j < 16->zz kn ((zi i).take j) = .on)/\zz kn ((zi i).take 16)=(if kn=true then .on else .alien)/\zz kn (zi i) = .xl:=by
 have e2:zi i=([0]++zc i 11)++[0,0,1,1,0]:=by simp[zi]
 have g0:zk (zi i) 0=0:=by rw[zi];rfl
 have g12:zk (zi i) 12=0:=by rw[e2,z0D 0 (by simp[zb])];rfl
 have g13:zk (zi i) 13=0:=by rw[e2,z0D 1 (by simp[zb])];rfl
 have g14:zk (zi i) 14=1:=by rw[e2,z0D 2 (by simp[zb])];rfl
 have g15:zk (zi i) 15=1:=by rw[e2,z0D 3 (by simp[zb])];rfl
 have g16:zk (zi i) 16=0:=by rw[e2,z0D 4 (by simp[zb])];rfl
 obtain⟨j1,j2⟩:=zgz (kn:=kn) g0 g12 g13 g14 g15 g16
 refine⟨fun j hj => ?_,?_,?_⟩
 ·rw[z1i (by rw[zU];omega)];exact z8o g0 g12 g13 g14 hj
 ·rw[z1i (by rw[zU];omega)];exact j1
 ·rw[zz,zU];exact j2
theorem zlu(i:Nat):scS true (zh (zi i)) = .xs (zh (zi i)) []:=by
 obtain⟨j1,j2,j3⟩:=zdz (kn:=true) (i:=i)
 rw[z6t (z0k i) (fun j h1 h2=>by
  rw[zU]at h2
  rcases Nat.lt_or_ge j 16 with h | h
  ·exact j1 j h
  ·obtain rfl:j=16:=by omega
   rw[j2,if_pos rfl]) (by intro e;have:=zU i;rw[e]at this;simp at this),j3]
 rfl
theorem zk0(hn:xlN (xo y)=n)(hj:j<=y.length)(hm:j < szF 8 false (109+8*n)):z1E (y.take j)=false:=by
 unfold z1E
 rw[List.length_take,Nat.min_eq_left hj]
 by_cases h:22<=j
 ·rw[zkm h hj,hn,decide_eq_false (show ¬j=_ by omega),Bool.and_false]
 ·rw[decide_eq_false h,Bool.false_and]
theorem ziP {d v A:Nat} {S:Bool} {l:List Nat} (h1:1<=l.length) (h2:l.length<=2048) (hd:d < 256) (hv:v < 256) (hA:A < 4294967296) (hi:i < 2048) (hb:∀x∈l,x < 256) :
    xlN (z0z i d v A S l)=l.length/\xlF (zi i) (z0z i d v A S l)=⟨3,(i:Int),false,false,false,false,S,(d:Int),(v:Int),(A:Int)⟩/\xlD (z0z i d v A S l)=l /\
     ((z0z i d v A S l).drop 20).take 4=z1v i/\z1F 4 (zi i++(z0z i d v A S l).take 37)=true/\z1F 5 (z0z i d v A S l)=true:=by
 have hs4:(z1R 4 (zi i++z7J i d l.length S)).length=13:=by rw[z1G];decide
 obtain⟨S4,hS4⟩:∃S4,z1R 4 (zi i++z7J i d l.length S)=S4:=⟨_,rfl⟩
 obtain⟨S5,hS5⟩:∃S5,z1R 5 (z3q i d v A S l)=S5:=⟨_,rfl⟩
 have hT:(z1v i).length=4:=z05 _
 have e0:z0z i d v A S l=z3q i d v A S l++S5:=by rw[z0z,hS5]
 have e1:z0z i d v A S l=z7J i d l.length S++(S4++(zc v 8++(zc A 32++(ze l++S5)))):=by rw[e0,z3q,hS4];simp
 rw[hS4]at hs4
 have p1:z7J i d l.length S=zc d 8++([zP S]++(zc (l.length - 1) 11++z1v i)):=rfl
 have a1:((z0z i d v A S l).drop 9).take 11=zc (l.length - 1) 11:=by
  rw[e1,p1,show zc d 8++([zP S]++(zc (l.length - 1) 11++z1v i))++(S4++(zc v 8++(zc A 32++(ze l++S5))))=(zc d 8++[zP S])++(zc (l.length - 1) 11++(z1v i++(S4++(zc v 8++(zc A 32++(ze l++S5)))))) by simp]
  exact z2B (by simp[zb]) (zb _ _)
 have a2:(z0z i d v A S l).take 8=zc d 8:=by
  rw[e1,p1,List.append_assoc]
  exact List.take_left' (zb _ _)
 have a3:zk (z0z i d v A S l) 8=zP S:=by
  rw[e1,p1,List.append_assoc,z0D 0 (by rw[zb])]
  rfl
 have a4:((z0z i d v A S l).drop 37).take 8=zc v 8:=by
  rw[e1,<- List.append_assoc]
  exact z2B (by rw[List.length_append,z2u,hs4]) (zb _ _)
 have a5:((z0z i d v A S l).drop 45).take 32=zc A 32:=by
  rw[e1,<- List.append_assoc,<- List.append_assoc]
  exact z2B (by rw[List.length_append,List.length_append,z2u,hs4,zb]) (zb _ _)
 have a6:((z0z i d v A S l).drop 77).take (8*l.length)=ze l:=by
  rw[e1,<- List.append_assoc,<- List.append_assoc,<- List.append_assoc]
  exact z2B (by rw[List.length_append,List.length_append,List.length_append,z2u,hs4,zb,zb]) (zN l)
 have a7:((z0z i d v A S l).drop 20).take 4=z1v i:=by
  rw[e1,p1,show zc d 8++([zP S]++(zc (l.length - 1) 11++z1v i))++(S4++(zc v 8++(zc A 32++(ze l++S5))))=(zc d 8++[zP S]++zc (l.length - 1) 11)++(z1v i++(S4++(zc v 8++(zc A 32++(ze l++S5))))) by simp]
  exact z2B (by simp[zb]) hT
 have a8:(z0z i d v A S l).take 37=z7J i d l.length S++S4:=by
  rw[e1,<- List.append_assoc]
  exact List.take_left' (by rw[List.length_append,z2u,hs4])
 have hN:xlN (z0z i d v A S l)=l.length:=by rw[xlN,a1,z0q _ _ (by omega)];omega
 refine⟨hN,?_,?_,a7,?_,?_⟩
 ·have b1:((zi i).drop 1).take 11=zc i 11:=by rw[zi];exact z2B rfl (zb _ _)
  rw[xlF,a2,a3,a4,a5,b1,z3E,z0q _ _ (by omega),z0q _ _ (by omega),z0q _ _ (by omega),z0q _ _ (by omega)]
 ·rw[xlD,hN,a6];exact z3y l hb
 ·rw[a8,<- List.append_assoc,<- hS4]
  refine z52 (by decide) (fun x hx => ?_) (by rw[List.length_append,zU,z2u];omega)
  rcases List.mem_append.1 hx with hx | hx
  ·exact z0k i x hx
  ·exact z7D _ _ _ _ x hx
 ·rw[z0z]
  exact z52 (by decide) (z5n _ _ _ _ _ _) (by rw[z5q];omega)
theorem zm1{f:Hd}{l:List Nat}(h:okX f l=true)(hW:WdX f)(hb:∀x∈l,x < 256):scS true (rwX f l) = .tail true f l []:=by
 obtain⟨i,d,v,A,S,ef,h1,h2,hi,hd,hv,hA,eb,_,et⟩:=z4K h hW
 obtain⟨x1,x2,x3,x4,x5,x6⟩:=ziP (S:=S) h1 h2 hd hv hA hi hb
 have hbit:=z94 i d v A S l
 have hlen:=z8w i d v A S l
 obtain⟨o1,o2,o3,o4⟩:=zi8 (E:=8) (A:=false) (p:=1) (by omega) hbit
 have hm:(zv 8 false 1 (z0z i d v A S l)).length=szF 8 false (109+8*l.length):=by rw[z1T,hlen]
 have hge:=zdn 8 false (109+8*l.length)
 have ho:xo (zv 8 false 1 (z0z i d v A S l))=z0z i d v A S l:=o1
 have hend:z1E (zv 8 false 1 (z0z i d v A S l))=true:=by
  unfold z1E
  rw[ho,x1,hm,decide_eq_true (show 22<=_ by omega),decide_eq_true rfl]
  rfl
 have hnot:∀j,j < (zv 8 false 1 (z0z i d v A S l)).length->z1E ((zv 8 false 1 (z0z i d v A S l)).take j)=false:=fun j hj =>
  zk0 (n:=l.length) (by rw[ho,x1]) (by omega) (by omega)
 have hfit:z3D (zh (zi i)) (zv 8 false 1 (z0z i d v A S l))=true:=by
  rw[z3D,ho,(z1w (z0k i)).1,x4,x5,x6,z1v,zU,decide_eq_true rfl]
  rfl
 have ht:=(z1w (z0k i)).1
 rw[rwX,eb,et]
 obtain⟨z,b,hz⟩:=zdb (y:=zv 8 false 1 (z0z i d v A S l)) (by omega)
 rw[hz]at o3 hend hnot hfit ho
 rw[scS,z1m,z1m,z1m,<- scS,zlu,zgH,hz,zkk o3 (fun j hj=>by
  have:=hnot j (by rw[List.length_append];simp;omega)
  rwa[List.take_append_of_le_length hj]at this) hend,zj0,hfit,ho,ht,x2,x3,<- ef]
def zM:Sta:=⟨0,0,noF,[]⟩
def zjq:Sta:=⟨1,0,noF,[]⟩
def zjm(f:Hd)(l:List Nat):Sta:=⟨2,0,f,l⟩
def z3n:Sta:=⟨4,0,noF,[]⟩
def rkS:Ph->Nat
 | .dyn _=>0
 | .fx _ _=>1
 | .xs _ _=>1
 | .xd _ _=>2
 | .xe _ _ _=>3
 | .tail _ _ _ t=>4+min t.length 9
 | .fin _=>1000
theorem ziW(kn:Bool)(p:Ph)(b:Nat):rkS p<=rkS (z09 kn p b):=by
 cases p with
 | dyn x=>exact Nat.zero_le _
 | fx h y =>
   show 1<=_
   simp only[z09]
   (repeat' split)<;>simp[rkS]
 | xs h y =>
   show 1<=_
   simp only[z09]
   (repeat' split)<;>simp[rkS]
 | xd h y =>
   show 2<=_
   simp only[z09]
   (repeat' split)<;>simp[rkS]
 | xe h y z =>
   show 3<=_
   simp only[z09]
   (repeat' split)<;>simp[rkS]
 | tail ok f l t =>
   show 4+min t.length 9<=_
   simp only[z09]
   (repeat' split)<;>simp only[rkS,List.length_append,List.length_singleton]<;>omega
 | fin s=>exact Nat.le_refl _
theorem zlF(kn:Bool)(p:Ph)(x:List Nat):rkS p<=rkS (goS kn p x):=by
 refine zB (P:=fun x=>rkS p<=rkS (goS kn p x)) (Nat.le_refl _) (fun x b ih => ?_) x
 rw[z0h]
 exact Nat.le_trans ih (ziW _ _ _)
theorem ziA{p:Ph}(h:rkS p<=4):zW p=zM:=by
 cases p with
 | tail ok f l t =>
   have h0:t.length=0:=by
    have:4+min t.length 9<=4:=h
    omega
   show(if t.length=1/\ok=true then _ else _)=_
   rw[if_neg (by omega)]
   rfl
 | fin s=>exact absurd h (by simp[rkS])
 | _=>rfl
theorem zaw(kn:Bool)(x:List Nat)(j:Nat):scS kn x=goS kn (scS kn (x.take j)) (x.drop j):=by
 conv=>lhs;rw[<- List.take_append_drop j x]
 exact z1m _ _ _ _
theorem ziT(h:rkS (scS kn x)<=4)(j:Nat):zW (scS kn (x.take j))=zM:=by
 refine ziA (Nat.le_trans ?_ h)
 rw[zaw kn x j]
 exact zlF _ _ _
theorem ziY {f:Hd} {l:List Nat} {a:Nat} (h:scS kn raw = .tail true f l []) (ha:a<=1) :
    (∀n,n<=raw.length->zW (scS kn ((raw++([1,a]++ones 8)).take n))=zM)/\zW (scS kn ((raw++([1,a]++ones 8)).take (raw.length+1)))=zjq /\
     (∀j,2<=j->j<=8->zW (scS kn ((raw++([1,a]++ones 8)).take (raw.length+j)))=zM)/\scS kn ((raw++([1,a]++ones 8)).take (raw.length+9)) = .fin (zjm f l):=by
 have key:∀j,scS kn ((raw++([1,a]++ones 8)).take (raw.length+j))=goS kn (.tail true f l []) (([1,a]++ones 8).take j):=fun j=>by
  rw[List.take_length_add_append,scS,z1m,<- scS,h]
 obtain⟨t1,t2,t3⟩:=zjf kn f l a ha
 refine⟨fun n hn => ?_,?_,fun j h1 h2 => ?_,?_⟩
 ·rw[List.take_append_of_le_length hn]
  exact ziT (by rw[h];exact Nat.le_refl _) n
 ·rw[key,show([1,a]++ones 8).take 1=[1]from rfl,t1]
  rfl
 ·rw[key,t2 j h1 h2]
  show(if(List.take j _).length=1/\_ then _ else _)=_
  rw[List.length_take,if_neg (by simp[ones];omega)]
  rfl
 ·rw[key,t3]
  rfl
theorem z78(l:List Nat):zz true l ≠ .alien/\(zz false l=zz true l\/zz false l = .alien):=by
 unfold zz
 generalize l.length=n
 generalize zk l=g
 constructor
 ·unfold zu z1N
  (repeat' split)<;>first
   | (intro h;cases h;done)
   | (rename_i hh;exact absurd hh.2 (by simp))
 ·by_cases h16:n=16
  ·subst h16
   have e:∀kn,zu kn 16 g=if g 13=1 then .on else if g 14=0 then .on else if g 15=1/\kn=false then .alien else .on:=fun kn=>by
    unfold zu
    rw[if_neg (show ¬16=1 by omega),if_neg (show ¬16 < 14 by omega),if_neg (show ¬16=14 by omega),if_neg (show ¬16=15 by omega),if_pos (show 16 < 34 by omega),if_pos (show 16 < 19 by omega),if_pos (show 16=16 from rfl)]
   rw[e,e]
   by_cases h13:g 13=1
   ·rw[if_pos h13,if_pos h13];exact .inl rfl
   rw[if_neg h13,if_neg h13]
   by_cases h14:g 14=0
   ·rw[if_pos h14,if_pos h14];exact .inl rfl
   rw[if_neg h14,if_neg h14]
   by_cases h15:g 15=1
   ·rw[if_pos ⟨h15,rfl⟩];exact .inr rfl
   ·rw[if_neg (fun h=>h15 h.1),if_neg (fun h=>h15 h.1)];exact .inl rfl
  ·refine .inl ?_
   unfold zu
   rw[if_neg h16,if_neg h16]
theorem zfU(x:List Nat):zW (scS true x)≠z3n/\(zW (scS true x)).k≠4/\(scS false x=scS true x\/scS false x = .fin z3n):=by
 have key:(∀s,scS true x = .fin s->s.k≠4)/\(scS false x=scS true x\/scS false x = .fin z3n):=by
  refine zB (P:=fun x=>(∀s,scS true x = .fin s->s.k≠4)/\(scS false x=scS true x\/scS false x = .fin z3n)) ⟨fun s h=>(by cases h),.inl rfl⟩ (fun x b ih => ?_) x
  obtain⟨i1,i2⟩:=ih
  rw[scS,scS,z0h,z0h,<- scS,<- scS]
  constructor
  ·intro s hs
   generalize scS true x=p at *
   cases p with
   | dyn y =>
     have hj:=(z78 (zo y++[b])).1
     simp only[z09]at hs
     split at hs
     ·split at hs
      ·cases hs;simp[z1j]
      ·cases hs
     ·cases hq:zz true (zo y++[b])<;>rw[hq]at hs hj<;>simp only[z2T]at hs
      ·cases hs
      ·cases hs;simp[z1j]
      ·exact absurd rfl hj
      ·cases hs
      ·cases hs
      ·cases hs
   | fx h y=>simp only[z09]at hs;(repeat' split at hs)<;>cases hs<;>simp[z1j]
   | xs h y=>simp only[z09]at hs;(repeat' split at hs)<;>cases hs<;>simp[z1j]
   | xd h y=>simp only[z09]at hs;(repeat' split at hs)<;>cases hs<;>simp[z1j]
   | xe h y z=>simp only[z09]at hs;(repeat' split at hs)<;>cases hs<;>simp[z1j]
   | tail ok f l t=>simp only[z09]at hs;(repeat' split at hs)<;>cases hs<;>simp[z1j]
   | fin s'=>exact i1 s hs
  ·rcases i2 with i2 | i2
   ·rw[i2]
    generalize scS true x=p at *
    cases p with
    | dyn y =>
      simp only[z09]
      split
      ·exact .inl rfl
      ·rcases(z78 (zo y++[b])).2 with h | h
       ·exact .inl (by rw[h])
       ·exact .inr (by rw[h];rfl)
    | _=>exact .inl rfl
   ·exact .inr (by rw[i2];rfl)
 have h4:(zW (scS true x)).k≠4:=by
  have k1:=key.1
  generalize scS true x=p at *
  cases p with
  | tail ok f l t =>
    show(if t.length=1/\ok=true then(_:Sta)else _).k≠4
    split<;>simp
  | fin s=>exact k1 s rfl
  | _=>simp[zW]
 exact⟨fun h=>h4 (by rw[h];rfl),h4,key.2⟩
theorem zeF(l:List Nat)(b:Nat):zl (zh (l++[b]))=b:=by
 rw[z0d]
 unfold z00
 split
 ·rw[show zh l++[1 - zl (zh l),b]=(zh l++[1 - zl (zh l)])++[b] by simp,z0I]
 ·rw[z0I]
theorem zde{l:List Nat}(hb:∀x∈l++[b],x<=1)(h:c≠b):(zq (zh (l++[b]++[c]))).2<=2:=by
 rw[z0d]
 unfold z00
 have hl:=zeF l b
 split
 ·have h1:=(z2i (z1a (z0j hb))).2
  rw[show zh (l++[b])++[1 - zl (zh (l++[b])),c]=(zh (l++[b])++[1 - zl (zh (l++[b]))])++[c] by simp]
  have h2:=(z16 (zh (l++[b])++[1 - zl (zh (l++[b]))]) c).1
  omega
 ·rw[z2f (by rw[hl];exact h)]
  omega
theorem zeB(i:Nat):zh ((zi i).take 16)=zh ((zi i).take 15)++[1]/\zh (zi i)=zh ((zi i).take 16)++[0]:=by
 have e:zi i=([0]++zc i 11++[0])++[0]++[1]++[1]++[0]:=by simp[zi]
 have hl:([0]++zc i 11++[0]).length=13:=by simp[zb]
 have e15:(zi i).take 15=([0]++zc i 11++[0])++[0]++[1]:=by
  rw[e,show([0]++zc i 11++[0])++[0]++[1]++[1]++[0]=(([0]++zc i 11++[0])++[0]++[1])++[1,0] by simp]
  exact List.take_left' (by rw[List.length_append,List.length_append,hl];rfl)
 have e16:(zi i).take 16=([0]++zc i 11++[0])++[0]++[1]++[1]:=by
  rw[e]
  exact List.take_left' (by rw[List.length_append,List.length_append,List.length_append,hl];rfl)
 have hb:=z0k i
 have hb14:∀x∈([0]++zc i 11++[0])++[0],x<=1:=fun x hx=>hb x (by rw[e];exact List.mem_append_left _ (List.mem_append_left _ (List.mem_append_left _ hx)))
 have r1:=zde (c:=1) hb14 (by omega)
 rw[<- e15]at r1
 have f1:zh ((zi i).take 16)=zh ((zi i).take 15)++[1]:=by
  rw[e16,<- e15,z0d]
  unfold z00
  rw[if_neg (by unfold full;simp;omega)]
 refine⟨f1,?_⟩
 have r2:=(z16 (zh ((zi i).take 15)) 1).1
 rw[<- f1]at r2
 conv=>lhs;rw[e,<- e16,z0d]
 unfold z00
 rw[if_neg (by unfold full;simp;omega)]
theorem zhF(i:Nat)(y:List Nat):scS false (zh (zi i)++y) = .fin z3n/\scS false (zh (zi i)) = .fin z3n/\zW (scS false ((zh (zi i)).take ((zh (zi i)).length - 2)))=zM:=by
 obtain⟨e1,e2⟩:=zeB i
 obtain⟨j1,j2,j3⟩:=zdz (kn:=false) (i:=i)
 have hl:=zU i
 have hb:∀n,∀x∈(zi i).take n,x<=1:=fun n x hx=>z0k i x (List.mem_of_mem_take hx)
 have l16:((zi i).take 16).length=16:=by rw[List.length_take];omega
 have l15:((zi i).take 15).length=15:=by rw[List.length_take];omega
 have h16:scS false (zh ((zi i).take 16)) = .fin z3n:=by
  rw[z6t (hb 16) (fun j h1 h2=>by rw[List.take_take,Nat.min_eq_left (by omega)];exact j1 j (by omega)) (by intro e;rw[e]at l16;simp at l16),j2]
  rfl
 have h15:scS false (zh ((zi i).take 15)) = .dyn (zh ((zi i).take 15)):=by
  rw[z6t (hb 15) (fun j h1 h2=>by rw[List.take_take,Nat.min_eq_left (by omega)];exact j1 j (by omega)) (by intro e;rw[e]at l15;simp at l15),j1 15 (by omega)]
  rfl
 have hw:scS false (zh (zi i)) = .fin z3n:=by
  rw[e2,scS,z0h,<- scS,h16]
  rfl
 refine⟨by rw[scS,z1m,<- scS,hw];exact zd6 _ _ _,hw,?_⟩
 have e3:(zh ((zi i).take 15)).length+([1]++[0]:List Nat).length - 2=(zh ((zi i).take 15)).length:=by simp
 rw[e2,e1,List.append_assoc,List.length_append,e3,List.take_left,h15]
 rfl
end Go.Proofs.YtplbmlpdefpplaaGreatDoor
