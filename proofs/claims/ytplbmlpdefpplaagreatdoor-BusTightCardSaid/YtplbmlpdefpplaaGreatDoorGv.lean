/- What a row is (layer 9) looked at anew, as the document's Last does, on lists, and more. Conditions: as each says. -/
import Derived.Test.YtplbmlpdefpplaaGreatDoorScK
import Derived.Test.YtplbmlpdefpplaaGreatDoorFaP
set_option maxHeartbeats 2000000
namespace Go.Proofs.YtplbmlpdefpplaaGreatDoor
set_option linter.unusedVariables false
set_option linter.unusedSimpArgs false
open Go.RowKit
variable {L s u y z:List Nat} {cap i j:Nat} {F G P:Nat->Prop} {a:Option Addr} {w w':World}
def zjE(ok:Bool):Nat->List Nat->Nat
 | _,[]=>0
 | i,b::t=>if i=2/\ok=false then 6 else if i≠1/\b=0 then 5 else zjE ok (i+1) t
theorem zdt{l:List Nat}(hb:∀b∈l,b<=1)(i:Nat):zk l i=0\/zk l i=1:=by
 unfold zk
 by_cases hi:i < l.length
 ·have:=hb _ (List.getElem_mem hi)
  simp only[List.getD,List.getElem?_eq_getElem hi,Option.getD_some]
  omega
 ·simp[List.getD,List.getElem?_eq_none (by omega:l.length<=i)]
section
variable {kn:Bool} {B:Nat->(List Nat->Nat->Sta)->Sta} {x l:List Nat} {E:Sta} {pl:Nat->Nat}
end
structure HdJ(kn:Bool)(h:List Nat)(J:Jd):Prop where
 ok:okS h=true
 last:z0O h=false
 bit:∀b∈h,b<=1
 ne:zo h≠[]
 on:∀j,1<=j->j < (zo h).length->zz kn ((zo h).take j) = .on
 jd:zz kn (zo h)=J
def zi0(kn:Bool)(u:List Nat)(ok:Bool)(f:Hd)(l:List Nat):Prop :=
 (HdJ kn u .cl/\ok=z1F 1 (zo u)/\f=clF (zo u)/\l=clD (zo u)) \/
 (∃h y,u=h++y/\HdJ kn h .fd/\(fgS 4 true (zl h) y).ok=true/\y.length=fdM h/\ok=z4v h y/\f=fdF (zo h)/\l=fdD (zo h)) \/
 (∃h y,u=h++(zy++(y++z0u))/\HdJ kn h .xl/\(fgS 8 false 1 y).ok=true/\z1E y=true/\ok=z3D h y/\f=xlF (zo h) (xo y)/\l=xlD (xo y))
def zgb(kn:Bool)(x:List Nat):Ph->Prop
 | .dyn x'=>x'=x/\okS x=true/\∀j,1<=j->j<=(zo x).length->zz kn ((zo x).take j) = .on
 | .fx h y=>x=h++y/\HdJ kn h .fd/\(fgS 4 true (zl h) y).ok=true/\y.length < fdM h
 | .xs h y=>x=h++y/\HdJ kn h .xl/\y.length < 4/\y=zy.take y.length
 | .xd h y=>x=h++(zy++y)/\HdJ kn h .xl/\(fgS 8 false 1 y).ok=true/\∀j,j<=y.length->z1E (y.take j)=false
 | .xe h y z=>x=h++(zy++(y++z))/\HdJ kn h .xl/\(fgS 8 false 1 y).ok=true/\z1E y=true/\z.length < 4/\z=z0u.take z.length
 | .tail ok f l t=>t.length<=8/\zjE ok 0 t=0/\∃u,x=u++t/\zi0 kn u ok f l
 | .fin _=>True
theorem z8S{b:Nat}(hz:z=s.take z.length)(hl:z.length < s.length)(hb:b=s.getD z.length 0):z++[b]=s.take (z++[b]).length:=by
 rw[List.length_append,List.length_singleton,List.take_add_one,<- hz,hb]
 congr 1
 simp[List.getD,hl]
theorem zl1(hs:s.length=4)(h:z=s.take z.length)(h4:z.length=4):z=s:=by
 rw[h4]at h
 rw[h,List.take_of_length_le (by omega)]
theorem zfC(ok:Bool)(b:Nat):∀(t:List Nat) (i:Nat),zjE ok i t=0->zjE ok i (t++[b])=if i+t.length=2/\ok=false then 6 else if i+t.length≠1/\b=0 then 5 else 0:=by
 intro t
 induction t with
 | nil=>intro i _;simp[zjE]
 | cons c t ih =>
   intro i h
   rw[List.cons_append]
   unfold zjE at h ⊢
   split at h
   ·omega
   ·rename_i h1
    rw[if_neg h1]
    split at h
    ·omega
    ·rename_i h2
     rw[if_neg h2,ih (i+1) h,List.length_cons]
     simp only[show i+1+t.length=i+(t.length+1) by omega]
theorem z6D:zy.length=4:=rfl
theorem z9h:z0u.length=4:=rfl
theorem zdR{kn:Bool}{x:List Nat}{p:Ph}{b:Nat}(hx:∀c∈x++[b],c<=1)(h:zgb kn x p):zgb kn (x++[b]) (z09 kn p b):=by
 have hx':∀c∈x,c<=1:=fun c hc=>hx c (by simp[hc])
 cases p with
 | dyn y =>
   obtain⟨rfl,ho,hj⟩:=h
   simp only[z09]
   cases hf:full y with
   | true =>
     rw[if_pos rfl]
     split
     ·trivial
     ·rename_i hb
      refine⟨rfl,?_,?_⟩
      ·rw[z1b,ho,hf]
       simpa using hb
      ·rw[z0o,hf,if_pos rfl]
       exact hj
   | false =>
     rw[if_neg (by simp)]
     have ht:zo (y++[b])=zo y++[b]:=by rw[z0o,hf];simp
     have hs:okS (y++[b])=true:=by rw[z1b,ho,hf];rfl
     have hlast:z0O (y++[b])=false:=by rw[z2d,hf]
     have hon:∀j,1<=j->j < (zo (y++[b])).length->zz kn ((zo (y++[b])).take j) = .on:=by
      intro j h1 h2
      rw[ht,List.length_append,List.length_singleton]at h2
      rw[ht,List.take_append_of_le_length (by omega)]
      exact hj j h1 (by omega)
     have hne:zo (y++[b])≠[]:=by rw[ht];simp
     have HJ:∀J,zz kn (zo y++[b])=J->HdJ kn (y++[b]) J:=fun J hJ=>⟨hs,hlast,hx,hne,hon,by rw[ht];exact hJ⟩
     cases hq:zz kn (zo y++[b]) with
     | on =>
       refine⟨rfl,hs,fun j h1 h2 => ?_⟩
       by_cases h3:j < (zo (y++[b])).length
       ·exact hon j h1 h3
       ·rw[List.take_of_length_le (by omega),ht]
        exact hq
     | bad=>trivial
     | alien=>trivial
     | cl =>
       refine⟨Nat.zero_le _,rfl,y++[b],by simp,.inl ⟨HJ _ hq,?_⟩⟩
       rw[ht]
       exact⟨rfl,rfl,rfl⟩
     | fd=>exact⟨by simp,HJ _ hq,rfl,by unfold fdM;split<;>decide⟩
     | xl=>exact⟨by simp,HJ _ hq,by decide,by simp⟩
 | fx h0 y =>
   obtain⟨rfl,H,ho,hl⟩:=h
   simp only[z09]
   cases hq:(fgS 4 true (zl h0) (y++[b])).ok with
   | false=>rw[if_neg (by simp)];trivial
   | true =>
     rw[if_pos rfl]
     split
     ·rename_i hm
      exact⟨Nat.zero_le _,rfl,h0++(y++[b]),by simp,.inr (.inl ⟨h0,y++[b],rfl,H,hq,hm,rfl,rfl,rfl⟩)⟩
     ·rename_i hm
      refine⟨by simp,H,hq,?_⟩
      rw[List.length_append,List.length_singleton]at hm ⊢
      omega
 | xs h0 y =>
   obtain⟨rfl,H,hl,hy⟩:=h
   simp only[z09]
   split
   ·rename_i hb
    have hs:=z8S hy (by rw[z6D];exact hl) hb
    split
    ·rename_i h3
     have h4:=zl1 z6D hs (by rw[List.length_append,List.length_singleton,h3])
     refine⟨by rw[List.append_assoc,h4];simp,H,rfl,fun j hj => ?_⟩
     have:j=0:=by simpa using hj
     subst this
     rfl
    ·exact⟨by simp,H,by rw[List.length_append,List.length_singleton];omega,hs⟩
   ·trivial
 | xd h0 y =>
   obtain⟨rfl,H,ho,hj⟩:=h
   simp only[z09]
   cases hq:(fgS 8 false 1 (y++[b])).ok with
   | false=>rw[if_neg (by simp)];trivial
   | true =>
     rw[if_pos rfl]
     cases he:z1E (y++[b]) with
     | true =>
       rw[if_pos rfl]
       exact⟨by simp,H,hq,he,by decide,by simp⟩
     | false =>
       rw[if_neg (by simp)]
       refine⟨by simp,H,hq,fun j h1 => ?_⟩
       rw[List.length_append,List.length_singleton]at h1
       by_cases h2:j<=y.length
       ·rw[List.take_append_of_le_length h2]
        exact hj j h2
       ·rw[List.take_of_length_le (by rw[List.length_append,List.length_singleton];omega)]
        exact he
 | xe h0 y z =>
   obtain⟨rfl,H,ho,he,hl,hz⟩:=h
   simp only[z09]
   split
   ·rename_i hb
    have hs:=z8S hz (by rw[z9h];exact hl) hb
    split
    ·rename_i h3
     have h4:=zl1 z9h hs (by rw[List.length_append,List.length_singleton,h3])
     exact⟨Nat.zero_le _,rfl,h0++(zy++(y++(z++[b]))),by simp,.inr (.inr ⟨h0,y,by rw[h4],H,ho,he,rfl,rfl,rfl⟩)⟩
    ·exact⟨by simp,H,ho,he,by rw[List.length_append,List.length_singleton];omega,hs⟩
   ·trivial
 | tail ok f l t =>
   obtain⟨hl,ht,u,rfl,hF⟩:=h
   simp only[z09]
   by_cases h1:t.length=2/\ok=false
   ·rw[if_pos h1];trivial
   rw[if_neg h1]
   by_cases h2:t.length≠1/\b=0
   ·rw[if_pos h2];trivial
   rw[if_neg h2]
   by_cases h8:t.length=8
   ·rw[if_pos h8];trivial
   rw[if_neg h8]
   refine⟨by rw[List.length_append,List.length_singleton];omega,?_,u,by simp,hF⟩
   rw[zfC ok b t 0 ht,Nat.zero_add,if_neg h1,if_neg h2]
 | fin s=>trivial
theorem zgk(kn:Bool){x:List Nat}:(∀c∈x,c<=1)->zgb kn x (scS kn x):=by
 refine zB (P:=fun x=>(∀c∈x,c<=1)->zgb kn x (scS kn x)) (fun _=>⟨rfl,rfl,fun j h1 h2 => ?_⟩) (fun x b ih hx => ?_) x
 ·have:j<=0:=h2
  omega
 ·rw[scS,z0h,<- scS]
  exact zdR hx (ih (fun c hc=>hx c (by simp[hc])))
theorem zjg{kn:Bool}{x:List Nat}:∀ {s:Sta},scS kn x = .fin s->2<=s.k:=by
 have key:∀s,scS kn x = .fin s->2<=s.k:=by
  refine zB (P:=fun x=>∀s,scS kn x = .fin s->2<=s.k) (fun s h=>(by cases h)) (fun x b ih => ?_) x
  intro s hs
  rw[scS,z0h,<- scS]at hs
  generalize scS kn x=p at *
  cases p with
  | dyn y =>
    simp only[z09]at hs
    split at hs
    ·split at hs
     ·cases hs;simp[z1j]
     ·cases hs
    ·cases hq:zz kn (zo y++[b])<;>rw[hq]at hs<;>simp only[z2T]at hs<;>cases hs<;>simp[z1j]
  | fx h y=>simp only[z09]at hs;(repeat' split at hs)<;>cases hs<;>simp[z1j]
  | xs h y=>simp only[z09]at hs;(repeat' split at hs)<;>cases hs<;>simp[z1j]
  | xd h y=>simp only[z09]at hs;(repeat' split at hs)<;>cases hs<;>simp[z1j]
  | xe h y z=>simp only[z09]at hs;(repeat' split at hs)<;>cases hs<;>simp[z1j]
  | tail ok f l t=>simp only[z09]at hs;(repeat' split at hs)<;>cases hs<;>simp[z1j]
  | fin s'=>exact ih s hs
 exact fun {s} h=>key s h
structure Ev where
 k:Nat
 e:Nat
 f:Hd
 l:List Nat
def z02:Ev:=⟨0,0,noF,[]⟩
structure Nd where
 kn:Bool
 has:Bool
 f:Hd
 l:List Nat
 ph:Nat
 c:Nat
 x:List Nat
 pas:Bool
 snd:Bool
 fa:Fa
def Nd.new(kn:Bool):Nd:=⟨kn,false,noF,[],0,0,[],false,false,Fa.zero⟩
def Nd.to(n:Nd)(p:Nat):Nd:={ n with ph:=p,c:=0 }
def Nd.sta(n:Nd):Sta:=zW (scS n.kn n.x)
def Nd.out(n:Nd):Nat :=
 if n.ph=1 then(if n.has then 0 else 1)
 else if n.ph=2 then(wF n.f n.l).getD n.c 0
 else if n.ph=3 then(if n.sta.k=1 then 0 else 1)
 else if n.ph=5 then(if n.pas then 1 else 0)
 else if n.ph=6 then 0 else 1
def Nd.wrong(n:Nd)(ev:Int)(er:Nat):Nd × Ev :=
 ({ n with fa:=z14 n.fa ev,pas:=z2L (z14 n.fa ev)==1,ph:=if(z14 n.fa ev).O then 10 else 5,c:=0 },⟨4,er,noF,[]⟩)
def Nd.heard(n:Nd)(kind:Nat):Nd × Ev :=
 if n.sta.k=2 then({ n with fa:=z14 n.fa 2,ph:=4,c:=0 },⟨2,0,n.sta.f,n.sta.l⟩)
 else if n.sta.k=3 then n.wrong 4 n.sta.e
 else if n.sta.k=4 then(n.to 0,⟨kind,0,noF,[]⟩)
 else(n,⟨kind,0,noF,[]⟩)
def Nd.goOn(n:Nd):Nd × Ev :=
 if n.c+1 < (wF n.f n.l).length then({ n with c:=n.c+1 },z02)
 else({ n with has:=false,fa:=z14 n.fa 1,ph:=8,c:=0 },⟨1,0,n.f,n.l⟩)
def Nd.send(n:Nd)(b:Nat):Nd × Ev :=
 if n.c=z2P n.f n.l then(if b=1 then Nd.wrong { n with x:=n.x++[b] } 5 9 else Nd.goOn { n with x:=n.x++[b] })
 else if b=(wF n.f n.l).getD n.c 0 then Nd.goOn { n with x:=n.x++[b] }
 else if(wF n.f n.l).getD n.c 0=1/\n.c < z2J n.f n.l then Nd.heard { n with x:=n.x++[b],ph:=3,c:=0,snd:=false } 3
 else Nd.wrong { n with x:=n.x++[b] } 3 5
def Nd.cnt(n:Nd)(b most p:Nat):Nd:=if b=0 then { n with c:=0 } else if n.c+1=most then n.to p else { n with c:=n.c+1 }
def Nd.begin(n:Nd):Nd:={ n with ph:=3,c:=0,x:=[0] }
def Nd.pause(n:Nd)(b:Nat):Nd :=
 if b=0 then(if n.c=2 then n.begin else n.to 6)
 else if n.c+1=3 then n.to (if n.snd=true/\z2L n.fa=1 then 9 else 1)else { n with c:=n.c+1 }
def Nd.back(n:Nd)(b:Nat):Nd :=
 if(if b=0 then n.c / 11*11 else n.c+1)=176 then { n with fa:=z14 n.fa 6,ph:=1,c:=0 } else { n with c:=if b=0 then n.c / 11*11 else n.c+1 }
def Nd.step(n:Nd)(b:Nat):Nd × Ev :=
 if n.ph=0 then(n.cnt b 11 1,z02)
 else if n.ph=1 then(if n.has then Nd.send { n with x:=[],snd:=true,ph:=2,c:=0 } b else(if b=0 then Nd.begin { n with snd:=false } else { n with snd:=false },z02))
 else if n.ph=2 then n.send b
 else if n.ph=3 then Nd.heard { n with x:=n.x++[b] } 0
 else if n.ph=4 then(n.to (if b=0 then 6 else 8),z02)
 else if n.ph=5\/n.ph=6 then(if n.c+1=6 then n.to 7 else { n with c:=n.c+1 },z02)
 else if n.ph=7 then(n.cnt b 8 8,z02)
 else if n.ph=8 then(n.pause b,z02)
 else if n.ph=9 then(if b=0 then n.begin else n.cnt b 8 1,z02)
 else if n.ph=11 then(n.back b,z02)
 else(n,z02)
def Nd.loadE(n:Nd)(f:Hd)(l:List Nat):Nat:=if okF f l=false then 2 else if f.K=3/\n.kn=false then 10 else if n.has then 8 else 0
def Nd.load(n:Nd)(f:Hd)(l:List Nat):Nd:=if n.loadE f l=0 then { n with has:=true,f:=f,l:=l } else n
def Nd.count(n:Nd):Nat:=if n.ph=3 then n.x.length else n.c
structure Fr(f:Hd)(l:List Nat):Prop where
 ok:okF f l=true
 wd:WdX f
 b:∀x∈l,x < 256
def onW(f:Hd)(l:List Nat):List Nat:=zn f l++([1,0]++ones 8)
theorem z31(f:Hd)(l:List Nat):(onW f l).length=(zn f l).length+10:=by simp[onW,ones]
theorem Fr.len{f:Hd}{l:List Nat}(h:Fr f l):(wF f l).length=(zn f l).length+10/\z2P f l=(zn f l).length+1:=by
 obtain⟨h1,h2,_⟩:=z7Z h.ok h.wd h.b
 exact⟨by rw[h1];simp[ones],h2⟩
theorem Fr.bits {f:Hd} {l:List Nat} (h:Fr f l) (i:Nat) (hi:i < (zn f l).length+10) :
    (wF f l).getD i 0=(if i < (zn f l).length then(zn f l).getD i 0 else 1)/\(onW f l).getD i 0=(if i < (zn f l).length then(zn f l).getD i 0 else if i=(zn f l).length+1 then 0 else 1):=by
 obtain⟨h1,_⟩:=z7Z h.ok h.wd h.b
 rw[h1,onW]
 generalize zn f l=r at *
 by_cases hlt:i < r.length
 ·rw[if_pos hlt,if_pos hlt]
  simp[List.getD,List.getElem?_append_left hlt]
 ·rw[if_neg hlt,if_neg hlt]
  obtain⟨j,rfl⟩:∃j,i=r.length+j:=⟨i - r.length,by omega⟩
  have hj:j < 10:=by omega
  simp only[List.getD,List.getElem?_append_right (Nat.le_add_right _ _),Nat.add_sub_cancel_left]
  have:j=0\/j=1\/j=2\/j=3\/j=4\/j=5\/j=6\/j=7\/j=8\/j=9:=by omega
  rcases this with rfl | rfl | rfl | rfl | rfl | rfl | rfl | rfl | rfl | rfl<;>simp[ones,List.replicate]
theorem Fr.raw_bit{f:Hd}{l:List Nat}(h:Fr f l)(i:Nat):(zn f l).getD i 0<=1:=by
 obtain⟨_,_,_,_,h5,_⟩:=z7Z h.ok h.wd h.b
 by_cases hi:i < (zn f l).length
 ·simp only[List.getD,List.getElem?_eq_getElem hi,Option.getD_some]
  exact h5 _ (List.getElem_mem hi)
 ·simp[List.getD,List.getElem?_eq_none (by omega:(zn f l).length<=i)]
theorem z1p(f:Hd)(l:List Nat)(hi:i < (zn f l).length+10):(onW f l).take (i+1)=(onW f l).take i++[(onW f l).getD i 0]:=by
 rw[List.take_add_one]
 congr 1
 have:i < (onW f l).length:=by rw[z31];exact hi
 simp[List.getD,this]
theorem Fr.sta {f:Hd} {l:List Nat} (h:Fr f l) {kn:Bool} (hk:f.K=3->kn=true) :
    (∀n,n<=(zn f l).length+8->n≠(zn f l).length+1->zW (scS kn ((onW f l).take n))=zM)/\zW (scS kn ((onW f l).take ((zn f l).length+1)))=zjq/\scS kn ((onW f l).take ((zn f l).length+9)) = .fin (zjm f l):=by
 obtain⟨_,_,_,_,_,h6,h7,_⟩:=z7Z h.ok h.wd h.b
 have hs:scS kn (zn f l) = .tail true f l []:=by
  cases hkn:kn with
  | true=>exact h6
  | false=>exact h7 (fun h3=>by have:=hk h3;rw[hkn]at this;cases this)
 obtain⟨g1,g2,g3,g4⟩:=ziY (a:=0) hs (by omega)
 refine⟨fun n h1 h2 => ?_,g2,g4⟩
 by_cases hn:n<=(zn f l).length
 ·exact g1 n hn
 ·have:=g3 (n - (zn f l).length) (by omega) (by omega)
  rwa[show(zn f l).length+(n - (zn f l).length)=n by omega]at this
theorem Fr.raw_len{f:Hd}{l:List Nat}(h:Fr f l):34<=(zn f l).length/\(zn f l).length<=60000:=by
 obtain⟨_,_,h3,h4,_⟩:=z7Z h.ok h.wd h.b
 exact⟨h3,h4⟩
theorem Fr.sof{f:Hd}{l:List Nat}(h:Fr f l):(zn f l).getD 0 0=0:=by
 obtain⟨_,_,_,_,_,h6,_⟩:=z7Z h.ok h.wd h.b
 have hl:=h.raw_len
 have hb:=h.raw_bit 0
 by_cases h0:(zn f l).getD 0 0=0
 ·exact h0
 ·have h1:(zn f l).take 1=[1]:=by
   have hpos:0 < (zn f l).length:=by omega
   rw[List.take_add_one,List.take_zero,List.nil_append]
   have:(zn f l)[0]? = some ((zn f l).getD 0 0):=by simp[List.getD,hpos]
   rw[this,show(zn f l).getD 0 0=1 by omega]
   rfl
  have h2:=zaw true (zn f l) 1
  rw[h1,show scS true [1] = .fin (z1j 5)from rfl,zd6,h6]at h2
  cases h2
def Nd.atS(n:Nd)(i:Nat):Nd:={ n with ph:=2,c:=i,x:=(onW n.f n.l).take i,snd:=true }
def Nd.atR(n:Nd)(x:List Nat):Nd:={ n with ph:=3,c:=0,x:=x }
theorem zjy {n:Nd} (h:Fr n.f n.l) (hi:i < (zn n.f n.l).length+10) :
    Nd.goOn { n with ph:=2,c:=i,x:=(onW n.f n.l).take i++[(onW n.f n.l).getD i 0],snd:=true } =
     if i+1 < (zn n.f n.l).length+10 then(n.atS (i+1),z02) else({ n with ph:=8,c:=0,x:=onW n.f n.l,snd:=true,has:=false,fa:=z14 n.fa 1 },⟨1,0,n.f,n.l⟩):=by
 rw[<- z1p _ _ hi]
 unfold Nd.goOn
 simp only[h.len.1]
 by_cases hlt:i+1 < (zn n.f n.l).length+10
 ·rw[if_pos hlt,if_pos hlt];rfl
 ·rw[if_neg hlt,if_neg hlt,List.take_of_length_le (by rw[z31];omega)]
theorem zeg {n:Nd} (h:Fr n.f n.l) (hi:i < (zn n.f n.l).length+10) :
    Nd.send { n with ph:=2,c:=i,x:=(onW n.f n.l).take i,snd:=true } ((onW n.f n.l).getD i 0) =
     if i+1 < (zn n.f n.l).length+10 then(n.atS (i+1),z02) else({ n with ph:=8,c:=0,x:=onW n.f n.l,snd:=true,has:=false,fa:=z14 n.fa 1 },⟨1,0,n.f,n.l⟩):=by
 rw[<- zjy h hi]
 unfold Nd.send
 simp only[h.len.2]
 obtain⟨b1,b2⟩:=h.bits i hi
 by_cases ha:i=(zn n.f n.l).length+1
 ·rw[if_pos ha]
  have:(onW n.f n.l).getD i 0=0:=by rw[b2,if_neg (by omega),if_pos ha]
  rw[this,if_neg (by omega)]
 ·rw[if_neg ha]
  have:(onW n.f n.l).getD i 0=(wF n.f n.l).getD i 0:=by
   rw[b1,b2]
   by_cases hlt:i < (zn n.f n.l).length
   ·rw[if_pos hlt,if_pos hlt]
   ·rw[if_neg hlt,if_neg hlt,if_neg ha]
  rw[this,if_pos rfl]
theorem z5K{n:Nd}(h:Fr n.f n.l)(h1:n.ph=1)(hh:n.has=true):n.out=0/\n.step 0=(n.atS 1,z02):=by
 refine⟨by unfold Nd.out;rw[if_pos h1,if_pos hh],?_⟩
 have hl:=h.raw_len
 have h0:(onW n.f n.l).getD 0 0=0:=by rw[(h.bits 0 (by omega)).2,if_pos (by omega)];exact h.sof
 have:=zeg h (i:=0) (by omega)
 rw[h0,if_pos (by omega)]at this
 unfold Nd.step
 rw[if_neg (by omega),if_pos h1,if_pos hh]
 exact this
theorem zgE {n:Nd} (h:Fr n.f n.l) (hi:i < (zn n.f n.l).length+10):(n.atS i).out=(wF n.f n.l).getD i 0/\(n.atS i).step ((onW n.f n.l).getD i 0) =
    if i+1 < (zn n.f n.l).length+10 then(n.atS (i+1),z02) else({ n with ph:=8,c:=0,x:=onW n.f n.l,snd:=true,has:=false,fa:=z14 n.fa 1 },⟨1,0,n.f,n.l⟩):=by
 refine⟨rfl,?_⟩
 exact zeg h hi
theorem z9a{n:Nd}(f:Hd)(l:List Nat)(h:Fr f l)(h1:n.ph=1)(hh:n.has=false):n.out=1/\n.step 0=(Nd.atR { n with snd:=false } ((onW f l).take 1),z02):=by
 refine⟨by unfold Nd.out;rw[if_pos h1,hh];simp,?_⟩
 have hl:=h.raw_len
 have h0:(onW f l).getD 0 0=0:=by rw[(h.bits 0 (by omega)).2,if_pos (by omega)];exact h.sof
 have:=z1p f l (i:=0) (by omega)
 rw[List.take_zero,List.nil_append,h0]at this
 unfold Nd.step
 rw[if_neg (by omega),if_pos h1,hh,if_neg (by simp),if_pos rfl]
 rw[this]
 rfl
theorem zb7 {n:Nd} {f:Hd} {l:List Nat} (h:Fr f l) (hk:f.K=3->n.kn=true) (h0:0 < i) (hi:i < (zn f l).length+9) :
    (n.atR ((onW f l).take i)).out=(if i=(zn f l).length+1 then 0 else 1)/\(n.atR ((onW f l).take i)).step ((onW f l).getD i 0) =
     if i+1 < (zn f l).length+9 then(n.atR ((onW f l).take (i+1)),z02) else({ n with ph:=4,c:=0,x:=(onW f l).take (i+1),fa:=z14 n.fa 2 },⟨2,0,f,l⟩):=by
 obtain⟨g1,g2,g3⟩:=h.sta hk
 have hs:∀j,(n.atR ((onW f l).take j)).sta=zW (scS n.kn ((onW f l).take j)):=fun j=>rfl
 constructor
 ·unfold Nd.out
  show(if(3:Nat)=1 then _ else if(3:Nat)=2 then _ else if(3:Nat)=3 then(if(n.atR ((onW f l).take i)).sta.k=1 then 0 else 1)else _)=_
  rw[if_neg (by omega),if_neg (by omega),if_pos rfl,hs]
  by_cases ha:i=(zn f l).length+1
  ·rw[if_pos ha,ha,g2];rfl
  ·rw[if_neg ha,g1 i (by omega) ha];rfl
 ·unfold Nd.step
  show(if(3:Nat)=0 then _ else if(3:Nat)=1 then _ else if(3:Nat)=2 then _ else if(3:Nat)=3 then Nd.heard (n.atR ((onW f l).take i++[(onW f l).getD i 0])) 0 else _)=_
  rw[if_neg (by omega),if_neg (by omega),if_neg (by omega),if_pos rfl,<- z1p f l (by omega)]
  unfold Nd.heard
  rw[hs]
  by_cases hlt:i+1 < (zn f l).length+9
  ·rw[if_pos hlt]
   have:(zW (scS n.kn ((onW f l).take (i+1)))).k < 2:=by
    by_cases ha:i+1=(zn f l).length+1
    ·rw[ha,g2];decide
    ·rw[g1 (i+1) (by omega) ha];decide
   rw[if_neg (by omega),if_neg (by omega),if_neg (by omega)]
   rfl
  ·have e:i+1=(zn f l).length+9:=by omega
   rw[if_neg hlt,e,g3]
   rfl
theorem zjk{f:Hd}{l:List Nat}(h:Fr f l)(hi:i < (zn f l).length+10):min ((wF f l).getD i 0) (if i=(zn f l).length+1 then 0 else 1)=(onW f l).getD i 0:=by
 obtain⟨b1,b2⟩:=h.bits i hi
 have:=h.raw_bit i
 rw[b1,b2]
 by_cases hlt:i < (zn f l).length
 ·rw[if_pos hlt,if_pos hlt,if_neg (by omega)];omega
 ·rw[if_neg hlt,if_neg hlt]
  split<;>rfl
theorem zbo(n:Nd)(h:n.ph=0):n.out=1/\n.step 1=(if n.c+1=11 then n.to 1 else { n with c:=n.c+1 },z02):=by
 constructor
 ·unfold Nd.out
  rw[if_neg (by omega),if_neg (by omega),if_neg (by omega),if_neg (by omega),if_neg (by omega)]
 ·unfold Nd.step Nd.cnt
  rw[if_pos h,if_neg (by omega)]
theorem zbe(n:Nd)(h:n.ph=1)(hh:n.has=false):n.out=1/\n.step 1=({ n with snd:=false },z02):=by
 constructor
 ·unfold Nd.out
  rw[if_pos h,hh];rfl
 ·unfold Nd.step
  rw[if_neg (by omega),if_pos h,hh,if_neg (by simp),if_neg (by omega)]
def Nd.joined(kn:Bool):Nd:={ Nd.new kn with ph:=1 }
def Nd.ones(kn:Bool)(k:Nat):Nd:=if k < 11 then { Nd.new kn with c:=k } else Nd.joined kn
theorem zdg(kn:Bool)(k:Nat):(Nd.ones kn k).out=1/\(Nd.ones kn k).step 1=(Nd.ones kn (k+1),z02):=by
 unfold Nd.ones
 by_cases h:k < 11
 ·rw[if_pos h]
  obtain⟨h1,h2⟩:=zbo { Nd.new kn with c:=k } rfl
  refine⟨h1,?_⟩
  rw[h2]
  by_cases h':k+1 < 11
  ·rw[if_pos h',if_neg (by show ¬k+1=11;omega)]
  ·rw[if_neg h',if_pos (by show k+1=11;omega)]
   rfl
 ·rw[if_neg h,if_neg (by omega)]
  exact zbe (Nd.joined kn) rfl rfl
theorem z1t{l:List Nat}(hb:∀b∈l,b<=1)(i n:Nat):zF ((l.drop i).take n) < 2^n:=by
 have h1:=z3u ((l.drop i).take n) (fun x hx=>hb x (List.mem_of_mem_drop (List.mem_of_mem_take hx)))
 have h2:((l.drop i).take n).length<=n:=by rw[List.length_take];omega
 exact Nat.lt_of_lt_of_le h1 (Nat.pow_le_pow_right (by omega) h2)
theorem zbp{n at_ r c:Nat}(h:z1N n at_ r c = .cl):n=at_+8*c+15:=by
 unfold z1N at h
 split at h
 ·cases h
 ·split at h
  ·assumption
  ·cases h
theorem zaF{at_ r c:Nat}(h:z1N at_ at_ r c = .on):c<=8/\(r=1->c=0):=by
 unfold z1N at h
 split at h
 ·cases h
 ·rename_i h1
  refine⟨?_,fun hr => ?_⟩
  ·by_cases h8:8 < c
   ·exact absurd ⟨rfl,.inl h8⟩ h1
   ·omega
  ·by_cases h0:0 < c
   ·exact absurd ⟨rfl,.inr ⟨hr,h0⟩⟩ h1
   ·omega
theorem zdW{c:Nat}(h:c<=8):z2K 1 (c:Int)=true:=by
 have:=zaV 1 c (by unfold z0R;rw[if_pos rfl];omega)
 unfold atF at this
 rwa[if_neg (by omega),if_pos (by omega)]at this
section
variable {kn:Bool} {L:List Nat}
theorem zlp(hb:∀b∈L,b<=1)(hj':∀j,1<=j->j < L.length->zz kn (L.take j) = .on)(hjl:zz kn L = .cl):Fr (clF L) (clD L)/\(clF L).K=1:=by
 have hj:∀j,1<=j->j < L.length->zu kn j (zk L) = .on:=fun j h1 h2=>by rw[<- z1i (Nat.le_of_lt h2)];exact hj' j h1 h2
 have hcl:zu kn L.length (zk L) = .cl:=hjl
 have key:∃at_ r c,L.length=at_+8*c+15/\c<=8/\(r=1->c=0)/\zhu L=at_/\4<=at_/\c=z1x (zk L) (at_ - 4)/\((clF L).R=true->r=1):=by
  have h14:¬L.length < 16:=by
   intro hlt
   unfold zu at hcl
   (repeat' split at hcl)<;>first | (cases hcl;done) | omega
  by_cases g13:zk L 13=1
  ·have hJx:∀n,15<=n->zu kn n (zk L)=if n < 34 then .on else if n=34 then(if zk L 33=1 then .bad else .on)else if n=35 then(if zk L 34=1 then .bad else .on)else if n < 39 then .on else z1N n 39 (zk L 32) (z1x (zk L) 35):=fun n hn=>by
    rw[zu,if_neg (by omega),if_neg (by omega),if_neg (by omega),if_pos g13]
   rw[hJx _ (by omega)]at hcl
   have h39:¬L.length < 39:=by
    intro hlt
    (repeat' split at hcl)<;>first | (cases hcl;done) | omega
   rw[if_neg (by omega),if_neg (by omega),if_neg (by omega),if_neg h39]at hcl
   have hn:=zbp hcl
   have ho:=hj 39 (by omega) (by omega)
   rw[hJx _ (by omega),if_neg (by omega),if_neg (by omega),if_neg (by omega),if_neg (by omega)]at ho
   obtain⟨c1,c2⟩:=zaF ho
   refine⟨39,zk L 32,z1x (zk L) 35,hn,c1,c2,by rw[zhu,if_pos g13],by omega,rfl,fun h => ?_⟩
   unfold clF at h
   rw[if_pos g13]at h
   simpa using h
  ·have hJs:∀n,16<=n->zu kn n (zk L)=if zk L 14=0 then(if n < 19 then .on else z1N n 19 (zk L 12) (z1x (zk L) 15))else if n=16 then(if zk L 15=1/\kn=false then .alien else .on)else if zk L 15=0 then(if n < 22 then .on else if n=22+8*atF 2 (z1x (zk L) 18)then .fd else .on)else if zk L 16=1 then .bad else .xl:=fun n hn=>by
    rw[zu,if_neg (by omega),if_neg (by omega),if_neg (by omega),if_neg g13,if_neg (by omega)]
   rw[hJs _ (by omega)]at hcl
   have g14:zk L 14=0:=by
    by_cases g:zk L 14=0
    ·exact g
    ·rw[if_neg g]at hcl
     (repeat' split at hcl)<;>cases hcl
   rw[if_pos g14]at hcl
   have h19:¬L.length < 19:=by
    intro hlt
    rw[if_pos hlt]at hcl
    cases hcl
   rw[if_neg h19]at hcl
   have hn:=zbp hcl
   have ho:=hj 19 (by omega) (by omega)
   rw[hJs _ (by omega),if_pos g14,if_neg (by omega)]at ho
   obtain⟨c1,c2⟩:=zaF ho
   refine⟨19,zk L 12,z1x (zk L) 15,hn,c1,c2,by rw[zhu,if_neg g13],by omega,rfl,fun h => ?_⟩
   unfold clF at h
   rw[if_neg g13]at h
   simpa using h
 obtain⟨at_,r,c,hn,c8,c0,hat,h4,hc,hr⟩:=key
 have hlen:(clD L).length=c:=by
  rw[clD,z1Y,List.length_take,List.length_drop,hat,<- hc]
  omega
 have hbytes:∀x∈clD L,x < 256:=z7h _ (fun x hx=>hb x (List.mem_of_mem_drop (List.mem_of_mem_take hx)))
 have hz:(clF L).R=true->(clD L).length=0:=fun h=>by rw[hlen];exact c0 (hr h)
 have i1:=z1t hb 1 11
 have i2:=z1t hb 14 18
 have hK:(clF L).K=1:=by unfold clF;split<;>rfl
 refine⟨⟨?_,?_,hbytes⟩,hK⟩
 ·unfold clF at hz ⊢
  by_cases g13:zk L 13=1
  ·rw[if_pos g13]at hz ⊢
   rw[zbx,hlen,zdW c8]
   unfold z4a
   generalize zF ((L.drop 1).take 11)=n1 at *
   generalize zF ((L.drop 14).take 18)=n2 at *
   have hz':zk L 32==1->c=0:=fun h=>by rw[<- hlen];exact hz h
   cases hq:(zk L 32==1)
   ·simp;omega
   ·simp[hz' hq];omega
  ·rw[if_neg g13]at hz ⊢
   rw[zbx,hlen,zdW c8]
   unfold z4a
   generalize zF ((L.drop 1).take 11)=n1 at *
   have hz':zk L 12==1->c=0:=fun h=>by rw[<- hlen];exact hz h
   cases hq:(zk L 12==1)
   ·simp;omega
   ·simp[hz' hq];omega
 ·unfold WdX clF
  generalize zF ((L.drop 1).take 11)=n1 at *
  generalize zF ((L.drop 14).take 18)=n2 at *
  split<;>simp<;>omega
theorem zm4(hb:∀b∈L,b<=1)(hjl:zz kn L = .fd):Fr (fdF L) (fdD L)/\(fdF L).K=2:=by
 have hcl:zu kn L.length (zk L) = .fd:=hjl
 have hn:L.length=22+8*atF 2 (z1x (zk L) 18):=by
  unfold zu z1N at hcl
  (repeat' split at hcl)<;>first | (cases hcl;done) | assumption
 have h15:z1x (zk L) 18 < 16:=by
  have h0:=zdt hb 18
  have h1:=zdt hb (18+1)
  have h2:=zdt hb (18+2)
  have h3:=zdt hb (18+3)
  unfold z1x
  omega
 have hlen:(fdD L).length=atF 2 (z1x (zk L) 18):=by
  rw[fdD,z1Y,List.length_drop]
  omega
 have i1:=z1t hb 1 11
 refine⟨⟨?_,?_,z7h _ (fun x hx=>hb x (List.mem_of_mem_drop hx))⟩,rfl⟩
 ·unfold fdF
  rw[zba,hlen,zaV 2 _ (by unfold z0R;rw[if_neg (by omega),if_pos rfl];exact h15)]
  unfold zh7
  generalize zF ((L.drop 1).take 11)=n1 at *
  simp
  omega
 ·unfold WdX fdF
  generalize zF ((L.drop 1).take 11)=n1 at *
  simp
theorem zkf(n:Nat):n+(if(cS 8 false n).1 then 1 else 0)<=(cS 8 false n).2+(cS 8 false n).2 / 8:=by
 induction n with
 | zero=>simp[cS]
 | succ n ih =>
   rcases hcs:cS 8 false n with ⟨d,o⟩
   rw[hcs]at ih
   simp only[cS,hcs]
   cases d with
   | true =>
     simp at ih ⊢
     omega
   | false =>
     simp at ih ⊢
     split<;>omega
theorem zlP(hb:∀b∈L,b<=1)(hy:∀b∈y,b<=1)(he:z1E y=true):Fr (xlF L (xo y)) (xlD (xo y))/\(xlF L (xo y)).K=3:=by
 unfold z1E at he
 simp only[Bool.and_eq_true,decide_eq_true_eq]at he
 obtain⟨h22,hm⟩:=he
 have hob:∀b∈xo y,b<=1:=z9O hy
 have hN:xlN (xo y)<=2048/\1<=xlN (xo y):=by
  have:=z1t hob 9 11
  unfold xlN
  omega
 have ho:77+8*xlN (xo y)<=(xo y).length:=by
  have h1:=zkf y.length
  have h2:(xo y).length=(cS 8 false y.length).2:=(zkP 8 false 1 y).2
  rw[<- h2]at h1
  have h3:szF 8 false (109+8*xlN (xo y))=122+9*xlN (xo y):=by
   unfold szF
   rw[if_neg (by omega)]
   simp
   omega
  rw[h3]at hm
  generalize (xo y).length=o at *
  split at h1<;>omega
 have hlen:(xlD (xo y)).length=xlN (xo y):=by
  rw[xlD,z1Y,List.length_take,List.length_drop]
  omega
 have i1:=z1t hb 1 11
 have i2:=z1t hob 0 8
 have i3:=z1t hob 37 8
 have i4:=z1t hob 45 32
 rw[List.drop_zero]at i2
 refine⟨⟨?_,?_,z7h _ (fun x hx=>hob x (List.mem_of_mem_drop (List.mem_of_mem_take hx)))⟩,rfl⟩
 ·unfold xlF
  rw[zaT,hlen,zgp.2 (by omega)]
  unfold zgG
  generalize zF ((L.drop 1).take 11)=n1 at *
  simp
  omega
 ·unfold WdX xlF
  simp only
  omega
end
theorem zct{kn:Bool}(hb:∀b∈L,b<=1)(hj':∀j,1<=j->j < L.length->zz kn (L.take j) = .on)(hjl:zz kn L = .xl):kn=true:=by
 cases kn with
 | true=>rfl
 | false =>
   have h1:=(z78 L)
   have h2:zz false L = .xl:=hjl
   have hcl:zu false L.length (zk L) = .xl:=h2
   have h17:16 < L.length:=by
    by_cases hlt:16 < L.length
    ·exact hlt
    ·unfold zu z1N at hcl
     (repeat' split at hcl)<;>first | (cases hcl;done) | omega
   have h16:=hj' 16 (by omega) h17
   rw[z1i (by omega)]at h16
   have g13:¬zk L 13=1:=by
    intro g
    unfold zu z1N at hcl
    (repeat' split at hcl)<;>first | (cases hcl;done) | omega
   rw[zu,if_neg (by omega),if_neg (by omega),if_neg (by omega),if_neg g13,if_neg (by omega)]at hcl
   rw[zu,if_neg (by omega),if_neg (by omega),if_neg (by omega),if_neg g13,if_neg (by omega)]at h16
   have g14:¬zk L 14=0:=by
    intro g
    rw[if_pos g]at hcl
    unfold z1N at hcl
    (repeat' split at hcl)<;>cases hcl
   rw[if_neg g14,if_neg (by omega)]at hcl
   have g15:¬zk L 15=0:=by
    intro g
    rw[if_pos g]at hcl
    (repeat' split at hcl)<;>cases hcl
   have g15':zk L 15=1:=by rcases zdt hb 15 with h | h;exact absurd h g15;exact h
   rw[if_neg g14,if_pos rfl,if_pos ⟨g15',rfl⟩]at h16
   cases h16
theorem zfS{kn ok:Bool}{f:Hd}{l:List Nat}(hu:∀b∈u,b<=1)(h:zi0 kn u ok f l):Fr f l/\(f.K=3->kn=true):=by
 rcases h with ⟨H,_,rfl,rfl⟩ | ⟨h,y,rfl,H,_,_,_,rfl,rfl⟩ | ⟨h,y,rfl,H,_,he,_,rfl,rfl⟩
 ·obtain⟨h1,h2⟩:=zlp (z3b H.bit) H.on H.jd
  exact⟨h1,fun h3=>by omega⟩
 ·obtain⟨h1,h2⟩:=zm4 (z3b H.bit) H.jd
  exact⟨h1,fun h3=>by omega⟩
 ·have hy:∀b∈y,b<=1:=fun b hb=>hu b (by simp[hb])
  exact⟨(zlP (z3b H.bit) hy he).1,fun _=>zct (z3b H.bit) H.on H.jd⟩
theorem ziy {kn:Bool} {x:List Nat} {b:Nat} (hx:∀c∈x++[b],c<=1) (hk:(zW (scS kn x)).k < 2) (h2:(zW (scS kn (x++[b]))).k=2) :
    Fr (zW (scS kn (x++[b]))).f (zW (scS kn (x++[b]))).l/\((zW (scS kn (x++[b]))).f.K=3->kn=true):=by
 have hx':∀c∈x,c<=1:=fun c hc=>hx c (by simp[hc])
 have hF:=zgk kn hx'
 rw[scS,z0h,<- scS]at h2 ⊢
 generalize hp:scS kn x=p at *
 cases p with
 | tail ok f l t =>
   obtain⟨hl,ht,u,rfl,hF⟩:=hF
   have hu:∀b∈u,b<=1:=fun b hb=>hx' b (by simp[hb])
   simp only[z09]at h2 ⊢
   split at h2
   ·simp[zW,z1j]at h2
   ·rename_i h3
    rw[if_neg h3]
    split at h2
    ·simp[zW,z1j]at h2
    ·rename_i h4
     rw[if_neg h4]
     split at h2
     ·rename_i h5
      rw[if_pos h5]
      exact zfS hu hF
     ·exfalso
      simp only[zW]at h2
      split at h2<;>simp at h2
 | fin s =>
   have:=zjg hp
   exact absurd hk (by show ¬s.k < 2;omega)
 | dyn y =>
   exfalso
   simp only[z09]at h2
   split at h2
   ·split at h2<;>simp[zW,z1j]at h2
   ·cases hq:zz kn (zo y++[b])<;>rw[hq]at h2<;>simp[z2T,zW,z1j]at h2
 | fx h y =>
   exfalso
   simp only[z09]at h2
   (repeat' split at h2)<;>simp[zW,z1j]at h2
 | xs h y =>
   exfalso
   simp only[z09]at h2
   (repeat' split at h2)<;>simp[zW,z1j]at h2
 | xd h y =>
   exfalso
   simp only[z09]at h2
   (repeat' split at h2)<;>simp[zW,z1j]at h2
 | xe h y z =>
   exfalso
   simp only[z09]at h2
   (repeat' split at h2)<;>simp[zW,z1j]at h2
theorem Fr.arb{f:Hd}{l:List Nat}(h:Fr f l):z2J f l+9<=(zn f l).length:=by
 have hok:=h.ok
 unfold z2J zn
 rcases z3Y hok with hk | hk | hk
 ·have ho:okC f l=true:=by simp[okC,hk,hok]
  obtain⟨P,hP,_,_,_,_,_,_,_,g,_⟩:=z5u ho
  have h2:¬f.K=2:=by omega
  have h3:¬f.K=3:=by omega
  simp only[if_neg h2,if_neg h3]
  omega
 ·have ho:okD f l=true:=by simp[okD,hk,hok]
  obtain⟨P,hP,_,_,_,_,_,_,_,g,_⟩:=zd2 ho
  simp only[if_pos hk]
  omega
 ·have ho:okX f l=true:=by simp[okX,hk,hok]
  obtain⟨P,hP,_,_,_,_,_,_,_,g,_⟩:=ze4 ho
  have h2:¬f.K=2:=by omega
  simp only[if_neg h2,if_pos hk]
  omega
theorem ziX{kn:Bool}{x:List Nat}:∀ {s:Sta},scS kn x = .fin s->s.k<=4:=by
 have key:∀s,scS kn x = .fin s->s.k<=4:=by
  refine zB (P:=fun x=>∀s,scS kn x = .fin s->s.k<=4) (fun s h=>(by cases h)) (fun x b ih => ?_) x
  intro s hs
  rw[scS,z0h,<- scS]at hs
  generalize scS kn x=p at *
  cases p with
  | dyn y =>
    simp only[z09]at hs
    split at hs
    ·split at hs
     ·cases hs;simp[z1j]
     ·cases hs
    ·cases hq:zz kn (zo y++[b])<;>rw[hq]at hs<;>simp only[z2T]at hs<;>cases hs<;>simp[z1j]
  | fx h y=>simp only[z09]at hs;(repeat' split at hs)<;>cases hs<;>simp[z1j]
  | xs h y=>simp only[z09]at hs;(repeat' split at hs)<;>cases hs<;>simp[z1j]
  | xd h y=>simp only[z09]at hs;(repeat' split at hs)<;>cases hs<;>simp[z1j]
  | xe h y z=>simp only[z09]at hs;(repeat' split at hs)<;>cases hs<;>simp[z1j]
  | tail ok f l t=>simp only[z09]at hs;(repeat' split at hs)<;>cases hs<;>simp[z1j]
  | fin s'=>exact ih s hs
 exact fun {s} h=>key s h
theorem z4Z(kn:Bool)(x:List Nat):(zW (scS kn x)).k<=4:=by
 rcases zkE kn x with ⟨s,h1,_,h3⟩ | h1 | h1
 ·rw[h3];exact ziX h1
 ·rw[h1];decide
 ·rw[h1];decide
def z0T(p c:Nat):Prop:=(p=0->c < 11)/\((p=5\/p=6)->c < 6)/\(p=7->c < 8)/\(p=8->c < 3)/\(p=9->c < 8)/\(p=11->c < 176)/\((p=1\/p=3\/p=4\/p=10)->c=0)/\p<=11
theorem zG{p:Nat}(h:p<=11):z0T p 0:=by unfold z0T;omega
structure Nd.Ok(n:Nd):Prop where
 fa:z2D n.fa=true
 fr:n.has=true->Fr n.f n.l/\(n.f.K=3->n.kn=true)
 p2:n.ph=2->n.has=true/\n.c < (zn n.f n.l).length+10/\n.x=(onW n.f n.l).take n.c
 p3:n.ph=3->n.x≠[]/\(∀b∈n.x,b<=1)/\(zW (scS n.kn n.x)).k < 2
 cn:n.ph≠2->z0T n.ph n.c
structure z4l(n:Nd)(r:Nd × Ev):Prop where
 ok:r.1.Ok
 kn:r.1.kn=n.kn
 has:r.1.has=(n.has && !(r.2.k==1))
 fl:r.1.has=true->r.1.f=n.f/\r.1.l=n.l
 got:r.2.k=2->Fr r.2.f r.2.l/\(r.2.f.K=3->n.kn=true)
 sent:r.2.k=1->r.2.f=n.f/\r.2.l=n.l/\n.has=true
 k4:r.2.k<=4
theorem z6n(kn:Bool):(Nd.new kn).Ok:=by
 exact⟨(by show z2D Fa.zero=true;decide),fun h=>(by cases h),fun h=>(by cases h),fun h=>(by cases h),fun _=>zG (p:=0) (by omega)⟩
theorem z79{n m:Nd}(h:n.Ok)(h1:m.kn=n.kn)(h2:m.has=n.has)(h3:m.f=n.f)(h4:m.l=n.l)(h5:z2D m.fa=true)(h6:m.ph≠2)(h7:m.ph≠3)(h8:z0T m.ph m.c)(e:Ev)(he:e.k=0\/e.k=3\/e.k=4):z4l n (m,e):=by
 refine⟨⟨h5,fun hh => ?_,fun hp=>absurd hp h6,fun hp=>absurd hp h7,fun _=>h8⟩,h1,?_,fun _=>⟨h3,h4⟩,fun hk => ?_,fun hk => ?_,?_⟩
 ·rw[h3,h4,h1]
  exact h.fr (by rw[<- h2];exact hh)
 ·show m.has=(n.has && !(e.k==1))
  rw[h2,show(e.k==1)=false by rw[beq_eq_false_iff_ne];omega]
  simp
 ·have hk:e.k=2:=hk
  omega
 ·have hk:e.k=1:=hk
  omega
 ·show e.k<=4
  omega
theorem z7C{n m:Nd}(h:n.Ok)(h1:m.kn=n.kn)(h2:m.has=n.has)(h3:m.f=n.f)(h4:m.l=n.l)(h5:z2D m.fa=true)(ev:Int)(er:Nat):z4l n (m.wrong ev er):=by
 unfold Nd.wrong
 have e:∀(o:Bool),(if o=true then 10 else 5)≠2/\(if o=true then 10 else 5)≠3/\z0T (if o=true then 10 else 5) 0:=fun o=>by
  cases o
  ·exact⟨by decide,by decide,zG (p:=5) (by omega)⟩
  ·exact⟨by decide,by decide,zG (p:=10) (by omega)⟩
 obtain⟨e1,e2,e3⟩:=e (z14 m.fa ev).O
 exact z79 (m:={ m with fa:=z14 m.fa ev,pas:=z2L (z14 m.fa ev)==1,ph:=if(z14 m.fa ev).O then 10 else 5,c:=0 }) h h1 h2 h3 h4 (z5a h5 ev) e1 e2 e3 ⟨4,er,noF,[]⟩ (.inr (.inr rfl))
theorem zaP {n m:Nd} (h:n.Ok) (h1:m.kn=n.kn) (h2:m.has=n.has) (h3:m.f=n.f) (h4:m.l=n.l) (h5:z2D m.fa=true) (hp:m.ph=3) (hc:m.c=0) (y:List Nat) (b:Nat) (hx:m.x=y++[b]) (hb:∀c∈y++[b],c<=1) (hy:(zW (scS n.kn y)).k < 2)
    (kind:Nat) (hk:kind=0\/kind=3):z4l n (m.heard kind):=by
 have hs:m.sta=zW (scS n.kn (y++[b])):=by unfold Nd.sta;rw[h1,hx]
 unfold Nd.heard
 by_cases k2:m.sta.k=2
 ·rw[if_pos k2]
  rw[hs]at k2 ⊢
  have hd:=ziy hb hy k2
  refine⟨⟨z5a h5 2,fun hh => ?_,fun hp => ?_,fun hp => ?_,fun _=>zG (p:=4) (by omega)⟩,h1,?_,fun _=>⟨h3,h4⟩,fun _=>hd,fun hk => ?_,by show(2:Nat)<=4;omega⟩
  ·show Fr m.f m.l/\(m.f.K=3->m.kn=true)
   rw[h3,h4,h1]
   exact h.fr (by rw[<- h2];exact hh)
  ·have hq9:(4:Nat)=2:=hp
   omega
  ·have hq9:(4:Nat)=3:=hp
   omega
  ·show m.has=(n.has && !((2:Nat)==1))
   rw[h2];simp
  ·have hq9:(2:Nat)=1:=hk
   omega
 rw[if_neg k2]
 by_cases k3:m.sta.k=3
 ·rw[if_pos k3]
  exact z7C h h1 h2 h3 h4 h5 4 _
 rw[if_neg k3]
 by_cases k4:m.sta.k=4
 ·rw[if_pos k4]
  exact z79 (m:=m.to 0) h h1 h2 h3 h4 h5 (by show(0:Nat)≠2;omega) (by show(0:Nat)≠3;omega) (zG (p:=0) (by omega)) ⟨kind,0,noF,[]⟩ (by rcases hk with h | h;exact .inl h;exact .inr (.inl h))
 rw[if_neg k4]
 have hlow:m.sta.k < 2:=by
  have:=z4Z n.kn (y++[b])
  rw[<- hs]at this
  omega
 refine⟨⟨h5,fun hh => ?_,fun hp2 => ?_,fun _=>⟨by rw[hx];simp,by rw[hx];exact hb,hlow⟩,fun _=>by show z0T m.ph m.c;rw[hp,hc];exact zG (by omega)⟩,h1,?_,fun _=>⟨h3,h4⟩,fun hk2 => ?_,fun hk2 => ?_,?_⟩
 ·show Fr m.f m.l/\(m.f.K=3->m.kn=true)
  rw[h3,h4,h1]
  exact h.fr (by rw[<- h2];exact hh)
 ·have:m.ph=2:=hp2
  omega
 ·show m.has=(n.has && !(kind==1))
  rw[h2,show(kind==1)=false by rw[beq_eq_false_iff_ne];omega]
  simp
 ·have:kind=2:=hk2
  omega
 ·have:kind=1:=hk2
  omega
 ·show kind<=4
  omega
theorem zej{n m:Nd}(h:n.Ok)(h1:m.kn=n.kn)(h2:m.has=n.has)(h3:m.f=n.f)(h4:m.l=n.l)(h5:z2D m.fa=true)(hp:m.ph=2)(hh:m.has=true)(hc:m.c < (zn m.f m.l).length+10)(hx:m.x=(onW m.f m.l).take m.c){b:Nat}(hb:b<=1):z4l n (m.send b):=by
 obtain⟨hF,hK⟩:=h.fr (by rw[<- h2];exact hh)
 have hF':Fr m.f m.l:=by rw[h3,h4];exact hF
 have hK':m.f.K=3->m.kn=true:=by rw[h3,h1];exact hK
 obtain⟨e1,e2⟩:=hF'.len
 have hbits:=hF'.bits m.c hc
 have hgo:b=(onW m.f m.l).getD m.c 0->z4l n (Nd.goOn { m with x:=m.x++[b] }):=by
  intro hbb
  have hxx:m.x++[b]=(onW m.f m.l).take (m.c+1):=by rw[hx,hbb,<- z1p _ _ hc]
  unfold Nd.goOn
  simp only[e1]
  by_cases hlt:m.c+1 < (zn m.f m.l).length+10
  ·rw[if_pos hlt]
   refine⟨⟨h5,fun _=>⟨hF',hK'⟩,fun _=>⟨hh,hlt,hxx⟩,fun hp3 => ?_,fun hp2=>absurd hp hp2⟩,h1,?_,fun _=>⟨h3,h4⟩,fun hk => ?_,fun hk => ?_,by show(0:Nat)<=4;omega⟩
   ·have:m.ph=3:=hp3
    omega
   ·show m.has=(n.has && !((0:Nat)==1))
    rw[h2];simp
   ·have hq9:(0:Nat)=2:=hk
    omega
   ·have hq9:(0:Nat)=1:=hk
    omega
  ·rw[if_neg hlt]
   refine⟨⟨z5a h5 1,fun hq=>(by cases hq),fun hq => ?_,fun hq => ?_,fun _=>zG (p:=8) (by omega)⟩,h1,?_,fun hq=>(by cases hq),fun hk => ?_,fun _=>⟨h3,h4,by rw[<- h2];exact hh⟩,by show(1:Nat)<=4;omega⟩
   ·have hq9:(8:Nat)=2:=hq
    omega
   ·have hq9:(8:Nat)=3:=hq
    omega
   ·show false=(n.has && !((1:Nat)==1))
    simp
   ·have hq9:(1:Nat)=2:=hk
    omega
 unfold Nd.send
 by_cases ha:m.c=z2P m.f m.l
 ·rw[if_pos ha]
  by_cases hb1:b=1
  ·rw[if_pos hb1]
   exact z7C (m:={ m with x:=m.x++[b] }) h h1 h2 h3 h4 h5 5 9
  ·rw[if_neg hb1]
   refine hgo ?_
   rw[hbits.2,if_neg (by omega),if_pos (by omega)]
   omega
 rw[if_neg ha]
 by_cases hbo:b=(wF m.f m.l).getD m.c 0
 ·rw[if_pos hbo]
  refine hgo ?_
  rw[hbo,hbits.1,hbits.2]
  by_cases hlt:m.c < (zn m.f m.l).length
  ·rw[if_pos hlt,if_pos hlt]
  ·rw[if_neg hlt,if_neg hlt,if_neg (by omega)]
 rw[if_neg hbo]
 by_cases hl:(wF m.f m.l).getD m.c 0=1/\m.c < z2J m.f m.l
 ·rw[if_pos hl]
  have harb:=hF'.arb
  obtain⟨g1,g2,g3⟩:=hF'.sta hK'
  refine zaP h (m:={ m with x:=m.x++[b],ph:=3,c:=0,snd:=false }) h1 h2 h3 h4 h5 rfl rfl ((onW m.f m.l).take m.c) b (by show m.x++[b]=_;rw[hx]) ?_ ?_ 3 (.inr rfl)
  ·intro c hcm
   rcases List.mem_append.1 hcm with hcm | hcm
   ·have hcm:=List.mem_of_mem_take hcm
    unfold onW at hcm
    obtain⟨_,_,_,_,hr,_⟩:=z7Z hF'.ok hF'.wd hF'.b
    rcases List.mem_append.1 hcm with hcm | hcm
    ·exact hr c hcm
    ·simp[ones]at hcm
     omega
   ·rw[List.mem_singleton]at hcm
    omega
  ·rw[<- h1,g1 m.c (by omega) (by omega)]
   decide
 ·rw[if_neg hl]
  exact z7C (m:={ m with x:=m.x++[b] }) h h1 h2 h3 h4 h5 3 5
theorem z7k{n m:Nd}(h:n.Ok)(h1:m.kn=n.kn)(h2:m.has=n.has)(h3:m.f=n.f)(h4:m.l=n.l)(h5:z2D m.fa=true):z4l n (m.begin,z02):=by
 unfold Nd.begin
 refine⟨⟨h5,fun hh => ?_,fun hp => ?_,fun _=>⟨by simp,by simp,?_⟩,fun _=>zG (p:=3) (by omega)⟩,h1,?_,fun _=>⟨h3,h4⟩,fun hk => ?_,fun hk => ?_,by show(0:Nat)<=4;omega⟩
 ·show Fr m.f m.l/\(m.f.K=3->m.kn=true)
  rw[h3,h4,h1]
  exact h.fr (by rw[<- h2];exact hh)
 ·have hq9:(3:Nat)=2:=hp
  omega
 ·show(zW (scS m.kn [0])).k < 2
  cases m.kn<;>decide
 ·show m.has=(n.has && !((0:Nat)==1))
  rw[h2];simp
 ·have hq9:(0:Nat)=2:=hk
  omega
 ·have hq9:(0:Nat)=1:=hk
  omega
theorem z9P{n:Nd}(h:n.Ok){b:Nat}(hb:b<=1):z4l n (n.step b):=by
 have hcn:=h.cn
 have pl:∀m:Nd,m.kn=n.kn->m.has=n.has->m.f=n.f->m.l=n.l->z2D m.fa=true->m.ph≠2->m.ph≠3->z0T m.ph m.c->z4l n (m,z02):=fun m a1 a2 a3 a4 a5 a6 a7 a8=>z79 h a1 a2 a3 a4 a5 a6 a7 a8 z02 (.inl rfl)
 have hfa:=h.fa
 unfold Nd.step
 by_cases p0:n.ph=0
 ·rw[if_pos p0]
  have hc:=hcn (by omega)
  rw[p0]at hc
  unfold z0T at hc
  unfold Nd.cnt
  split
  ·exact pl _ rfl rfl rfl rfl hfa (by show n.ph≠2;omega) (by show n.ph≠3;omega) (by show z0T n.ph 0;exact zG (by omega))
  ·split
   ·exact pl _ rfl rfl rfl rfl hfa (by show(1:Nat)≠2;omega) (by show(1:Nat)≠3;omega) (zG (p:=1) (by omega))
   ·exact pl _ rfl rfl rfl rfl hfa (by show n.ph≠2;omega) (by show n.ph≠3;omega) (by show z0T n.ph (n.c+1);rw[p0];unfold z0T;omega)
 rw[if_neg p0]
 by_cases p1:n.ph=1
 ·rw[if_pos p1]
  by_cases hh:n.has=true
  ·rw[if_pos hh]
   have hF:=(h.fr hh).1
   exact zej h (m:={ n with x:=[],snd:=true,ph:=2,c:=0 }) rfl rfl rfl rfl hfa rfl hh (by show 0 < _+10;omega) (by show []=List.take 0 _;simp) hb
  ·rw[if_neg hh]
   split
   ·exact z7k h (m:={ n with snd:=false }) rfl rfl rfl rfl hfa
   ·have hc:=hcn (by omega)
    exact pl _ rfl rfl rfl rfl hfa (by show n.ph≠2;omega) (by show n.ph≠3;omega) hc
 rw[if_neg p1]
 by_cases p2:n.ph=2
 ·rw[if_pos p2]
  obtain⟨q1,q2,q3⟩:=h.p2 p2
  exact zej h rfl rfl rfl rfl hfa p2 q1 q2 q3 hb
 rw[if_neg p2]
 have hc:=hcn p2
 by_cases p3:n.ph=3
 ·rw[if_pos p3]
  obtain⟨q1,q2,q3⟩:=h.p3 p3
  have hc0:n.c=0:=by unfold z0T at hc;omega
  refine zaP h (m:={ n with x:=n.x++[b] }) rfl rfl rfl rfl hfa p3 hc0 n.x b rfl (fun c hcm => ?_) q3 0 (.inl rfl)
  rcases List.mem_append.1 hcm with hcm | hcm
  ·exact q2 c hcm
  ·rw[List.mem_singleton]at hcm
   omega
 rw[if_neg p3]
 by_cases p4:n.ph=4
 ·rw[if_pos p4]
  split
  ·exact pl _ rfl rfl rfl rfl hfa (by show(6:Nat)≠2;omega) (by show(6:Nat)≠3;omega) (zG (p:=6) (by omega))
  ·exact pl _ rfl rfl rfl rfl hfa (by show(8:Nat)≠2;omega) (by show(8:Nat)≠3;omega) (zG (p:=8) (by omega))
 rw[if_neg p4]
 by_cases p56:n.ph=5\/n.ph=6
 ·rw[if_pos p56]
  have h6:n.c < 6:=by unfold z0T at hc;omega
  split
  ·exact pl _ rfl rfl rfl rfl hfa (by show(7:Nat)≠2;omega) (by show(7:Nat)≠3;omega) (zG (p:=7) (by omega))
  ·exact pl _ rfl rfl rfl rfl hfa (by show n.ph≠2;omega) (by show n.ph≠3;omega) (by show z0T n.ph (n.c+1);unfold z0T;omega)
 rw[if_neg p56]
 by_cases p7:n.ph=7
 ·rw[if_pos p7]
  have h8:n.c < 8:=by unfold z0T at hc;omega
  unfold Nd.cnt
  split
  ·exact pl _ rfl rfl rfl rfl hfa (by show n.ph≠2;omega) (by show n.ph≠3;omega) (by show z0T n.ph 0;exact zG (by omega))
  ·split
   ·exact pl _ rfl rfl rfl rfl hfa (by show(8:Nat)≠2;omega) (by show(8:Nat)≠3;omega) (zG (p:=8) (by omega))
   ·exact pl _ rfl rfl rfl rfl hfa (by show n.ph≠2;omega) (by show n.ph≠3;omega) (by show z0T n.ph (n.c+1);unfold z0T;omega)
 rw[if_neg p7]
 by_cases p8:n.ph=8
 ·rw[if_pos p8]
  have h3:n.c < 3:=by unfold z0T at hc;omega
  unfold Nd.pause
  split
  ·split
   ·exact z7k h rfl rfl rfl rfl hfa
   ·exact pl _ rfl rfl rfl rfl hfa (by show(6:Nat)≠2;omega) (by show(6:Nat)≠3;omega) (zG (p:=6) (by omega))
  ·split
   ·refine pl _ rfl rfl rfl rfl hfa ?_ ?_ ?_
    ·show(if n.snd=true/\z2L n.fa=1 then 9 else 1)≠2
     split<;>omega
    ·show(if n.snd=true/\z2L n.fa=1 then 9 else 1)≠3
     split<;>omega
    ·show z0T (if n.snd=true/\z2L n.fa=1 then 9 else 1) 0
     exact zG (by split<;>omega)
   ·exact pl _ rfl rfl rfl rfl hfa (by show n.ph≠2;omega) (by show n.ph≠3;omega) (by show z0T n.ph (n.c+1);unfold z0T;omega)
 rw[if_neg p8]
 by_cases p9:n.ph=9
 ·rw[if_pos p9]
  have h8:n.c < 8:=by unfold z0T at hc;omega
  split
  ·exact z7k h rfl rfl rfl rfl hfa
  ·unfold Nd.cnt
   split
   ·exact pl _ rfl rfl rfl rfl hfa (by show n.ph≠2;omega) (by show n.ph≠3;omega) (by show z0T n.ph 0;exact zG (by omega))
   ·split
    ·exact pl _ rfl rfl rfl rfl hfa (by show(1:Nat)≠2;omega) (by show(1:Nat)≠3;omega) (zG (p:=1) (by omega))
    ·exact pl _ rfl rfl rfl rfl hfa (by show n.ph≠2;omega) (by show n.ph≠3;omega) (by show z0T n.ph (n.c+1);unfold z0T;omega)
 rw[if_neg p9]
 by_cases p11:n.ph=11
 ·rw[if_pos p11]
  have h176:n.c < 176:=by unfold z0T at hc;omega
  unfold Nd.back
  by_cases hq:(if b=0 then n.c / 11*11 else n.c+1)=176
  ·rw[if_pos hq]
   exact pl { n with fa:=z14 n.fa 6,ph:=1,c:=0 } rfl rfl rfl rfl (z5a hfa 6) (by show(1:Nat)≠2;omega) (by show(1:Nat)≠3;omega) (zG (p:=1) (by omega))
  ·rw[if_neg hq]
   refine pl { n with c:=if b=0 then n.c / 11*11 else n.c+1 } rfl rfl rfl rfl hfa (by show n.ph≠2;omega) (by show n.ph≠3;omega) ?_
   show z0T n.ph (if b=0 then n.c / 11*11 else n.c+1)
   have hlt:(if b=0 then n.c / 11*11 else n.c+1) < 176:=by
    by_cases h0:b=0
    ·rw[if_pos h0];omega
    ·rw[if_neg h0]at hq ⊢;omega
   unfold z0T
   omega
 rw[if_neg p11]
 exact pl n rfl rfl rfl rfl hfa p2 p3 hc
theorem zdc{n:Nd}(h:n.Ok){f:Hd}{l:List Nat}(hW:WdX f)(hb:∀x∈l,x < 256)(h2:n.ph=2->n.has=true):(n.load f l).Ok:=by
 unfold Nd.load
 split
 ·rename_i he
  unfold Nd.loadE at he
  split at he
  ·cases he
  ·rename_i hok
   split at he
   ·cases he
   ·rename_i hk
    split at he
    ·cases he
    ·rename_i hh
     refine⟨h.fa,fun _=>⟨⟨by simpa using hok,hW,hb⟩,fun h3 => ?_⟩,fun hp=>absurd (h2 hp) (by simpa using hh),h.p3,h.cn⟩
     show n.kn=true
     cases hkn:n.kn with
     | true=>rfl
     | false=>exact absurd ⟨h3,hkn⟩ hk
 ·exact h
theorem z86(n:Nd)(kind:Nat):(n.heard kind).1.x=n.x:=by
 unfold Nd.heard
 (repeat' split)<;>rfl
theorem zaA(n:Nd):n.goOn.1.x=n.x:=by
 unfold Nd.goOn
 split<;>rfl
theorem zaQ(n:Nd)(b:Nat):(n.send b).1.x=n.x++[b]:=by
 unfold Nd.send
 split
 ·split
  ·rfl
  ·rw[zaA]
 ·split
  ·rw[zaA]
  ·split
   ·rw[z86]
   ·rfl
theorem zaa(n:Nd)(b most p:Nat):(n.cnt b most p).x=n.x:=by
 unfold Nd.cnt
 (repeat' split)<;>rfl
theorem zaR(n:Nd)(b:Nat):(n.step b).1.x.length<=n.x.length+1:=by
 unfold Nd.step
 split
 ·rw[zaa];omega
 split
 ·split
  ·rw[zaQ];simp
  ·show(if b=0 then Nd.begin { n with snd:=false } else { n with snd:=false }).x.length<=_
   split
   ·show [0].length<=_
    simp
   ·show n.x.length<=_
    omega
 split
 ·rw[zaQ];simp
 split
 ·rw[z86];simp
 split
 ·show n.x.length<=_
  omega
 split
 ·show(if n.c+1=6 then n.to 7 else { n with c:=n.c+1 }).x.length<=_
  split
  ·show n.x.length<=_
   omega
  ·show n.x.length<=_
   omega
 split
 ·rw[zaa];omega
 split
 ·show(n.pause b).x.length<=_
  unfold Nd.pause
  split
  ·split
   ·show [0].length<=_
    simp
   ·show n.x.length<=_
    omega
  ·split
   ·show n.x.length<=_
    omega
   ·show n.x.length<=_
    omega
 split
 ·show(if b=0 then n.begin else n.cnt b 8 1).x.length<=_
  split
  ·show [0].length<=_
   simp
  ·rw[zaa];omega
 split
 ·show(n.back b).x.length<=_
  unfold Nd.back
  by_cases h:(if b=0 then n.c / 11*11 else n.c+1)=176
  ·rw[if_pos h]
   show n.x.length<=_
   omega
  ·rw[if_neg h]
   show n.x.length<=_
   omega
 ·show n.x.length<=_
  omega
theorem z3B(n:Nd)(h:n.ph=8):n.out=1/\n.step 1=(if n.c+1=3 then n.to (if n.snd=true/\z2L n.fa=1 then 9 else 1)else { n with c:=n.c+1 },z02):=by
 constructor
 ·unfold Nd.out
  rw[if_neg (by omega),if_neg (by omega),if_neg (by omega),if_neg (by omega),if_neg (by omega)]
 ·unfold Nd.step Nd.pause
  rw[if_neg (by omega),if_neg (by omega),if_neg (by omega),if_neg (by omega),if_neg (by omega),if_neg (by omega),if_neg (by omega),if_pos h,if_neg (by omega)]
theorem zat(n:Nd)(h:n.ph=4):n.out=1/\n.step 1=(n.to 8,z02):=by
 constructor
 ·unfold Nd.out
  rw[if_neg (by omega),if_neg (by omega),if_neg (by omega),if_neg (by omega),if_neg (by omega)]
 ·unfold Nd.step
  rw[if_neg (by omega),if_neg (by omega),if_neg (by omega),if_neg (by omega),if_pos h,if_neg (by omega)]
def prA(f:Hd)(l:List Nat)(i:Nat):Nd :=
 if i=0 then { Nd.joined true with has:=true,f:=f,l:=l }
 else if i < (zn f l).length+10 then Nd.atS { Nd.joined true with has:=true,f:=f,l:=l } i
 else if i < (zn f l).length+13 then { Nd.joined true with f:=f,l:=l,ph:=8,c:=i - ((zn f l).length+10),x:=onW f l,snd:=true }
 else { Nd.joined true with f:=f,l:=l,x:=onW f l,snd:=true }
def prB(f:Hd)(l:List Nat)(i:Nat):Nd :=
 if i=0 then Nd.joined true
 else if i < (zn f l).length+9 then Nd.atR (Nd.joined true) ((onW f l).take i)
 else if i=(zn f l).length+9 then { Nd.joined true with ph:=4,x:=(onW f l).take i }
 else if i < (zn f l).length+13 then { Nd.joined true with ph:=8,c:=i - ((zn f l).length+10),x:=(onW f l).take ((zn f l).length+9) }
 else { Nd.joined true with x:=(onW f l).take ((zn f l).length+9) }
def prW(f:Hd)(l:List Nat)(i:Nat):Nat:=if i < (zn f l).length+10 then(onW f l).getD i 0 else 1
theorem zgg {f:Hd} {l:List Nat} (h:Fr f l) (hi:i < (zn f l).length+13) :
    (prA f l i).out=(if i < (zn f l).length+10 then(wF f l).getD i 0 else 1)/\(prA f l i).step (prW f l i)=(prA f l (i+1),if i+1=(zn f l).length+10 then⟨1,0,f,l⟩else z02):=by
 have hl:=h.raw_len
 unfold prW
 by_cases h0:i=0
 ·subst h0
  rw[if_pos (by omega),if_pos (by omega),if_neg (by omega)]
  have hs:=h.sof
  have b:=h.bits 0 (by omega)
  rw[if_pos (by omega),if_pos (by omega),hs]at b
  rw[b.1,b.2]
  unfold prA
  rw[if_pos rfl,if_neg (by omega),if_pos (by omega)]
  exact z5K (n:={ Nd.joined true with has:=true,f:=f,l:=l }) h rfl rfl
 by_cases h1:i < (zn f l).length+10
 ·rw[if_pos h1,if_pos h1]
  unfold prA
  rw[if_neg h0,if_pos h1,if_neg (by omega)]
  obtain⟨g1,g2⟩:=zgE (n:={ Nd.joined true with has:=true,f:=f,l:=l }) h h1
  refine⟨g1,g2.trans ?_⟩
  by_cases h2:i+1 < (zn f l).length+10
  ·rw[if_pos h2,if_pos h2,if_neg (by omega)]
  ·rw[if_neg h2,if_neg h2,if_pos (by omega),if_pos (by omega)]
   simp only[show i+1 - ((zn f l).length+10)=0 by omega]
   rfl
 ·rw[if_neg h1,if_neg h1,if_neg (by omega)]
  unfold prA
  rw[if_neg h0,if_neg h1,if_pos hi,if_neg (by omega),if_neg (by omega)]
  obtain⟨g1,g2⟩:=z3B { Nd.joined true with f:=f,l:=l,ph:=8,c:=i - ((zn f l).length+10),x:=onW f l,snd:=true } rfl
  refine⟨g1,g2.trans ?_⟩
  by_cases h2:i+1 < (zn f l).length+13
  ·rw[if_neg (by show ¬i - _+1=3;omega),if_pos h2]
   simp only[show i+1 - ((zn f l).length+10)=i - ((zn f l).length+10)+1 by omega]
  ·rw[if_pos (by show i - _+1=3;omega),if_neg h2]
   rfl
theorem zgZ {f:Hd} {l:List Nat} (h:Fr f l) (hi:i < (zn f l).length+13) :
    (prB f l i).out=(if i=(zn f l).length+1 then 0 else 1)/\(prB f l i).step (prW f l i)=(prB f l (i+1),if i+1=(zn f l).length+9 then⟨2,0,f,l⟩else z02):=by
 have hl:=h.raw_len
 unfold prW
 by_cases h0:i=0
 ·subst h0
  rw[if_neg (by omega),if_pos (by omega),if_neg (by omega)]
  have hs:=h.sof
  have b:=h.bits 0 (by omega)
  rw[if_pos (by omega),if_pos (by omega),hs]at b
  rw[b.2]
  unfold prB
  rw[if_pos rfl,if_neg (by omega),if_pos (by omega)]
  exact z9a f l h (n:=Nd.joined true) rfl rfl
 by_cases h1:i < (zn f l).length+9
 ·rw[show(if i < (zn f l).length+10 then(onW f l).getD i 0 else 1)=(onW f l).getD i 0 from if_pos (by omega)]
  unfold prB
  rw[if_neg h0,if_pos h1,if_neg (show ¬i+1=0 by omega)]
  obtain⟨g1,g2⟩:=zb7 (n:=Nd.joined true) h (fun _=>rfl) (by omega) h1
  refine⟨g1,g2.trans ?_⟩
  by_cases h2:i+1 < (zn f l).length+9
  ·rw[if_pos h2,if_pos h2,if_neg (by omega)]
  ·rw[if_neg h2,if_neg h2,if_pos (show i+1=(zn f l).length+9 by omega),if_pos (show i+1=(zn f l).length+9 by omega)]
   rfl
 rw[if_neg (show ¬i=(zn f l).length+1 by omega),if_neg (show ¬i+1=(zn f l).length+9 by omega)]
 by_cases h2:i=(zn f l).length+9
 ·have b:=(h.bits i (by omega)).2
  rw[if_neg (by omega),if_neg (by omega)]at b
  rw[if_pos (by omega),b]
  unfold prB
  rw[if_neg h0,if_neg h1,if_pos h2,if_neg (by omega),if_neg (by omega),if_neg (by omega),if_pos (by omega)]
  obtain⟨g1,g2⟩:=zat { Nd.joined true with ph:=4,x:=(onW f l).take i } rfl
  refine⟨g1,g2.trans ?_⟩
  simp only[show i+1 - ((zn f l).length+10)=0 by omega,<- h2]
  rfl
 ·rw[if_neg (by omega)]
  unfold prB
  rw[if_neg h0,if_neg h1,if_neg h2,if_pos hi,if_neg (by omega),if_neg (by omega),if_neg (by omega)]
  obtain⟨g1,g2⟩:=z3B { Nd.joined true with ph:=8,c:=i - ((zn f l).length+10),x:=(onW f l).take ((zn f l).length+9) } rfl
  refine⟨g1,g2.trans ?_⟩
  by_cases h3:i+1 < (zn f l).length+13
  ·rw[if_neg (by show ¬i - _+1=3;omega),if_pos h3]
   simp only[show i+1 - ((zn f l).length+10)=i - ((zn f l).length+10)+1 by omega]
  ·rw[if_pos (by show i - _+1=3;omega),if_neg h3]
   rfl
theorem zkc{f:Hd}{l:List Nat}(h:Fr f l)(hi:i < (zn f l).length+13):(prA f l i).out<=1/\(prB f l i).out<=1/\min (prA f l i).out (prB f l i).out=prW f l i:=by
 rw[(zgg h hi).1,(zgZ h hi).1]
 unfold prW
 by_cases h1:i < (zn f l).length+10
 ·rw[if_pos h1,if_pos h1]
  refine⟨?_,by split<;>omega,zjk h h1⟩
  have:=(h.bits i h1).1
  have:=h.raw_bit i
  rw[(h.bits i h1).1]
  split<;>omega
 ·rw[if_neg h1,if_neg h1,if_neg (by omega)]
  exact⟨by omega,by omega,rfl⟩
def zjG(x:List Nat):Nat:=if zl x=1 then(zq x).2 else 0
theorem z8e(x:List Nat)(b:Nat):zjG (x++[b])=if b=1 then(if zl x=1 then(zq x).2+1 else 1)else 0:=by
 unfold zjG
 rw[z0I]
 by_cases h:b=1
 ·rw[if_pos h,if_pos h,z07]
  unfold z1I zl
  subst h
  by_cases h2:(zq x).1=1
  ·rw[if_pos h2.symm,if_pos h2]
  ·rw[if_neg (fun e=>h2 e.symm),if_neg h2]
 ·rw[if_neg h,if_neg h]
theorem zgP(n:Nd)(h:n.ph=0)(b:Nat):n.out=1/\n.step b=(n.cnt b 11 1,z02):=by
 constructor
 ·unfold Nd.out
  rw[if_neg (by omega),if_neg (by omega),if_neg (by omega),if_neg (by omega),if_neg (by omega)]
 ·unfold Nd.step
  rw[if_pos h]
theorem zke{f:Hd}{l:List Nat}(hk:f.K=3):zn f l=rwX f l:=by
 unfold zn
 rw[if_neg (by omega),if_pos hk]
theorem ze8{f:Hd}{l:List Nat}(hk:f.K=3):zjG (zn f l)=0/\∃y,zn f l=zh (zi f.I.toNat)++y:=by
 rw[zke hk]
 constructor
 ·rw[show rwX f l=((zh (zi f.I.toNat)++zy)++zv 8 false 1 (bxC f l)++[0,1,1])++[0] by simp[rwX,z0u],z8e,if_neg (by omega)]
 ·exact⟨zy++(zv 8 false 1 (bxC f l)++z0u),by simp[rwX]⟩
def z1V(s:Sta)(v:Value):Value := .agg #[.int .i64 s.k,.int .i64 s.e,.int .i64 s.f.K,.int .u32 s.f.I,.bool s.f.X,.bool s.f.R,.bool s.f.B,.bool s.f.E,.bool s.f.S,.int .u8 s.f.D,.int .u8 s.f.V,.int .u32 s.f.A,v]
def zma(s:Sta)(er:Nat)(e:Ending)(w':World):Prop:=∃a c,e = .returned (.tuple #[z1V s (.slice a s.l.length c),.int .i64 er])/\Bs w' a c s.l
def zl4(At:World->Value->Bool->List Nat->(Nat->Prop)->Prop)(w:World)(v:Value)(kn:Bool)(x:List Nat)(F:Nat->Prop)(e:Ending)(w':World):Prop :=
 ∃F',(∃a c,e = .returned (.tuple #[z1V (zW (scS kn x)) (.slice a (zW (scS kn x)).l.length c),.int .i64 0])/\Bs w' a c (zW (scS kn x)).l/\∀b o t,a=some ⟨b,o,t⟩->F' b\/w.heap.size<=b) /\
  At w' v kn x F'/\Kp F w w'/\∀k,F' k->F k\/w.heap.size<=k
theorem Bs.keepKp{c:Nat}{l:List Nat}(h:Bs w a c l)(hk:Kp G w w')(hn:∀b o t,a=some ⟨b,o,t⟩->¬G b):Bs w' a c l:=by
 refine⟨h.hcap,h.hmax,h.hbyte,fun hl => ?_⟩
 obtain⟨b,o,ha,hc⟩:=h.hcells hl
 refine⟨b,o,ha,fun j hj => ?_⟩
 have h1:=hc j hj
 have hb:=World.block_lt_of_cell? _ _ h1
 have e:=hk.block b hb (hn b o none ha)
 rw[<- h1]
 simp only[World.cell?,e]
def evV(e:Ev)(v:Value):Value:=z1V ⟨e.k,e.e,e.f,e.l⟩ v
def stV(n:Nd):Value := .agg #[.int .i64 (n.ph:Nat),.int .i64 (n.count:Nat),.int .i64 n.fa.T,.int .i64 n.fa.R,.bool n.fa.O,.bool n.has]
def zll(At:World->Value->Nd->(Nat->Prop)->Prop)(w:World)(kn:Bool)(e:Ending)(w':World):Prop :=
 ∃v F,e = .returned v/\At w' v (Nd.new kn) F/\(∀k,F k->w.heap.size<=k)/\Nb w w'
def zdh(At:World->Value->Nd->(Nat->Prop)->Prop)(w:World)(v:Value)(r:Nd × Ev)(F:Nat->Prop)(e:Ending)(w':World):Prop :=
 ∃F',(∃a c,e = .returned (.tuple #[evV r.2 (.slice a r.2.l.length c),.int .i64 0])/\Bs w' a c r.2.l/\∀b o t,a=some ⟨b,o,t⟩->¬F' b/\(F b\/w.heap.size<=b)) /\
  At w' v r.1 F'/\Kp F w w'/\∀k,F' k->F k\/w.heap.size<=k
def zjP(At:World->Value->Nd->(Nat->Prop)->Prop)(w:World)(v:Value)(n:Nd)(u:Value)(F:Nat->Prop)(e:Ending)(w':World):Prop :=
 ∃F',e = .returned u/\At w' v n F'/\Kp F w w'/\∀k,F' k->F k\/w.heap.size<=k
def ziV(r:Nd × Ev):Prop:=(r.2.k=2->r.1.ph=4)/\(r.2.k=1->r.1.ph=8)/\(r.2.k≠1->r.2.k≠2->r.2.f=noF/\r.2.l=[])
theorem z4L(m:Nd)(e:Ev)(h:e.k≠1)(h2:e.k≠2)(hf:e.f=noF/\e.l=[]):ziV (m,e):=⟨fun q=>absurd q h2,fun q=>absurd q h,fun _ _=>hf⟩
theorem zgJ(m:Nd):ziV (m,z02):=z4L m z02 (by decide) (by decide) ⟨rfl,rfl⟩
theorem z7u(n:Nd)(ev:Int)(er:Nat):ziV (n.wrong ev er):=z4L _ ⟨4,er,noF,[]⟩ (by show(4:Nat)≠1;omega) (by show(4:Nat)≠2;omega) ⟨rfl,rfl⟩
theorem zaz(n:Nd)(kind:Nat)(hk:kind=0\/kind=3):ziV (n.heard kind):=by
 unfold Nd.heard
 split
 ·exact⟨fun _=>rfl,fun q=>by have q:(2:Nat)=1:=q;omega,fun _ q=>absurd rfl q⟩
 split
 ·exact z7u _ _ _
 split
 ·exact z4L _ ⟨kind,0,noF,[]⟩ (by show kind≠1;omega) (by show kind≠2;omega) ⟨rfl,rfl⟩
 ·exact z4L _ ⟨kind,0,noF,[]⟩ (by show kind≠1;omega) (by show kind≠2;omega) ⟨rfl,rfl⟩
theorem zeY(n:Nd):ziV n.goOn:=by
 unfold Nd.goOn
 split
 ·exact zgJ _
 ·exact⟨fun q=>by have q:(1:Nat)=2:=q;omega,fun _=>rfl,fun q _=>absurd rfl q⟩
theorem zdq(n:Nd)(b:Nat):ziV (n.send b):=by
 unfold Nd.send
 split
 ·split
  ·exact z7u _ _ _
  ·exact zeY _
 split
 ·exact zeY _
 split
 ·exact zaz _ 3 (.inr rfl)
 ·exact z7u _ _ _
theorem zda(n:Nd)(b:Nat):ziV (n.step b):=by
 unfold Nd.step
 split
 ·exact zgJ _
 split
 ·split
  ·exact zdq _ _
  ·exact zgJ _
 split
 ·exact zdq _ _
 split
 ·exact zaz _ 0 (.inl rfl)
 (repeat' split)<;>exact zgJ _
theorem zlV(kn:Bool)(k:Nat):(Nd.ones kn k).Ok:=by
 induction k with
 | zero=>exact z6n kn
 | succ k ih =>
   have:=(z9P ih (b:=1) (by omega)).ok
   rw[(zdg kn k).2]at this
   exact this
theorem Fr.w_bit{f:Hd}{l:List Nat}(h:Fr f l)(hi:i < (zn f l).length+10):(wF f l).getD i 0<=1:=by
 have:=h.raw_bit i
 rw[(h.bits i hi).1]
 split<;>omega
theorem zic{n:Nd}(h:n.Ok):n.out<=1:=by
 unfold Nd.out
 split
 ·split<;>omega
 ·split
  ·rename_i h2
   obtain⟨q1,q2,_⟩:=h.p2 h2
   exact(h.fr q1).1.w_bit q2
  ·(repeat' split)<;>omega
theorem zdV{f:Hd}{l:List Nat}(h:Fr f l)(i:Nat)(hi:i < (zn f l).length+13):prW f l i<=1:=by
 obtain⟨h1,h2,h3⟩:=zkc h hi
 omega
def evC(e:Ev)(v:Value):List Value := .int .i64 (e.k:Nat) :: .int .i64 (e.e:Nat)::(e.f.cs v).toList
structure z40(w:World)(a:Option Addr)(cap:Nat)(es:List Ev)(P:Nat->Prop):Prop where
 hcap:es.length<=cap
 hmax:cap<=maxLen
 hcells:0 < es.length->∃b,a=some ⟨b,0,none⟩/\P b/\∀j,j < es.length->∃a' c',(∀i u,(evC (es.getD j z02) (.slice a' (es.getD j z02).l.length c'))[i]? = some u->w.cell? ⟨b,j*13+i,none⟩=some u)/\Bs w a' c' (es.getD j z02).l/\(∀b' o t,a'=some ⟨b',o,t⟩->0 < (es.getD j z02).l.length->P b')
theorem Bs.keepKp0{c:Nat}{l:List Nat}(h:Bs w a c l)(hk:Kp G w w')(hn:∀b o t,a=some ⟨b,o,t⟩->0 < l.length->¬G b):Bs w' a c l:=by
 by_cases hl:0 < l.length
 ·exact h.keepKp hk (fun b o t e=>hn b o t e hl)
 ·exact⟨h.hcap,h.hmax,h.hbyte,fun q=>absurd q hl⟩
theorem z40.keep{es:List Ev}(h:z40 w a cap es P)(hk:Kp F w w')(hn:∀k,P k->¬F k):z40 w' a cap es P:=by
 refine⟨h.hcap,h.hmax,fun hl => ?_⟩
 obtain⟨b,ha,hp,hc⟩:=h.hcells hl
 refine⟨b,ha,hp,fun j hj => ?_⟩
 obtain⟨a',c',h1,h2,h3⟩:=hc j hj
 exact⟨a',c',fun i u hu=>by
  have q:=h1 i u hu
  have hlt:=World.block_lt_of_cell? _ _ q
  have e:=hk.block b hlt (hn b hp)
  rw[<- q]
  simp only[World.cell?,e],h2.keepKp0 hk (fun b' o t e hl=>hn b' (h3 b' o t e hl)),h3⟩
theorem z40.nb{es:List Ev}(h:z40 w a cap es P)(hb:Nb w w'):z40 w' a cap es P:=h.keep (F:=fun _=>False) (Kp.ofNb hb) (by simp)
theorem z40.at {b:Nat} {es:List Ev} (h:z40 w (some ⟨b,0,none⟩) cap es P) (hj:j < es.length) {k e:Nat} {K I:Int} {X R B E S:Bool} {D V A:Int} {l:List Nat} (hf:es.getD j z02=⟨k,e,⟨K,I,X,R,B,E,S,D,V,A⟩,l⟩) :
    ∃a' c',(w.cell? ⟨b,j*13,none⟩=some (.int .i64 (k:Nat))/\w.cell? ⟨b,j*13+1,none⟩=some (.int .i64 (e:Nat))/\w.cell? ⟨b,j*13+2,none⟩=some (.int .i64 K)/\w.cell? ⟨b,j*13+3,none⟩=some (.int .u32 I)/\w.cell? ⟨b,j*13+4,none⟩=some (.bool X)/\w.cell? ⟨b,j*13+5,none⟩=some (.bool R)/\w.cell? ⟨b,j*13+6,none⟩=some (.bool B)/\w.cell? ⟨b,j*13+7,none⟩=some (.bool E)/\w.cell? ⟨b,j*13+8,none⟩=some (.bool S)/\w.cell? ⟨b,j*13+9,none⟩=some (.int .u8 D)/\w.cell? ⟨b,j*13+10,none⟩=some (.int .u8 V)/\w.cell? ⟨b,j*13+11,none⟩=some (.int .u32 A)/\w.cell? ⟨b,j*13+12,none⟩=some (.slice a' l.length c')) /\
     Bs w a' c' l/\(∀b' o t,a'=some ⟨b',o,t⟩->0 < l.length->P b'):=by
 obtain⟨b',e',_,hc⟩:=h.hcells (by omega)
 simp only[Option.some.injEq,Addr.mk.injEq,and_true]at e'
 obtain⟨rfl,-⟩:=e'
 obtain⟨a',c',h1,h2,h3⟩:=hc j hj
 rw[hf]at h1 h2 h3
 exact⟨a',c',⟨h1 0 _ rfl,h1 1 _ rfl,h1 2 _ rfl,h1 3 _ rfl,h1 4 _ rfl,h1 5 _ rfl,h1 6 _ rfl,h1 7 _ rfl,h1 8 _ rfl,h1 9 _ rfl,h1 10 _ rfl,h1 11 _ rfl,h1 12 _ rfl⟩,h2,h3⟩
def dN:Nd:=Nd.new false
def z3e(ns:List Nd):Nat:=(ns.map Nd.out).foldl min 1
def z5z(W t j:Nat):Nat:=if t / 2^j%2=0 then W else 1 - W
def z2I(ns:List Nd)(t:Nat):List Nd:=(List.range ns.length).map fun j=>((ns.getD j dN).step (z5z (z3e ns) t j)).1
def z51(ns:List Nd)(t:Nat):List Ev:=(List.range ns.length).map fun j=>((ns.getD j dN).step (z5z (z3e ns) t j)).2
def z6d(line:List Nat):List Nat:=line.drop (line.length - 65536)
theorem z30(ns:List Nd)(t:Nat):(z2I ns t).length=ns.length:=by simp[z2I]
theorem z4T(ns:List Nd)(t:Nat):(z51 ns t).length=ns.length:=by simp[z51]
theorem z5h(ns:List Nd)(t:Nat)(h:j < ns.length):(z2I ns t).getD j dN=((ns.getD j dN).step (z5z (z3e ns) t j)).1:=by simp[z2I,List.getD,h]
theorem zf9{W t:Nat}(h:W<=1):z5z W t j<=1:=by unfold z5z;split<;>omega
theorem z8H(W j:Nat):z5z W 0 j=W:=by unfold z5z;rw[if_pos (by simp)]
theorem z6X{α:Type}(ns:List Nd)(g:Nd->α):(List.range ns.length).map (fun j=>g (ns.getD j dN))=ns.map g:=by
 apply List.ext_getElem
 ·simp
 ·intro i h1 h2
  simp at h1 h2
  simp[List.getD,h1]
theorem zbP(ns:List Nd):z2I ns 0=ns.map fun n=>(n.step (z3e ns)).1:=by
 unfold z2I
 simp only[z8H]
 exact z6X ns fun n=>(n.step (z3e ns)).1
theorem zeo(ns:List Nd):z51 ns 0=ns.map fun n=>(n.step (z3e ns)).2:=by
 unfold z51
 simp only[z8H]
 exact z6X ns fun n=>(n.step (z3e ns)).2
theorem zdT(ns:List Nd):z3e ns<=1:=by
 unfold z3e
 have key:∀(os:List Nat) (a:Nat),os.foldl min a<=a:=by
  intro os
  induction os with
  | nil=>intro a;exact Nat.le_refl _
  | cons o os ih=>intro a;rw[List.foldl_cons];exact Nat.le_trans (ih _) (Nat.min_le_left _ _)
 exact key _ 1
def z26(ns:List Nd):Prop:=∀j,j < ns.length->(ns.getD j dN).Ok
theorem z26.next{ns:List Nd}(h:z26 ns)(t:Nat):z26 (z2I ns t):=fun j hj=>by
 rw[z30]at hj
 rw[z5h ns t hj]
 exact(z9P (h j hj) (zf9 (zdT ns))).ok
def za5(k:Nat)(ns:List Nd):Prop:=∀j,j < ns.length->(ns.getD j dN).x.length<=k
def zm8(At:World->Value->List Nd->List Nat->(Nat->Prop)->Prop)(w:World)(kns:List Bool)(e:Ending)(w':World):Prop :=
 ∃R F,e = .returned (.tuple #[.pointer (some ⟨R,0,none⟩),.int .i64 0])/\At w' (.pointer (some ⟨R,0,none⟩)) (kns.map Nd.new) [] F/\(∀k,F k->w.heap.size<=k)/\Nb w w'
def zlj(At:World->Value->List Nd->List Nat->(Nat->Prop)->Prop)(w:World)(v:Value)(ns:List Nd)(line:List Nat)(u:Value)(F:Nat->Prop)(e:Ending)(w':World):Prop :=
 ∃F',e = .returned u/\At w' v ns line F'/\Kp F w w'/\∀k,F' k->F k\/w.heap.size<=k
def zlz(At:World->Value->List Nd->List Nat->(Nat->Prop)->Prop)(w:World)(v:Value)(ns:List Nd)(line:List Nat)(t:Nat)(F:Nat->Prop)(e:Ending)(w':World):Prop :=
 ∃F' a c P,e = .returned (.tuple #[.slice a (z51 ns t).length c,.int .i64 0])/\z40 w' a c (z51 ns t) P/\(∀k,P k->k < w'.heap.size/\¬F' k/\(F k\/w.heap.size<=k))/\At w' v (z2I ns t) (z6d (line++[z3e ns])) F'/\Kp F w w'/\∀k,F' k->F k\/w.heap.size<=k
end Go.Proofs.YtplbmlpdefpplaaGreatDoor
