/- What a row is (layer 9) looked at anew, as the document's Last does, on lists: it is what the automaton tells, of a row whose beginnings are none of them at an end. No program here. No conditions. What a row is (layer 9) looked at anew is what the automaton tells, of a row whose beginnings are none of them at an end. No program here. No conditions. What a row is (layer 9) looked at anew is what the automaton tells: step by step. No program here. No conditions. A node (layer 12) as plain data: what it drives, what a bit does; a frame sent, a frame received, bit by bit; one alone; one without a frame. No program here. No conditions but the fields' own widths. What is done is a frame that may be (layer 9); what is so of a node, whatever comes (layer 12). No program here. No conditions. What is so of a node, whatever comes (layer 12): its counters, its frame, its row, its count. No program here. No conditions. A node's row grows by one bit at most (layer 12). No program here. No conditions. Nodes (layer 12) as plain data: two of them, one with a frame; a third that doesn't know it. No program here. No conditions but the fields' own widths. What layer 9's contracts speak of: a status as a value, the answers of a row and of a machine. No program's own parts. No conditions. What layer 12's contracts speak of: events and states as values, what a call of a node leaves. No program's own parts. No conditions. Two nodes, one of them with a frame (layer 12): both are as nodes must be at each bit; rows are short. No program here. No conditions but the fields' own widths. What layer 13's contracts speak of: the events of a step as a slice, the nodes and the wire behind a step, what a call of a bus leaves. No program's own parts. No conditions. Nodes on a wire, on lists (layer 13): what an event says of its node; two nodes from New on, the one with a frame. No program here. No conditions but the fields' own widths. -/
import Derived.Test.YtkjjfnmeogpdbaaGreatDoorScK
import Derived.Test.YtkjjfnmeogpdbaaGreatDoorFaP
import Derived.Test.YtkjjfnmeogpdbaaGreatDoorGj
set_option maxHeartbeats 2000000
namespace Go.Proofs.YtkjjfnmeogpdbaaGreatDoor
set_option linter.unusedVariables false
set_option linter.unusedSimpArgs false
open Go.RowKit
def zgu(ok:Bool):Nat->List Nat->Nat
 | _,[]=>0
 | i,b::t=>if i=2/\ok=false then 6 else if i≠1/\b=0 then 5 else zgu ok (i+1) t
theorem zbO{l:List Nat}(hb:∀b∈l,b<=1)(i:Nat):zl l i=0\/zl l i=1:=by
 unfold zl
 by_cases hi:i < l.length
 ·have:=hb _ (List.getElem_mem hi)
  simp only[List.getD,List.getElem?_eq_getElem hi,Option.getD_some]
  omega
 ·simp[List.getD,List.getElem?_eq_none (by omega:l.length<=i)]
section
variable {kn:Bool} {B:Nat->(List Nat->Nat->Sta)->Sta} {x l:List Nat} {E:Sta} {pl:Nat->Nat}
end
end Go.Proofs.YtkjjfnmeogpdbaaGreatDoor
namespace Go.Proofs.YtkjjfnmeogpdbaaGreatDoor
set_option linter.unusedVariables false
set_option linter.unusedSimpArgs false
open Go.RowKit
structure HdJ(kn:Bool)(h:List Nat)(J:Jd):Prop where
 ok:okS h=true
 last:z0O h=false
 bit:∀b∈h,b<=1
 ne:zo h≠[]
 on:∀j,1<=j->j < (zo h).length->zy kn ((zo h).take j) = .on
 jd:zy kn (zo h)=J
theorem HdJ.put{kn:Bool}{h:List Nat}{J:Jd}(H:HdJ kn h J):zi (zo h)=h:=(putL_tell H.bit H.ok).1 H.last
def zft(kn:Bool)(u:List Nat)(ok:Bool)(f:Hd)(l:List Nat):Prop :=
 (HdJ kn u .cl/\ok=z1J 1 (zo u)/\f=clF (zo u)/\l=clD (zo u)) \/
 (∃h y,u=h++y/\HdJ kn h .fd/\(fgS 4 true (zm h) y).ok=true/\y.length=fdM h/\ok=z3V h y/\f=fdF (zo h)/\l=fdD (zo h)) \/
 (∃h y,u=h++(zC++(y++z0w))/\HdJ kn h .xl/\(fgS 8 false 1 y).ok=true/\z1x y=true/\ok=z4S h y/\f=xlF (zo h) (xo y)/\l=xlD (xo y))
def zdy(kn:Bool)(x:List Nat):Ph->Prop
 | .dyn x'=>x'=x/\okS x=true/\∀j,1<=j->j<=(zo x).length->zy kn ((zo x).take j) = .on
 | .fx h y=>x=h++y/\HdJ kn h .fd/\(fgS 4 true (zm h) y).ok=true/\y.length < fdM h
 | .xs h y=>x=h++y/\HdJ kn h .xl/\y.length < 4/\y=zC.take y.length
 | .xd h y=>x=h++(zC++y)/\HdJ kn h .xl/\(fgS 8 false 1 y).ok=true/\∀j,j<=y.length->z1x (y.take j)=false
 | .xe h y z=>x=h++(zC++(y++z))/\HdJ kn h .xl/\(fgS 8 false 1 y).ok=true/\z1x y=true/\z.length < 4/\z=z0w.take z.length
 | .tail ok f l t=>t.length<=8/\zgu ok 0 t=0/\∃u,x=u++t/\zft kn u ok f l
 | .fin _=>True
theorem z7C{s z:List Nat}{b:Nat}(hz:z=s.take z.length)(hl:z.length < s.length)(hb:b=s.getD z.length 0):z++[b]=s.take (z++[b]).length:=by
 rw[List.length_append,List.length_singleton,List.take_add_one,<- hz,hb]
 congr 1
 simp[List.getD,hl]
theorem zgM{s z:List Nat}(hs:s.length=4)(h:z=s.take z.length)(h4:z.length=4):z=s:=by
 rw[h4]at h
 rw[h,List.take_of_length_le (by omega)]
theorem zbj(ok:Bool)(b:Nat):∀(t:List Nat) (i:Nat),zgu ok i t=0->zgu ok i (t++[b])=if i+t.length=2/\ok=false then 6 else if i+t.length≠1/\b=0 then 5 else 0:=by
 intro t
 induction t with
 | nil=>intro i _;simp[zgu]
 | cons c t ih =>
   intro i h
   rw[List.cons_append]
   unfold zgu at h ⊢
   split at h
   ·omega
   ·rename_i h1
    rw[if_neg h1]
    split at h
    ·omega
    ·rename_i h2
     rw[if_neg h2,ih (i+1) h,List.length_cons]
     simp only[show i+1+t.length=i+(t.length+1) by omega]
theorem z5F:zC.length=4:=rfl
theorem z74:z0w.length=4:=rfl
theorem zcx{kn:Bool}{x:List Nat}{p:Ph}{b:Nat}(hx:∀c∈x++[b],c<=1)(h:zdy kn x p):zdy kn (x++[b]) (z07 kn p b):=by
 have hx':∀c∈x,c<=1:=fun c hc=>hx c (by simp[hc])
 cases p with
 | dyn y =>
   obtain⟨rfl,ho,hj⟩:=h
   simp only[z07]
   cases hf:full y with
   | true =>
     rw[if_pos rfl]
     split
     ·trivial
     ·rename_i hb
      refine⟨rfl,?_,?_⟩
      ·rw[z0X,ho,hf]
       simpa using hb
      ·rw[z0q,hf,if_pos rfl]
       exact hj
   | false =>
     rw[if_neg (by simp)]
     have ht:zo (y++[b])=zo y++[b]:=by rw[z0q,hf];simp
     have hs:okS (y++[b])=true:=by rw[z0X,ho,hf];rfl
     have hlast:z0O (y++[b])=false:=by rw[z27,hf]
     have hon:∀j,1<=j->j < (zo (y++[b])).length->zy kn ((zo (y++[b])).take j) = .on:=by
      intro j h1 h2
      rw[ht,List.length_append,List.length_singleton]at h2
      rw[ht,List.take_append_of_le_length (by omega)]
      exact hj j h1 (by omega)
     have hne:zo (y++[b])≠[]:=by rw[ht];simp
     have HJ:∀J,zy kn (zo y++[b])=J->HdJ kn (y++[b]) J:=fun J hJ=>⟨hs,hlast,hx,hne,hon,by rw[ht];exact hJ⟩
     cases hq:zy kn (zo y++[b]) with
     | on =>
       refine⟨rfl,hs,fun j h1 h2 => ?_⟩
       by_cases h3:j < (zo (y++[b])).length
       ·exact hon j h1 h3
       ·rw[List.take_of_length_le (by omega),ht]
        exact hq
     | bad=>trivial
     | alien=>trivial
     | cl =>
       refine⟨Nat.zero_le _,rfl,y++[b],by simp,.inl ⟨HJ _ hq,?_⟩⟩
       rw[ht]
       exact⟨rfl,rfl,rfl⟩
     | fd=>exact⟨by simp,HJ _ hq,rfl,by unfold fdM;split<;>decide⟩
     | xl=>exact⟨by simp,HJ _ hq,by decide,by simp⟩
 | fx h0 y =>
   obtain⟨rfl,H,ho,hl⟩:=h
   simp only[z07]
   cases hq:(fgS 4 true (zm h0) (y++[b])).ok with
   | false=>rw[if_neg (by simp)];trivial
   | true =>
     rw[if_pos rfl]
     split
     ·rename_i hm
      exact⟨Nat.zero_le _,rfl,h0++(y++[b]),by simp,.inr (.inl ⟨h0,y++[b],rfl,H,hq,hm,rfl,rfl,rfl⟩)⟩
     ·rename_i hm
      refine⟨by simp,H,hq,?_⟩
      rw[List.length_append,List.length_singleton]at hm ⊢
      omega
 | xs h0 y =>
   obtain⟨rfl,H,hl,hy⟩:=h
   simp only[z07]
   split
   ·rename_i hb
    have hs:=z7C hy (by rw[z5F];exact hl) hb
    split
    ·rename_i h3
     have h4:=zgM z5F hs (by rw[List.length_append,List.length_singleton,h3])
     refine⟨by rw[List.append_assoc,h4];simp,H,rfl,fun j hj => ?_⟩
     have:j=0:=by simpa using hj
     subst this
     rfl
    ·exact⟨by simp,H,by rw[List.length_append,List.length_singleton];omega,hs⟩
   ·trivial
 | xd h0 y =>
   obtain⟨rfl,H,ho,hj⟩:=h
   simp only[z07]
   cases hq:(fgS 8 false 1 (y++[b])).ok with
   | false=>rw[if_neg (by simp)];trivial
   | true =>
     rw[if_pos rfl]
     cases he:z1x (y++[b]) with
     | true =>
       rw[if_pos rfl]
       exact⟨by simp,H,hq,he,by decide,by simp⟩
     | false =>
       rw[if_neg (by simp)]
       refine⟨by simp,H,hq,fun j h1 => ?_⟩
       rw[List.length_append,List.length_singleton]at h1
       by_cases h2:j<=y.length
       ·rw[List.take_append_of_le_length h2]
        exact hj j h2
       ·rw[List.take_of_length_le (by rw[List.length_append,List.length_singleton];omega)]
        exact he
 | xe h0 y z =>
   obtain⟨rfl,H,ho,he,hl,hz⟩:=h
   simp only[z07]
   split
   ·rename_i hb
    have hs:=z7C hz (by rw[z74];exact hl) hb
    split
    ·rename_i h3
     have h4:=zgM z74 hs (by rw[List.length_append,List.length_singleton,h3])
     exact⟨Nat.zero_le _,rfl,h0++(zC++(y++(z++[b]))),by simp,.inr (.inr ⟨h0,y,by rw[h4],H,ho,he,rfl,rfl,rfl⟩)⟩
    ·exact⟨by simp,H,ho,he,by rw[List.length_append,List.length_singleton];omega,hs⟩
   ·trivial
 | tail ok f l t =>
   obtain⟨hl,ht,u,rfl,hF⟩:=h
   simp only[z07]
   by_cases h1:t.length=2/\ok=false
   ·rw[if_pos h1];trivial
   rw[if_neg h1]
   by_cases h2:t.length≠1/\b=0
   ·rw[if_pos h2];trivial
   rw[if_neg h2]
   by_cases h8:t.length=8
   ·rw[if_pos h8];trivial
   rw[if_neg h8]
   refine⟨by rw[List.length_append,List.length_singleton];omega,?_,u,by simp,hF⟩
   rw[zbj ok b t 0 ht,Nat.zero_add,if_neg h1,if_neg h2]
 | fin s=>trivial
theorem zew(kn:Bool){x:List Nat}:(∀c∈x,c<=1)->zdy kn x (scS kn x):=by
 refine zz (P:=fun x=>(∀c∈x,c<=1)->zdy kn x (scS kn x)) (fun _=>⟨rfl,rfl,fun j h1 h2 => ?_⟩) (fun x b ih hx => ?_) x
 ·have:j<=0:=h2
  omega
 ·rw[scS,z0j,<- scS]
  exact zcx hx (ih (fun c hc=>hx c (by simp[hc])))
end Go.Proofs.YtkjjfnmeogpdbaaGreatDoor
namespace Go.Proofs.YtkjjfnmeogpdbaaGreatDoor
set_option linter.unusedVariables false
set_option linter.unusedSimpArgs false
open Go.RowKit
theorem zgl{kn:Bool}{x:List Nat}:∀ {s:Sta},scS kn x = .fin s->2<=s.k:=by
 have key:∀s,scS kn x = .fin s->2<=s.k:=by
  refine zz (P:=fun x=>∀s,scS kn x = .fin s->2<=s.k) (fun s h=>(by cases h)) (fun x b ih => ?_) x
  intro s hs
  rw[scS,z0j,<- scS]at hs
  generalize scS kn x=p at *
  cases p with
  | dyn y =>
    simp only[z07]at hs
    split at hs
    ·split at hs
     ·cases hs;simp[z1j]
     ·cases hs
    ·cases hq:zy kn (zo y++[b])<;>rw[hq]at hs<;>simp only[z2F]at hs<;>cases hs<;>simp[z1j]
  | fx h y=>simp only[z07]at hs;(repeat' split at hs)<;>cases hs<;>simp[z1j]
  | xs h y=>simp only[z07]at hs;(repeat' split at hs)<;>cases hs<;>simp[z1j]
  | xd h y=>simp only[z07]at hs;(repeat' split at hs)<;>cases hs<;>simp[z1j]
  | xe h y z=>simp only[z07]at hs;(repeat' split at hs)<;>cases hs<;>simp[z1j]
  | tail ok f l t=>simp only[z07]at hs;(repeat' split at hs)<;>cases hs<;>simp[z1j]
  | fin s'=>exact ih s hs
 exact fun {s} h=>key s h
end Go.Proofs.YtkjjfnmeogpdbaaGreatDoor
namespace Go.Proofs.YtkjjfnmeogpdbaaGreatDoor
set_option linter.unusedVariables false
set_option linter.unusedSimpArgs false
open Go.RowKit
structure Ev where
 k:Nat
 e:Nat
 f:Hd
 l:List Nat
def z0W:Ev:=⟨0,0,noF,[]⟩
structure Nd where
 kn:Bool
 has:Bool
 f:Hd
 l:List Nat
 ph:Nat
 c:Nat
 x:List Nat
 pas:Bool
 snd:Bool
 fa:Fa
def Nd.new(kn:Bool):Nd:=⟨kn,false,noF,[],0,0,[],false,false,Fa.zero⟩
def Nd.to(n:Nd)(p:Nat):Nd:={ n with ph:=p,c:=0 }
def Nd.sta(n:Nd):Sta:=zT (scS n.kn n.x)
def Nd.out(n:Nd):Nat :=
 if n.ph=1 then(if n.has then 0 else 1)
 else if n.ph=2 then(wF n.f n.l).getD n.c 0
 else if n.ph=3 then(if n.sta.k=1 then 0 else 1)
 else if n.ph=5 then(if n.pas then 1 else 0)
 else if n.ph=6 then 0 else 1
def Nd.wrong(n:Nd)(ev:Int)(er:Nat):Nd × Ev :=
 ({ n with fa:=z0n n.fa ev,pas:=z1Y (z0n n.fa ev)==1,ph:=if(z0n n.fa ev).O then 10 else 5,c:=0 },⟨4,er,noF,[]⟩)
def Nd.heard(n:Nd)(kind:Nat):Nd × Ev :=
 if n.sta.k=2 then({ n with fa:=z0n n.fa 2,ph:=4,c:=0 },⟨2,0,n.sta.f,n.sta.l⟩)
 else if n.sta.k=3 then n.wrong 4 n.sta.e
 else if n.sta.k=4 then(n.to 0,⟨kind,0,noF,[]⟩)
 else(n,⟨kind,0,noF,[]⟩)
def Nd.goOn(n:Nd):Nd × Ev :=
 if n.c+1 < (wF n.f n.l).length then({ n with c:=n.c+1 },z0W)
 else({ n with has:=false,fa:=z0n n.fa 1,ph:=8,c:=0 },⟨1,0,n.f,n.l⟩)
def Nd.send(n:Nd)(b:Nat):Nd × Ev :=
 if n.c=z2V n.f n.l then(if b=1 then Nd.wrong { n with x:=n.x++[b] } 5 9 else Nd.goOn { n with x:=n.x++[b] })
 else if b=(wF n.f n.l).getD n.c 0 then Nd.goOn { n with x:=n.x++[b] }
 else if(wF n.f n.l).getD n.c 0=1/\n.c < z47 n.f n.l then Nd.heard { n with x:=n.x++[b],ph:=3,c:=0,snd:=false } 3
 else Nd.wrong { n with x:=n.x++[b] } 3 5
def Nd.cnt(n:Nd)(b most p:Nat):Nd:=if b=0 then { n with c:=0 } else if n.c+1=most then n.to p else { n with c:=n.c+1 }
def Nd.begin(n:Nd):Nd:={ n with ph:=3,c:=0,x:=[0] }
def Nd.pause(n:Nd)(b:Nat):Nd :=
 if b=0 then(if n.c=2 then n.begin else n.to 6)
 else if n.c+1=3 then n.to (if n.snd=true/\z1Y n.fa=1 then 9 else 1)else { n with c:=n.c+1 }
def Nd.back(n:Nd)(b:Nat):Nd :=
 if(if b=0 then n.c / 11*11 else n.c+1)=176 then { n with fa:=z0n n.fa 6,ph:=1,c:=0 } else { n with c:=if b=0 then n.c / 11*11 else n.c+1 }
def Nd.step(n:Nd)(b:Nat):Nd × Ev :=
 if n.ph=0 then(n.cnt b 11 1,z0W)
 else if n.ph=1 then(if n.has then Nd.send { n with x:=[],snd:=true,ph:=2,c:=0 } b else(if b=0 then Nd.begin { n with snd:=false } else { n with snd:=false },z0W))
 else if n.ph=2 then n.send b
 else if n.ph=3 then Nd.heard { n with x:=n.x++[b] } 0
 else if n.ph=4 then(n.to (if b=0 then 6 else 8),z0W)
 else if n.ph=5\/n.ph=6 then(if n.c+1=6 then n.to 7 else { n with c:=n.c+1 },z0W)
 else if n.ph=7 then(n.cnt b 8 8,z0W)
 else if n.ph=8 then(n.pause b,z0W)
 else if n.ph=9 then(if b=0 then n.begin else n.cnt b 8 1,z0W)
 else if n.ph=11 then(n.back b,z0W)
 else(n,z0W)
def Nd.loadE(n:Nd)(f:Hd)(l:List Nat):Nat:=if okF f l=false then 2 else if f.K=3/\n.kn=false then 10 else if n.has then 8 else 0
def Nd.load(n:Nd)(f:Hd)(l:List Nat):Nd:=if n.loadE f l=0 then { n with has:=true,f:=f,l:=l } else n
def Nd.dropB(n:Nd):Bool:=n.has && !(n.ph==2)
def Nd.drop(n:Nd):Nd:=if n.dropB then { n with has:=false } else n
def Nd.restart(n:Nd):Nd:=if n.ph=10 then n.to 11 else n
def Nd.count(n:Nd):Nat:=if n.ph=3 then n.x.length else n.c
structure Fr(f:Hd)(l:List Nat):Prop where
 ok:okF f l=true
 wd:WdX f
 b:∀x∈l,x < 256
def onW(f:Hd)(l:List Nat):List Nat:=zD f l++([1,0]++ones 8)
theorem z8M(f:Hd)(l:List Nat):(onW f l).length=(zD f l).length+10:=by simp[onW,ones]
theorem Fr.len{f:Hd}{l:List Nat}(h:Fr f l):(wF f l).length=(zD f l).length+10/\z2V f l=(zD f l).length+1:=by
 obtain⟨h1,h2,_⟩:=z7h h.ok h.wd h.b
 exact⟨by rw[h1];simp[ones],h2⟩
theorem Fr.bits {f:Hd} {l:List Nat} (h:Fr f l) (i:Nat) (hi:i < (zD f l).length+10) :
    (wF f l).getD i 0=(if i < (zD f l).length then(zD f l).getD i 0 else 1)/\(onW f l).getD i 0=(if i < (zD f l).length then(zD f l).getD i 0 else if i=(zD f l).length+1 then 0 else 1):=by
 obtain⟨h1,_⟩:=z7h h.ok h.wd h.b
 rw[h1,onW]
 generalize zD f l=r at *
 by_cases hlt:i < r.length
 ·rw[if_pos hlt,if_pos hlt]
  simp[List.getD,List.getElem?_append_left hlt]
 ·rw[if_neg hlt,if_neg hlt]
  obtain⟨j,rfl⟩:∃j,i=r.length+j:=⟨i - r.length,by omega⟩
  have hj:j < 10:=by omega
  simp only[List.getD,List.getElem?_append_right (Nat.le_add_right _ _),Nat.add_sub_cancel_left]
  have:j=0\/j=1\/j=2\/j=3\/j=4\/j=5\/j=6\/j=7\/j=8\/j=9:=by omega
  rcases this with rfl | rfl | rfl | rfl | rfl | rfl | rfl | rfl | rfl | rfl<;>simp[ones,List.replicate]
theorem Fr.raw_bit{f:Hd}{l:List Nat}(h:Fr f l)(i:Nat):(zD f l).getD i 0<=1:=by
 obtain⟨_,_,_,_,h5,_⟩:=z7h h.ok h.wd h.b
 by_cases hi:i < (zD f l).length
 ·simp only[List.getD,List.getElem?_eq_getElem hi,Option.getD_some]
  exact h5 _ (List.getElem_mem hi)
 ·simp[List.getD,List.getElem?_eq_none (by omega:(zD f l).length<=i)]
theorem z2N(f:Hd)(l:List Nat){i:Nat}(hi:i < (zD f l).length+10):(onW f l).take (i+1)=(onW f l).take i++[(onW f l).getD i 0]:=by
 rw[List.take_add_one]
 congr 1
 have:i < (onW f l).length:=by rw[z8M];exact hi
 simp[List.getD,this]
theorem Fr.sta {f:Hd} {l:List Nat} (h:Fr f l) {kn:Bool} (hk:f.K=3->kn=true) :
    (∀n,n<=(zD f l).length+8->n≠(zD f l).length+1->zT (scS kn ((onW f l).take n))=zf)/\zT (scS kn ((onW f l).take ((zD f l).length+1)))=zgq/\scS kn ((onW f l).take ((zD f l).length+9)) = .fin (zhd f l):=by
 obtain⟨_,_,_,_,_,h6,h7,_⟩:=z7h h.ok h.wd h.b
 have hs:scS kn (zD f l) = .tail true f l []:=by
  cases hkn:kn with
  | true=>exact h6
  | false=>exact h7 (fun h3=>by have:=hk h3;rw[hkn]at this;cases this)
 obtain⟨g1,g2,g3,g4⟩:=zfB (a:=0) hs (by omega)
 refine⟨fun n h1 h2 => ?_,g2,g4⟩
 by_cases hn:n<=(zD f l).length
 ·exact g1 n hn
 ·have:=g3 (n - (zD f l).length) (by omega) (by omega)
  rwa[show(zD f l).length+(n - (zD f l).length)=n by omega]at this
theorem Fr.raw_len{f:Hd}{l:List Nat}(h:Fr f l):34<=(zD f l).length/\(zD f l).length<=60000:=by
 obtain⟨_,_,h3,h4,_⟩:=z7h h.ok h.wd h.b
 exact⟨h3,h4⟩
theorem Fr.sof{f:Hd}{l:List Nat}(h:Fr f l):(zD f l).getD 0 0=0:=by
 obtain⟨_,_,_,_,_,h6,_⟩:=z7h h.ok h.wd h.b
 have hl:=h.raw_len
 have hb:=h.raw_bit 0
 by_cases h0:(zD f l).getD 0 0=0
 ·exact h0
 ·have h1:(zD f l).take 1=[1]:=by
   have hpos:0 < (zD f l).length:=by omega
   rw[List.take_add_one,List.take_zero,List.nil_append]
   have:(zD f l)[0]? = some ((zD f l).getD 0 0):=by simp[List.getD,hpos]
   rw[this,show(zD f l).getD 0 0=1 by omega]
   rfl
  have h2:=z9C true (zD f l) 1
  rw[h1,show scS true [1] = .fin (z1j 5)from rfl,zd3,h6]at h2
  cases h2
def Nd.atS(n:Nd)(i:Nat):Nd:={ n with ph:=2,c:=i,x:=(onW n.f n.l).take i,snd:=true }
def Nd.atR(n:Nd)(x:List Nat):Nd:={ n with ph:=3,c:=0,x:=x }
theorem zfH {n:Nd} (h:Fr n.f n.l) {i:Nat} (hi:i < (zD n.f n.l).length+10) :
    Nd.goOn { n with ph:=2,c:=i,x:=(onW n.f n.l).take i++[(onW n.f n.l).getD i 0],snd:=true } =
     if i+1 < (zD n.f n.l).length+10 then(n.atS (i+1),z0W) else({ n with ph:=8,c:=0,x:=onW n.f n.l,snd:=true,has:=false,fa:=z0n n.fa 1 },⟨1,0,n.f,n.l⟩):=by
 rw[<- z2N _ _ hi]
 unfold Nd.goOn
 simp only[h.len.1]
 by_cases hlt:i+1 < (zD n.f n.l).length+10
 ·rw[if_pos hlt,if_pos hlt];rfl
 ·rw[if_neg hlt,if_neg hlt,List.take_of_length_le (by rw[z8M];omega)]
theorem zb0 {n:Nd} (h:Fr n.f n.l) {i:Nat} (hi:i < (zD n.f n.l).length+10) :
    Nd.send { n with ph:=2,c:=i,x:=(onW n.f n.l).take i,snd:=true } ((onW n.f n.l).getD i 0) =
     if i+1 < (zD n.f n.l).length+10 then(n.atS (i+1),z0W) else({ n with ph:=8,c:=0,x:=onW n.f n.l,snd:=true,has:=false,fa:=z0n n.fa 1 },⟨1,0,n.f,n.l⟩):=by
 rw[<- zfH h hi]
 unfold Nd.send
 simp only[h.len.2]
 obtain⟨b1,b2⟩:=h.bits i hi
 by_cases ha:i=(zD n.f n.l).length+1
 ·rw[if_pos ha]
  have:(onW n.f n.l).getD i 0=0:=by rw[b2,if_neg (by omega),if_pos ha]
  rw[this,if_neg (by omega)]
 ·rw[if_neg ha]
  have:(onW n.f n.l).getD i 0=(wF n.f n.l).getD i 0:=by
   rw[b1,b2]
   by_cases hlt:i < (zD n.f n.l).length
   ·rw[if_pos hlt,if_pos hlt]
   ·rw[if_neg hlt,if_neg hlt,if_neg ha]
  rw[this,if_pos rfl]
theorem zb7{n:Nd}(h:Fr n.f n.l)(h1:n.ph=1)(hh:n.has=true):n.out=0/\n.step 0=(n.atS 1,z0W):=by
 refine⟨by unfold Nd.out;rw[if_pos h1,if_pos hh],?_⟩
 have hl:=h.raw_len
 have h0:(onW n.f n.l).getD 0 0=0:=by rw[(h.bits 0 (by omega)).2,if_pos (by omega)];exact h.sof
 have:=zb0 h (i:=0) (by omega)
 rw[h0,if_pos (by omega)]at this
 unfold Nd.step
 rw[if_neg (by omega),if_pos h1,if_pos hh]
 exact this
theorem zdX {n:Nd} (h:Fr n.f n.l) {i:Nat} (hi:i < (zD n.f n.l).length+10):(n.atS i).out=(wF n.f n.l).getD i 0/\(n.atS i).step ((onW n.f n.l).getD i 0) =
    if i+1 < (zD n.f n.l).length+10 then(n.atS (i+1),z0W) else({ n with ph:=8,c:=0,x:=onW n.f n.l,snd:=true,has:=false,fa:=z0n n.fa 1 },⟨1,0,n.f,n.l⟩):=by
 refine⟨rfl,?_⟩
 exact zb0 h hi
theorem z7N{n:Nd}(f:Hd)(l:List Nat)(h:Fr f l)(h1:n.ph=1)(hh:n.has=false):n.out=1/\n.step 0=(Nd.atR { n with snd:=false } ((onW f l).take 1),z0W):=by
 refine⟨by unfold Nd.out;rw[if_pos h1,hh];simp,?_⟩
 have hl:=h.raw_len
 have h0:(onW f l).getD 0 0=0:=by rw[(h.bits 0 (by omega)).2,if_pos (by omega)];exact h.sof
 have:=z2N f l (i:=0) (by omega)
 rw[List.take_zero,List.nil_append,h0]at this
 unfold Nd.step
 rw[if_neg (by omega),if_pos h1,hh,if_neg (by simp),if_pos rfl]
 rw[this]
 rfl
theorem zeL {n:Nd} {f:Hd} {l:List Nat} (h:Fr f l) (hk:f.K=3->n.kn=true) {i:Nat} (h0:0 < i) (hi:i < (zD f l).length+9) :
    (n.atR ((onW f l).take i)).out=(if i=(zD f l).length+1 then 0 else 1)/\(n.atR ((onW f l).take i)).step ((onW f l).getD i 0) =
     if i+1 < (zD f l).length+9 then(n.atR ((onW f l).take (i+1)),z0W) else({ n with ph:=4,c:=0,x:=(onW f l).take (i+1),fa:=z0n n.fa 2 },⟨2,0,f,l⟩):=by
 obtain⟨g1,g2,g3⟩:=h.sta hk
 have hs:∀j,(n.atR ((onW f l).take j)).sta=zT (scS n.kn ((onW f l).take j)):=fun j=>rfl
 constructor
 ·unfold Nd.out
  show(if(3:Nat)=1 then _ else if(3:Nat)=2 then _ else if(3:Nat)=3 then(if(n.atR ((onW f l).take i)).sta.k=1 then 0 else 1)else _)=_
  rw[if_neg (by omega),if_neg (by omega),if_pos rfl,hs]
  by_cases ha:i=(zD f l).length+1
  ·rw[if_pos ha,ha,g2];rfl
  ·rw[if_neg ha,g1 i (by omega) ha];rfl
 ·unfold Nd.step
  show(if(3:Nat)=0 then _ else if(3:Nat)=1 then _ else if(3:Nat)=2 then _ else if(3:Nat)=3 then Nd.heard (n.atR ((onW f l).take i++[(onW f l).getD i 0])) 0 else _)=_
  rw[if_neg (by omega),if_neg (by omega),if_neg (by omega),if_pos rfl,<- z2N f l (by omega)]
  unfold Nd.heard
  rw[hs]
  by_cases hlt:i+1 < (zD f l).length+9
  ·rw[if_pos hlt]
   have:(zT (scS n.kn ((onW f l).take (i+1)))).k < 2:=by
    by_cases ha:i+1=(zD f l).length+1
    ·rw[ha,g2];decide
    ·rw[g1 (i+1) (by omega) ha];decide
   rw[if_neg (by omega),if_neg (by omega),if_neg (by omega)]
   rfl
  ·have e:i+1=(zD f l).length+9:=by omega
   rw[if_neg hlt,e,g3]
   rfl
theorem zg0{f:Hd}{l:List Nat}(h:Fr f l){i:Nat}(hi:i < (zD f l).length+10):min ((wF f l).getD i 0) (if i=(zD f l).length+1 then 0 else 1)=(onW f l).getD i 0:=by
 obtain⟨b1,b2⟩:=h.bits i hi
 have:=h.raw_bit i
 rw[b1,b2]
 by_cases hlt:i < (zD f l).length
 ·rw[if_pos hlt,if_pos hlt,if_neg (by omega)];omega
 ·rw[if_neg hlt,if_neg hlt]
  split<;>rfl
theorem ze0(n:Nd)(h:n.ph=0):n.out=1/\n.step 1=(if n.c+1=11 then n.to 1 else { n with c:=n.c+1 },z0W):=by
 constructor
 ·unfold Nd.out
  rw[if_neg (by omega),if_neg (by omega),if_neg (by omega),if_neg (by omega),if_neg (by omega)]
 ·unfold Nd.step Nd.cnt
  rw[if_pos h,if_neg (by omega)]
theorem zeP(n:Nd)(h:n.ph=1)(hh:n.has=false):n.out=1/\n.step 1=({ n with snd:=false },z0W):=by
 constructor
 ·unfold Nd.out
  rw[if_pos h,hh];rfl
 ·unfold Nd.step
  rw[if_neg (by omega),if_pos h,hh,if_neg (by simp),if_neg (by omega)]
def Nd.joined(kn:Bool):Nd:={ Nd.new kn with ph:=1 }
def Nd.ones(kn:Bool)(k:Nat):Nd:=if k < 11 then { Nd.new kn with c:=k } else Nd.joined kn
theorem z4x(kn:Bool)(k:Nat):(Nd.ones kn k).out=1/\(Nd.ones kn k).step 1=(Nd.ones kn (k+1),z0W):=by
 unfold Nd.ones
 by_cases h:k < 11
 ·rw[if_pos h]
  obtain⟨h1,h2⟩:=ze0 { Nd.new kn with c:=k } rfl
  refine⟨h1,?_⟩
  rw[h2]
  by_cases h':k+1 < 11
  ·rw[if_pos h',if_neg (by show ¬k+1=11;omega)]
  ·rw[if_neg h',if_pos (by show k+1=11;omega)]
   rfl
 ·rw[if_neg h,if_neg (by omega)]
  exact zeP (Nd.joined kn) rfl rfl
end Go.Proofs.YtkjjfnmeogpdbaaGreatDoor
namespace Go.Proofs.YtkjjfnmeogpdbaaGreatDoor
set_option linter.unusedVariables false
set_option linter.unusedSimpArgs false
open Go.RowKit
theorem z1o{l:List Nat}(hb:∀b∈l,b<=1)(i n:Nat):zB ((l.drop i).take n) < 2^n:=by
 have h1:=z2I ((l.drop i).take n) (fun x hx=>hb x (List.mem_of_mem_drop (List.mem_of_mem_take hx)))
 have h2:((l.drop i).take n).length<=n:=by rw[List.length_take];omega
 exact Nat.lt_of_lt_of_le h1 (Nat.pow_le_pow_right (by omega) h2)
theorem z9h{n at_ r c:Nat}(h:z1K n at_ r c = .cl):n=at_+8*c+15:=by
 unfold z1K at h
 split at h
 ·cases h
 ·split at h
  ·assumption
  ·cases h
theorem z9b{at_ r c:Nat}(h:z1K at_ at_ r c = .on):c<=8/\(r=1->c=0):=by
 unfold z1K at h
 split at h
 ·cases h
 ·rename_i h1
  refine⟨?_,fun hr => ?_⟩
  ·by_cases h8:8 < c
   ·exact absurd ⟨rfl,.inl h8⟩ h1
   ·omega
  ·by_cases h0:0 < c
   ·exact absurd ⟨rfl,.inr ⟨hr,h0⟩⟩ h1
   ·omega
theorem zbu{c:Nat}(h:c<=8):z2v 1 (c:Int)=true:=by
 have:=z9O 1 c (by unfold z0S;rw[if_pos rfl];omega)
 unfold atF at this
 rwa[if_neg (by omega),if_pos (by omega)]at this
section
variable {kn:Bool} {L:List Nat}
theorem zit(hb:∀b∈L,b<=1)(hj':∀j,1<=j->j < L.length->zy kn (L.take j) = .on)(hjl:zy kn L = .cl):Fr (clF L) (clD L)/\(clF L).K=1:=by
 have hj:∀j,1<=j->j < L.length->zt kn j (zl L) = .on:=fun j h1 h2=>by rw[<- z1d (Nat.le_of_lt h2)];exact hj' j h1 h2
 have hcl:zt kn L.length (zl L) = .cl:=hjl
 have key:∃at_ r c,L.length=at_+8*c+15/\c<=8/\(r=1->c=0)/\zdz L=at_/\4<=at_/\c=z1p (zl L) (at_ - 4)/\((clF L).R=true->r=1):=by
  have h14:¬L.length < 16:=by
   intro hlt
   unfold zt at hcl
   (repeat' split at hcl)<;>first | (cases hcl;done) | omega
  by_cases g13:zl L 13=1
  ·have hJx:∀n,15<=n->zt kn n (zl L)=if n < 34 then .on else if n=34 then(if zl L 33=1 then .bad else .on)else if n=35 then(if zl L 34=1 then .bad else .on)else if n < 39 then .on else z1K n 39 (zl L 32) (z1p (zl L) 35):=fun n hn=>by
    rw[zt,if_neg (by omega),if_neg (by omega),if_neg (by omega),if_pos g13]
   rw[hJx _ (by omega)]at hcl
   have h39:¬L.length < 39:=by
    intro hlt
    (repeat' split at hcl)<;>first | (cases hcl;done) | omega
   rw[if_neg (by omega),if_neg (by omega),if_neg (by omega),if_neg h39]at hcl
   have hn:=z9h hcl
   have ho:=hj 39 (by omega) (by omega)
   rw[hJx _ (by omega),if_neg (by omega),if_neg (by omega),if_neg (by omega),if_neg (by omega)]at ho
   obtain⟨c1,c2⟩:=z9b ho
   refine⟨39,zl L 32,z1p (zl L) 35,hn,c1,c2,by rw[zdz,if_pos g13],by omega,rfl,fun h => ?_⟩
   unfold clF at h
   rw[if_pos g13]at h
   simpa using h
  ·have hJs:∀n,16<=n->zt kn n (zl L)=if zl L 14=0 then(if n < 19 then .on else z1K n 19 (zl L 12) (z1p (zl L) 15))else if n=16 then(if zl L 15=1/\kn=false then .alien else .on)else if zl L 15=0 then(if n < 22 then .on else if n=22+8*atF 2 (z1p (zl L) 18)then .fd else .on)else if zl L 16=1 then .bad else .xl:=fun n hn=>by
    rw[zt,if_neg (by omega),if_neg (by omega),if_neg (by omega),if_neg g13,if_neg (by omega)]
   rw[hJs _ (by omega)]at hcl
   have g14:zl L 14=0:=by
    by_cases g:zl L 14=0
    ·exact g
    ·rw[if_neg g]at hcl
     (repeat' split at hcl)<;>cases hcl
   rw[if_pos g14]at hcl
   have h19:¬L.length < 19:=by
    intro hlt
    rw[if_pos hlt]at hcl
    cases hcl
   rw[if_neg h19]at hcl
   have hn:=z9h hcl
   have ho:=hj 19 (by omega) (by omega)
   rw[hJs _ (by omega),if_pos g14,if_neg (by omega)]at ho
   obtain⟨c1,c2⟩:=z9b ho
   refine⟨19,zl L 12,z1p (zl L) 15,hn,c1,c2,by rw[zdz,if_neg g13],by omega,rfl,fun h => ?_⟩
   unfold clF at h
   rw[if_neg g13]at h
   simpa using h
 obtain⟨at_,r,c,hn,c8,c0,hat,h4,hc,hr⟩:=key
 have hlen:(clD L).length=c:=by
  rw[clD,z1S,List.length_take,List.length_drop,hat,<- hc]
  omega
 have hbytes:∀x∈clD L,x < 256:=z6x _ (fun x hx=>hb x (List.mem_of_mem_drop (List.mem_of_mem_take hx)))
 have hz:(clF L).R=true->(clD L).length=0:=fun h=>by rw[hlen];exact c0 (hr h)
 have i1:=z1o hb 1 11
 have i2:=z1o hb 14 18
 have hK:(clF L).K=1:=by unfold clF;split<;>rfl
 refine⟨⟨?_,?_,hbytes⟩,hK⟩
 ·unfold clF at hz ⊢
  by_cases g13:zl L 13=1
  ·rw[if_pos g13]at hz ⊢
   rw[z9R,hlen,zbu c8]
   unfold z3u
   generalize zB ((L.drop 1).take 11)=n1 at *
   generalize zB ((L.drop 14).take 18)=n2 at *
   have hz':zl L 32==1->c=0:=fun h=>by rw[<- hlen];exact hz h
   cases hq:(zl L 32==1)
   ·simp;omega
   ·simp[hz' hq];omega
  ·rw[if_neg g13]at hz ⊢
   rw[z9R,hlen,zbu c8]
   unfold z3u
   generalize zB ((L.drop 1).take 11)=n1 at *
   have hz':zl L 12==1->c=0:=fun h=>by rw[<- hlen];exact hz h
   cases hq:(zl L 12==1)
   ·simp;omega
   ·simp[hz' hq];omega
 ·unfold WdX clF
  generalize zB ((L.drop 1).take 11)=n1 at *
  generalize zB ((L.drop 14).take 18)=n2 at *
  split<;>simp<;>omega
theorem zhL(hb:∀b∈L,b<=1)(hjl:zy kn L = .fd):Fr (fdF L) (fdD L)/\(fdF L).K=2:=by
 have hcl:zt kn L.length (zl L) = .fd:=hjl
 have hn:L.length=22+8*atF 2 (z1p (zl L) 18):=by
  unfold zt z1K at hcl
  (repeat' split at hcl)<;>first | (cases hcl;done) | assumption
 have h15:z1p (zl L) 18 < 16:=by
  have h0:=zbO hb 18
  have h1:=zbO hb (18+1)
  have h2:=zbO hb (18+2)
  have h3:=zbO hb (18+3)
  unfold z1p
  omega
 have hlen:(fdD L).length=atF 2 (z1p (zl L) 18):=by
  rw[fdD,z1S,List.length_drop]
  omega
 have i1:=z1o hb 1 11
 refine⟨⟨?_,?_,z6x _ (fun x hx=>hb x (List.mem_of_mem_drop hx))⟩,rfl⟩
 ·unfold fdF
  rw[zbH,hlen,z9O 2 _ (by unfold z0S;rw[if_neg (by omega),if_pos rfl];exact h15)]
  unfold zfe
  generalize zB ((L.drop 1).take 11)=n1 at *
  simp
  omega
 ·unfold WdX fdF
  generalize zB ((L.drop 1).take 11)=n1 at *
  simp
theorem zgK(n:Nat):n+(if(cS 8 false n).1 then 1 else 0)<=(cS 8 false n).2+(cS 8 false n).2 / 8:=by
 induction n with
 | zero=>simp[cS]
 | succ n ih =>
   rcases hcs:cS 8 false n with ⟨d,o⟩
   rw[hcs]at ih
   simp only[cS,hcs]
   cases d with
   | true =>
     simp at ih ⊢
     omega
   | false =>
     simp at ih ⊢
     split<;>omega
theorem zhJ{y:List Nat}(hb:∀b∈L,b<=1)(hy:∀b∈y,b<=1)(he:z1x y=true):Fr (xlF L (xo y)) (xlD (xo y))/\(xlF L (xo y)).K=3:=by
 unfold z1x at he
 simp only[Bool.and_eq_true,decide_eq_true_eq]at he
 obtain⟨h22,hm⟩:=he
 have hob:∀b∈xo y,b<=1:=z8F hy
 have hN:xlN (xo y)<=2048/\1<=xlN (xo y):=by
  have:=z1o hob 9 11
  unfold xlN
  omega
 have ho:77+8*xlN (xo y)<=(xo y).length:=by
  have h1:=zgK y.length
  have h2:(xo y).length=(cS 8 false y.length).2:=(zha 8 false 1 y).2
  rw[<- h2]at h1
  have h3:szF 8 false (109+8*xlN (xo y))=122+9*xlN (xo y):=by
   unfold szF
   rw[if_neg (by omega)]
   simp
   omega
  rw[h3]at hm
  generalize (xo y).length=o at *
  split at h1<;>omega
 have hlen:(xlD (xo y)).length=xlN (xo y):=by
  rw[xlD,z1S,List.length_take,List.length_drop]
  omega
 have i1:=z1o hb 1 11
 have i2:=z1o hob 0 8
 have i3:=z1o hob 37 8
 have i4:=z1o hob 45 32
 rw[List.drop_zero]at i2
 refine⟨⟨?_,?_,z6x _ (fun x hx=>hob x (List.mem_of_mem_drop (List.mem_of_mem_take hx)))⟩,rfl⟩
 ·unfold xlF
  rw[zcE,hlen,zeb.2 (by omega)]
  unfold zfs
  generalize zB ((L.drop 1).take 11)=n1 at *
  simp
  omega
 ·unfold WdX xlF
  simp only
  omega
end
theorem za0{kn:Bool}{L:List Nat}(hb:∀b∈L,b<=1)(hj':∀j,1<=j->j < L.length->zy kn (L.take j) = .on)(hjl:zy kn L = .xl):kn=true:=by
 cases kn with
 | true=>rfl
 | false =>
   have h1:=(z62 L)
   have h2:zy false L = .xl:=hjl
   have hcl:zt false L.length (zl L) = .xl:=h2
   have h17:16 < L.length:=by
    by_cases hlt:16 < L.length
    ·exact hlt
    ·unfold zt z1K at hcl
     (repeat' split at hcl)<;>first | (cases hcl;done) | omega
   have h16:=hj' 16 (by omega) h17
   rw[z1d (by omega)]at h16
   have g13:¬zl L 13=1:=by
    intro g
    unfold zt z1K at hcl
    (repeat' split at hcl)<;>first | (cases hcl;done) | omega
   rw[zt,if_neg (by omega),if_neg (by omega),if_neg (by omega),if_neg g13,if_neg (by omega)]at hcl
   rw[zt,if_neg (by omega),if_neg (by omega),if_neg (by omega),if_neg g13,if_neg (by omega)]at h16
   have g14:¬zl L 14=0:=by
    intro g
    rw[if_pos g]at hcl
    unfold z1K at hcl
    (repeat' split at hcl)<;>cases hcl
   rw[if_neg g14,if_neg (by omega)]at hcl
   have g15:¬zl L 15=0:=by
    intro g
    rw[if_pos g]at hcl
    (repeat' split at hcl)<;>cases hcl
   have g15':zl L 15=1:=by rcases zbO hb 15 with h | h;exact absurd h g15;exact h
   rw[if_neg g14,if_pos rfl,if_pos ⟨g15',rfl⟩]at h16
   cases h16
theorem ze7{kn ok:Bool}{u:List Nat}{f:Hd}{l:List Nat}(hu:∀b∈u,b<=1)(h:zft kn u ok f l):Fr f l/\(f.K=3->kn=true):=by
 rcases h with ⟨H,_,rfl,rfl⟩ | ⟨h,y,rfl,H,_,_,_,rfl,rfl⟩ | ⟨h,y,rfl,H,_,he,_,rfl,rfl⟩
 ·obtain⟨h1,h2⟩:=zit (z2R H.bit) H.on H.jd
  exact⟨h1,fun h3=>by omega⟩
 ·obtain⟨h1,h2⟩:=zhL (z2R H.bit) H.jd
  exact⟨h1,fun h3=>by omega⟩
 ·have hy:∀b∈y,b<=1:=fun b hb=>hu b (by simp[hb])
  exact⟨(zhJ (z2R H.bit) hy he).1,fun _=>za0 (z2R H.bit) H.on H.jd⟩
theorem zg8 {kn:Bool} {x:List Nat} {b:Nat} (hx:∀c∈x++[b],c<=1) (hk:(zT (scS kn x)).k < 2) (h2:(zT (scS kn (x++[b]))).k=2) :
    Fr (zT (scS kn (x++[b]))).f (zT (scS kn (x++[b]))).l/\((zT (scS kn (x++[b]))).f.K=3->kn=true):=by
 have hx':∀c∈x,c<=1:=fun c hc=>hx c (by simp[hc])
 have hF:=zew kn hx'
 rw[scS,z0j,<- scS]at h2 ⊢
 generalize hp:scS kn x=p at *
 cases p with
 | tail ok f l t =>
   obtain⟨hl,ht,u,rfl,hF⟩:=hF
   have hu:∀b∈u,b<=1:=fun b hb=>hx' b (by simp[hb])
   simp only[z07]at h2 ⊢
   split at h2
   ·simp[zT,z1j]at h2
   ·rename_i h3
    rw[if_neg h3]
    split at h2
    ·simp[zT,z1j]at h2
    ·rename_i h4
     rw[if_neg h4]
     split at h2
     ·rename_i h5
      rw[if_pos h5]
      exact ze7 hu hF
     ·exfalso
      simp only[zT]at h2
      split at h2<;>simp at h2
 | fin s =>
   have:=zgl hp
   exact absurd hk (by show ¬s.k < 2;omega)
 | dyn y =>
   exfalso
   simp only[z07]at h2
   split at h2
   ·split at h2<;>simp[zT,z1j]at h2
   ·cases hq:zy kn (zo y++[b])<;>rw[hq]at h2<;>simp[z2F,zT,z1j]at h2
 | fx h y =>
   exfalso
   simp only[z07]at h2
   (repeat' split at h2)<;>simp[zT,z1j]at h2
 | xs h y =>
   exfalso
   simp only[z07]at h2
   (repeat' split at h2)<;>simp[zT,z1j]at h2
 | xd h y =>
   exfalso
   simp only[z07]at h2
   (repeat' split at h2)<;>simp[zT,z1j]at h2
 | xe h y z =>
   exfalso
   simp only[z07]at h2
   (repeat' split at h2)<;>simp[zT,z1j]at h2
end Go.Proofs.YtkjjfnmeogpdbaaGreatDoor
namespace Go.Proofs.YtkjjfnmeogpdbaaGreatDoor
set_option linter.unusedVariables false
set_option linter.unusedSimpArgs false
open Go.RowKit
theorem Fr.arb{f:Hd}{l:List Nat}(h:Fr f l):z47 f l+9<=(zD f l).length:=by
 have hok:=h.ok
 unfold z47 zD
 rcases z6o hok with hk | hk | hk
 ·have ho:okC f l=true:=by simp[okC,hk,hok]
  obtain⟨P,hP,_,_,_,_,_,_,_,g,_⟩:=z7W ho
  have h2:¬f.K=2:=by omega
  have h3:¬f.K=3:=by omega
  simp only[if_neg h2,if_neg h3]
  omega
 ·have ho:okD f l=true:=by simp[okD,hk,hok]
  obtain⟨P,hP,_,_,_,_,_,_,_,g,_⟩:=zco ho
  simp only[if_pos hk]
  omega
 ·have ho:okX f l=true:=by simp[okX,hk,hok]
  obtain⟨P,hP,_,_,_,_,_,_,_,g,_⟩:=zbT ho
  have h2:¬f.K=2:=by omega
  simp only[if_neg h2,if_pos hk]
  omega
theorem zgn{kn:Bool}{x:List Nat}:∀ {s:Sta},scS kn x = .fin s->s.k<=4:=by
 have key:∀s,scS kn x = .fin s->s.k<=4:=by
  refine zz (P:=fun x=>∀s,scS kn x = .fin s->s.k<=4) (fun s h=>(by cases h)) (fun x b ih => ?_) x
  intro s hs
  rw[scS,z0j,<- scS]at hs
  generalize scS kn x=p at *
  cases p with
  | dyn y =>
    simp only[z07]at hs
    split at hs
    ·split at hs
     ·cases hs;simp[z1j]
     ·cases hs
    ·cases hq:zy kn (zo y++[b])<;>rw[hq]at hs<;>simp only[z2F]at hs<;>cases hs<;>simp[z1j]
  | fx h y=>simp only[z07]at hs;(repeat' split at hs)<;>cases hs<;>simp[z1j]
  | xs h y=>simp only[z07]at hs;(repeat' split at hs)<;>cases hs<;>simp[z1j]
  | xd h y=>simp only[z07]at hs;(repeat' split at hs)<;>cases hs<;>simp[z1j]
  | xe h y z=>simp only[z07]at hs;(repeat' split at hs)<;>cases hs<;>simp[z1j]
  | tail ok f l t=>simp only[z07]at hs;(repeat' split at hs)<;>cases hs<;>simp[z1j]
  | fin s'=>exact ih s hs
 exact fun {s} h=>key s h
theorem z49(kn:Bool)(x:List Nat):(zT (scS kn x)).k<=4:=by
 rcases zgA kn x with ⟨s,h1,_,h3⟩ | h1 | h1
 ·rw[h3];exact zgn h1
 ·rw[h1];decide
 ·rw[h1];decide
def z0R(p c:Nat):Prop:=(p=0->c < 11)/\((p=5\/p=6)->c < 6)/\(p=7->c < 8)/\(p=8->c < 3)/\(p=9->c < 8)/\(p=11->c < 176)/\((p=1\/p=3\/p=4\/p=10)->c=0)/\p<=11
theorem zI{p:Nat}(h:p<=11):z0R p 0:=by unfold z0R;omega
structure Nd.Ok(n:Nd):Prop where
 fa:z2f n.fa=true
 fr:n.has=true->Fr n.f n.l/\(n.f.K=3->n.kn=true)
 p2:n.ph=2->n.has=true/\n.c < (zD n.f n.l).length+10/\n.x=(onW n.f n.l).take n.c
 p3:n.ph=3->n.x≠[]/\(∀b∈n.x,b<=1)/\(zT (scS n.kn n.x)).k < 2
 cn:n.ph≠2->z0R n.ph n.c
structure z3J(n:Nd)(r:Nd × Ev):Prop where
 ok:r.1.Ok
 kn:r.1.kn=n.kn
 has:r.1.has=(n.has && !(r.2.k==1))
 fl:r.1.has=true->r.1.f=n.f/\r.1.l=n.l
 got:r.2.k=2->Fr r.2.f r.2.l/\(r.2.f.K=3->n.kn=true)
 sent:r.2.k=1->r.2.f=n.f/\r.2.l=n.l/\n.has=true
 k4:r.2.k<=4
theorem zfu(kn:Bool):(Nd.new kn).Ok:=by
 exact⟨(by show z2f Fa.zero=true;decide),fun h=>(by cases h),fun h=>(by cases h),fun h=>(by cases h),fun _=>zI (p:=0) (by omega)⟩
theorem z6c{n m:Nd}(h:n.Ok)(h1:m.kn=n.kn)(h2:m.has=n.has)(h3:m.f=n.f)(h4:m.l=n.l)(h5:z2f m.fa=true)(h6:m.ph≠2)(h7:m.ph≠3)(h8:z0R m.ph m.c)(e:Ev)(he:e.k=0\/e.k=3\/e.k=4):z3J n (m,e):=by
 refine⟨⟨h5,fun hh => ?_,fun hp=>absurd hp h6,fun hp=>absurd hp h7,fun _=>h8⟩,h1,?_,fun _=>⟨h3,h4⟩,fun hk => ?_,fun hk => ?_,?_⟩
 ·rw[h3,h4,h1]
  exact h.fr (by rw[<- h2];exact hh)
 ·show m.has=(n.has && !(e.k==1))
  rw[h2,show(e.k==1)=false by rw[beq_eq_false_iff_ne];omega]
  simp
 ·have hk:e.k=2:=hk
  omega
 ·have hk:e.k=1:=hk
  omega
 ·show e.k<=4
  omega
theorem z6l{n m:Nd}(h:n.Ok)(h1:m.kn=n.kn)(h2:m.has=n.has)(h3:m.f=n.f)(h4:m.l=n.l)(h5:z2f m.fa=true)(ev:Int)(er:Nat):z3J n (m.wrong ev er):=by
 unfold Nd.wrong
 have e:∀(o:Bool),(if o=true then 10 else 5)≠2/\(if o=true then 10 else 5)≠3/\z0R (if o=true then 10 else 5) 0:=fun o=>by
  cases o
  ·exact⟨by decide,by decide,zI (p:=5) (by omega)⟩
  ·exact⟨by decide,by decide,zI (p:=10) (by omega)⟩
 obtain⟨e1,e2,e3⟩:=e (z0n m.fa ev).O
 exact z6c (m:={ m with fa:=z0n m.fa ev,pas:=z1Y (z0n m.fa ev)==1,ph:=if(z0n m.fa ev).O then 10 else 5,c:=0 }) h h1 h2 h3 h4 (z4M h5 ev) e1 e2 e3 ⟨4,er,noF,[]⟩ (.inr (.inr rfl))
theorem z9Q {n m:Nd} (h:n.Ok) (h1:m.kn=n.kn) (h2:m.has=n.has) (h3:m.f=n.f) (h4:m.l=n.l) (h5:z2f m.fa=true) (hp:m.ph=3) (hc:m.c=0) (y:List Nat) (b:Nat) (hx:m.x=y++[b]) (hb:∀c∈y++[b],c<=1) (hy:(zT (scS n.kn y)).k < 2)
    (kind:Nat) (hk:kind=0\/kind=3):z3J n (m.heard kind):=by
 have hs:m.sta=zT (scS n.kn (y++[b])):=by unfold Nd.sta;rw[h1,hx]
 unfold Nd.heard
 by_cases k2:m.sta.k=2
 ·rw[if_pos k2]
  rw[hs]at k2 ⊢
  have hd:=zg8 hb hy k2
  refine⟨⟨z4M h5 2,fun hh => ?_,fun hp => ?_,fun hp => ?_,fun _=>zI (p:=4) (by omega)⟩,h1,?_,fun _=>⟨h3,h4⟩,fun _=>hd,fun hk => ?_,by show(2:Nat)<=4;omega⟩
  ·show Fr m.f m.l/\(m.f.K=3->m.kn=true)
   rw[h3,h4,h1]
   exact h.fr (by rw[<- h2];exact hh)
  ·have hq9:(4:Nat)=2:=hp
   omega
  ·have hq9:(4:Nat)=3:=hp
   omega
  ·show m.has=(n.has && !((2:Nat)==1))
   rw[h2];simp
  ·have hq9:(2:Nat)=1:=hk
   omega
 rw[if_neg k2]
 by_cases k3:m.sta.k=3
 ·rw[if_pos k3]
  exact z6l h h1 h2 h3 h4 h5 4 _
 rw[if_neg k3]
 by_cases k4:m.sta.k=4
 ·rw[if_pos k4]
  exact z6c (m:=m.to 0) h h1 h2 h3 h4 h5 (by show(0:Nat)≠2;omega) (by show(0:Nat)≠3;omega) (zI (p:=0) (by omega)) ⟨kind,0,noF,[]⟩ (by rcases hk with h | h;exact .inl h;exact .inr (.inl h))
 rw[if_neg k4]
 have hlow:m.sta.k < 2:=by
  have:=z49 n.kn (y++[b])
  rw[<- hs]at this
  omega
 refine⟨⟨h5,fun hh => ?_,fun hp2 => ?_,fun _=>⟨by rw[hx];simp,by rw[hx];exact hb,hlow⟩,fun _=>by show z0R m.ph m.c;rw[hp,hc];exact zI (by omega)⟩,h1,?_,fun _=>⟨h3,h4⟩,fun hk2 => ?_,fun hk2 => ?_,?_⟩
 ·show Fr m.f m.l/\(m.f.K=3->m.kn=true)
  rw[h3,h4,h1]
  exact h.fr (by rw[<- h2];exact hh)
 ·have:m.ph=2:=hp2
  omega
 ·show m.has=(n.has && !(kind==1))
  rw[h2,show(kind==1)=false by rw[beq_eq_false_iff_ne];omega]
  simp
 ·have:kind=2:=hk2
  omega
 ·have:kind=1:=hk2
  omega
 ·show kind<=4
  omega
theorem zbF{n m:Nd}(h:n.Ok)(h1:m.kn=n.kn)(h2:m.has=n.has)(h3:m.f=n.f)(h4:m.l=n.l)(h5:z2f m.fa=true)(hp:m.ph=2)(hh:m.has=true)(hc:m.c < (zD m.f m.l).length+10)(hx:m.x=(onW m.f m.l).take m.c){b:Nat}(hb:b<=1):z3J n (m.send b):=by
 obtain⟨hF,hK⟩:=h.fr (by rw[<- h2];exact hh)
 have hF':Fr m.f m.l:=by rw[h3,h4];exact hF
 have hK':m.f.K=3->m.kn=true:=by rw[h3,h1];exact hK
 obtain⟨e1,e2⟩:=hF'.len
 have hbits:=hF'.bits m.c hc
 have hgo:b=(onW m.f m.l).getD m.c 0->z3J n (Nd.goOn { m with x:=m.x++[b] }):=by
  intro hbb
  have hxx:m.x++[b]=(onW m.f m.l).take (m.c+1):=by rw[hx,hbb,<- z2N _ _ hc]
  unfold Nd.goOn
  simp only[e1]
  by_cases hlt:m.c+1 < (zD m.f m.l).length+10
  ·rw[if_pos hlt]
   refine⟨⟨h5,fun _=>⟨hF',hK'⟩,fun _=>⟨hh,hlt,hxx⟩,fun hp3 => ?_,fun hp2=>absurd hp hp2⟩,h1,?_,fun _=>⟨h3,h4⟩,fun hk => ?_,fun hk => ?_,by show(0:Nat)<=4;omega⟩
   ·have:m.ph=3:=hp3
    omega
   ·show m.has=(n.has && !((0:Nat)==1))
    rw[h2];simp
   ·have hq9:(0:Nat)=2:=hk
    omega
   ·have hq9:(0:Nat)=1:=hk
    omega
  ·rw[if_neg hlt]
   refine⟨⟨z4M h5 1,fun hq=>(by cases hq),fun hq => ?_,fun hq => ?_,fun _=>zI (p:=8) (by omega)⟩,h1,?_,fun hq=>(by cases hq),fun hk => ?_,fun _=>⟨h3,h4,by rw[<- h2];exact hh⟩,by show(1:Nat)<=4;omega⟩
   ·have hq9:(8:Nat)=2:=hq
    omega
   ·have hq9:(8:Nat)=3:=hq
    omega
   ·show false=(n.has && !((1:Nat)==1))
    simp
   ·have hq9:(1:Nat)=2:=hk
    omega
 unfold Nd.send
 by_cases ha:m.c=z2V m.f m.l
 ·rw[if_pos ha]
  by_cases hb1:b=1
  ·rw[if_pos hb1]
   exact z6l (m:={ m with x:=m.x++[b] }) h h1 h2 h3 h4 h5 5 9
  ·rw[if_neg hb1]
   refine hgo ?_
   rw[hbits.2,if_neg (by omega),if_pos (by omega)]
   omega
 rw[if_neg ha]
 by_cases hbo:b=(wF m.f m.l).getD m.c 0
 ·rw[if_pos hbo]
  refine hgo ?_
  rw[hbo,hbits.1,hbits.2]
  by_cases hlt:m.c < (zD m.f m.l).length
  ·rw[if_pos hlt,if_pos hlt]
  ·rw[if_neg hlt,if_neg hlt,if_neg (by omega)]
 rw[if_neg hbo]
 by_cases hl:(wF m.f m.l).getD m.c 0=1/\m.c < z47 m.f m.l
 ·rw[if_pos hl]
  have harb:=hF'.arb
  obtain⟨g1,g2,g3⟩:=hF'.sta hK'
  refine z9Q h (m:={ m with x:=m.x++[b],ph:=3,c:=0,snd:=false }) h1 h2 h3 h4 h5 rfl rfl ((onW m.f m.l).take m.c) b (by show m.x++[b]=_;rw[hx]) ?_ ?_ 3 (.inr rfl)
  ·intro c hcm
   rcases List.mem_append.1 hcm with hcm | hcm
   ·have hcm:=List.mem_of_mem_take hcm
    unfold onW at hcm
    obtain⟨_,_,_,_,hr,_⟩:=z7h hF'.ok hF'.wd hF'.b
    rcases List.mem_append.1 hcm with hcm | hcm
    ·exact hr c hcm
    ·simp[ones]at hcm
     omega
   ·rw[List.mem_singleton]at hcm
    omega
  ·rw[<- h1,g1 m.c (by omega) (by omega)]
   decide
 ·rw[if_neg hl]
  exact z6l (m:={ m with x:=m.x++[b] }) h h1 h2 h3 h4 h5 3 5
theorem z6a{n m:Nd}(h:n.Ok)(h1:m.kn=n.kn)(h2:m.has=n.has)(h3:m.f=n.f)(h4:m.l=n.l)(h5:z2f m.fa=true):z3J n (m.begin,z0W):=by
 unfold Nd.begin
 refine⟨⟨h5,fun hh => ?_,fun hp => ?_,fun _=>⟨by simp,by simp,?_⟩,fun _=>zI (p:=3) (by omega)⟩,h1,?_,fun _=>⟨h3,h4⟩,fun hk => ?_,fun hk => ?_,by show(0:Nat)<=4;omega⟩
 ·show Fr m.f m.l/\(m.f.K=3->m.kn=true)
  rw[h3,h4,h1]
  exact h.fr (by rw[<- h2];exact hh)
 ·have hq9:(3:Nat)=2:=hp
  omega
 ·show(zT (scS m.kn [0])).k < 2
  cases m.kn<;>decide
 ·show m.has=(n.has && !((0:Nat)==1))
  rw[h2];simp
 ·have hq9:(0:Nat)=2:=hk
  omega
 ·have hq9:(0:Nat)=1:=hk
  omega
theorem z4P{n:Nd}(h:n.Ok){b:Nat}(hb:b<=1):z3J n (n.step b):=by
 have hcn:=h.cn
 have pl:∀m:Nd,m.kn=n.kn->m.has=n.has->m.f=n.f->m.l=n.l->z2f m.fa=true->m.ph≠2->m.ph≠3->z0R m.ph m.c->z3J n (m,z0W):=fun m a1 a2 a3 a4 a5 a6 a7 a8=>z6c h a1 a2 a3 a4 a5 a6 a7 a8 z0W (.inl rfl)
 have hfa:=h.fa
 unfold Nd.step
 by_cases p0:n.ph=0
 ·rw[if_pos p0]
  have hc:=hcn (by omega)
  rw[p0]at hc
  unfold z0R at hc
  unfold Nd.cnt
  split
  ·exact pl _ rfl rfl rfl rfl hfa (by show n.ph≠2;omega) (by show n.ph≠3;omega) (by show z0R n.ph 0;exact zI (by omega))
  ·split
   ·exact pl _ rfl rfl rfl rfl hfa (by show(1:Nat)≠2;omega) (by show(1:Nat)≠3;omega) (zI (p:=1) (by omega))
   ·exact pl _ rfl rfl rfl rfl hfa (by show n.ph≠2;omega) (by show n.ph≠3;omega) (by show z0R n.ph (n.c+1);rw[p0];unfold z0R;omega)
 rw[if_neg p0]
 by_cases p1:n.ph=1
 ·rw[if_pos p1]
  by_cases hh:n.has=true
  ·rw[if_pos hh]
   have hF:=(h.fr hh).1
   exact zbF h (m:={ n with x:=[],snd:=true,ph:=2,c:=0 }) rfl rfl rfl rfl hfa rfl hh (by show 0 < _+10;omega) (by show []=List.take 0 _;simp) hb
  ·rw[if_neg hh]
   split
   ·exact z6a h (m:={ n with snd:=false }) rfl rfl rfl rfl hfa
   ·have hc:=hcn (by omega)
    exact pl _ rfl rfl rfl rfl hfa (by show n.ph≠2;omega) (by show n.ph≠3;omega) hc
 rw[if_neg p1]
 by_cases p2:n.ph=2
 ·rw[if_pos p2]
  obtain⟨q1,q2,q3⟩:=h.p2 p2
  exact zbF h rfl rfl rfl rfl hfa p2 q1 q2 q3 hb
 rw[if_neg p2]
 have hc:=hcn p2
 by_cases p3:n.ph=3
 ·rw[if_pos p3]
  obtain⟨q1,q2,q3⟩:=h.p3 p3
  have hc0:n.c=0:=by unfold z0R at hc;omega
  refine z9Q h (m:={ n with x:=n.x++[b] }) rfl rfl rfl rfl hfa p3 hc0 n.x b rfl (fun c hcm => ?_) q3 0 (.inl rfl)
  rcases List.mem_append.1 hcm with hcm | hcm
  ·exact q2 c hcm
  ·rw[List.mem_singleton]at hcm
   omega
 rw[if_neg p3]
 by_cases p4:n.ph=4
 ·rw[if_pos p4]
  split
  ·exact pl _ rfl rfl rfl rfl hfa (by show(6:Nat)≠2;omega) (by show(6:Nat)≠3;omega) (zI (p:=6) (by omega))
  ·exact pl _ rfl rfl rfl rfl hfa (by show(8:Nat)≠2;omega) (by show(8:Nat)≠3;omega) (zI (p:=8) (by omega))
 rw[if_neg p4]
 by_cases p56:n.ph=5\/n.ph=6
 ·rw[if_pos p56]
  have h6:n.c < 6:=by unfold z0R at hc;omega
  split
  ·exact pl _ rfl rfl rfl rfl hfa (by show(7:Nat)≠2;omega) (by show(7:Nat)≠3;omega) (zI (p:=7) (by omega))
  ·exact pl _ rfl rfl rfl rfl hfa (by show n.ph≠2;omega) (by show n.ph≠3;omega) (by show z0R n.ph (n.c+1);unfold z0R;omega)
 rw[if_neg p56]
 by_cases p7:n.ph=7
 ·rw[if_pos p7]
  have h8:n.c < 8:=by unfold z0R at hc;omega
  unfold Nd.cnt
  split
  ·exact pl _ rfl rfl rfl rfl hfa (by show n.ph≠2;omega) (by show n.ph≠3;omega) (by show z0R n.ph 0;exact zI (by omega))
  ·split
   ·exact pl _ rfl rfl rfl rfl hfa (by show(8:Nat)≠2;omega) (by show(8:Nat)≠3;omega) (zI (p:=8) (by omega))
   ·exact pl _ rfl rfl rfl rfl hfa (by show n.ph≠2;omega) (by show n.ph≠3;omega) (by show z0R n.ph (n.c+1);unfold z0R;omega)
 rw[if_neg p7]
 by_cases p8:n.ph=8
 ·rw[if_pos p8]
  have h3:n.c < 3:=by unfold z0R at hc;omega
  unfold Nd.pause
  split
  ·split
   ·exact z6a h rfl rfl rfl rfl hfa
   ·exact pl _ rfl rfl rfl rfl hfa (by show(6:Nat)≠2;omega) (by show(6:Nat)≠3;omega) (zI (p:=6) (by omega))
  ·split
   ·refine pl _ rfl rfl rfl rfl hfa ?_ ?_ ?_
    ·show(if n.snd=true/\z1Y n.fa=1 then 9 else 1)≠2
     split<;>omega
    ·show(if n.snd=true/\z1Y n.fa=1 then 9 else 1)≠3
     split<;>omega
    ·show z0R (if n.snd=true/\z1Y n.fa=1 then 9 else 1) 0
     exact zI (by split<;>omega)
   ·exact pl _ rfl rfl rfl rfl hfa (by show n.ph≠2;omega) (by show n.ph≠3;omega) (by show z0R n.ph (n.c+1);unfold z0R;omega)
 rw[if_neg p8]
 by_cases p9:n.ph=9
 ·rw[if_pos p9]
  have h8:n.c < 8:=by unfold z0R at hc;omega
  split
  ·exact z6a h rfl rfl rfl rfl hfa
  ·unfold Nd.cnt
   split
   ·exact pl _ rfl rfl rfl rfl hfa (by show n.ph≠2;omega) (by show n.ph≠3;omega) (by show z0R n.ph 0;exact zI (by omega))
   ·split
    ·exact pl _ rfl rfl rfl rfl hfa (by show(1:Nat)≠2;omega) (by show(1:Nat)≠3;omega) (zI (p:=1) (by omega))
    ·exact pl _ rfl rfl rfl rfl hfa (by show n.ph≠2;omega) (by show n.ph≠3;omega) (by show z0R n.ph (n.c+1);unfold z0R;omega)
 rw[if_neg p9]
 by_cases p11:n.ph=11
 ·rw[if_pos p11]
  have h176:n.c < 176:=by unfold z0R at hc;omega
  unfold Nd.back
  by_cases hq:(if b=0 then n.c / 11*11 else n.c+1)=176
  ·rw[if_pos hq]
   exact pl { n with fa:=z0n n.fa 6,ph:=1,c:=0 } rfl rfl rfl rfl (z4M hfa 6) (by show(1:Nat)≠2;omega) (by show(1:Nat)≠3;omega) (zI (p:=1) (by omega))
  ·rw[if_neg hq]
   refine pl { n with c:=if b=0 then n.c / 11*11 else n.c+1 } rfl rfl rfl rfl hfa (by show n.ph≠2;omega) (by show n.ph≠3;omega) ?_
   show z0R n.ph (if b=0 then n.c / 11*11 else n.c+1)
   have hlt:(if b=0 then n.c / 11*11 else n.c+1) < 176:=by
    by_cases h0:b=0
    ·rw[if_pos h0];omega
    ·rw[if_neg h0]at hq ⊢;omega
   unfold z0R
   omega
 rw[if_neg p11]
 exact pl n rfl rfl rfl rfl hfa p2 p3 hc
theorem zdl{n:Nd}(h:n.Ok){f:Hd}{l:List Nat}(hW:WdX f)(hb:∀x∈l,x < 256)(h2:n.ph=2->n.has=true):(n.load f l).Ok:=by
 unfold Nd.load
 split
 ·rename_i he
  unfold Nd.loadE at he
  split at he
  ·cases he
  ·rename_i hok
   split at he
   ·cases he
   ·rename_i hk
    split at he
    ·cases he
    ·rename_i hh
     refine⟨h.fa,fun _=>⟨⟨by simpa using hok,hW,hb⟩,fun h3 => ?_⟩,fun hp=>absurd (h2 hp) (by simpa using hh),h.p3,h.cn⟩
     show n.kn=true
     cases hkn:n.kn with
     | true=>rfl
     | false=>exact absurd ⟨h3,hkn⟩ hk
 ·exact h
theorem drop_ok{n:Nd}(h:n.Ok):n.drop.Ok:=by
 unfold Nd.drop
 split
 ·rename_i hd
  unfold Nd.dropB at hd
  rw[Bool.and_eq_true]at hd
  have hp:n.ph≠2:=by simpa using hd.2
  exact⟨h.fa,fun hh=>(by cases hh),fun h2=>absurd h2 hp,h.p3,h.cn⟩
 ·exact h
end Go.Proofs.YtkjjfnmeogpdbaaGreatDoor
namespace Go.Proofs.YtkjjfnmeogpdbaaGreatDoor
set_option linter.unusedVariables false
set_option linter.unusedSimpArgs false
open Go.RowKit
theorem z7S(n:Nd)(kind:Nat):(n.heard kind).1.x=n.x:=by
 unfold Nd.heard
 (repeat' split)<;>rfl
theorem z9I(n:Nd):n.goOn.1.x=n.x:=by
 unfold Nd.goOn
 split<;>rfl
theorem z9L(n:Nd)(b:Nat):(n.send b).1.x=n.x++[b]:=by
 unfold Nd.send
 split
 ·split
  ·rfl
  ·rw[z9I]
 ·split
  ·rw[z9I]
  ·split
   ·rw[z7S]
   ·rfl
theorem z8W(n:Nd)(b most p:Nat):(n.cnt b most p).x=n.x:=by
 unfold Nd.cnt
 (repeat' split)<;>rfl
theorem zhA(n:Nd)(b:Nat):(n.step b).1.x.length<=n.x.length+1:=by
 unfold Nd.step
 split
 ·rw[z8W];omega
 split
 ·split
  ·rw[z9L];simp
  ·show(if b=0 then Nd.begin { n with snd:=false } else { n with snd:=false }).x.length<=_
   split
   ·show [0].length<=_
    simp
   ·show n.x.length<=_
    omega
 split
 ·rw[z9L];simp
 split
 ·rw[z7S];simp
 split
 ·show n.x.length<=_
  omega
 split
 ·show(if n.c+1=6 then n.to 7 else { n with c:=n.c+1 }).x.length<=_
  split
  ·show n.x.length<=_
   omega
  ·show n.x.length<=_
   omega
 split
 ·rw[z8W];omega
 split
 ·show(n.pause b).x.length<=_
  unfold Nd.pause
  split
  ·split
   ·show [0].length<=_
    simp
   ·show n.x.length<=_
    omega
  ·split
   ·show n.x.length<=_
    omega
   ·show n.x.length<=_
    omega
 split
 ·show(if b=0 then n.begin else n.cnt b 8 1).x.length<=_
  split
  ·show [0].length<=_
   simp
  ·rw[z8W];omega
 split
 ·show(n.back b).x.length<=_
  unfold Nd.back
  by_cases h:(if b=0 then n.c / 11*11 else n.c+1)=176
  ·rw[if_pos h]
   show n.x.length<=_
   omega
  ·rw[if_neg h]
   show n.x.length<=_
   omega
 ·show n.x.length<=_
  omega
end Go.Proofs.YtkjjfnmeogpdbaaGreatDoor
namespace Go.Proofs.YtkjjfnmeogpdbaaGreatDoor
set_option linter.unusedVariables false
set_option linter.unusedSimpArgs false
open Go.RowKit
theorem z7L(n:Nd)(h:n.ph=8):n.out=1/\n.step 1=(if n.c+1=3 then n.to (if n.snd=true/\z1Y n.fa=1 then 9 else 1)else { n with c:=n.c+1 },z0W):=by
 constructor
 ·unfold Nd.out
  rw[if_neg (by omega),if_neg (by omega),if_neg (by omega),if_neg (by omega),if_neg (by omega)]
 ·unfold Nd.step Nd.pause
  rw[if_neg (by omega),if_neg (by omega),if_neg (by omega),if_neg (by omega),if_neg (by omega),if_neg (by omega),if_neg (by omega),if_pos h,if_neg (by omega)]
theorem zdG(n:Nd)(h:n.ph=4):n.out=1/\n.step 1=(n.to 8,z0W):=by
 constructor
 ·unfold Nd.out
  rw[if_neg (by omega),if_neg (by omega),if_neg (by omega),if_neg (by omega),if_neg (by omega)]
 ·unfold Nd.step
  rw[if_neg (by omega),if_neg (by omega),if_neg (by omega),if_neg (by omega),if_pos h,if_neg (by omega)]
def prA(f:Hd)(l:List Nat)(i:Nat):Nd :=
 if i=0 then { Nd.joined true with has:=true,f:=f,l:=l }
 else if i < (zD f l).length+10 then Nd.atS { Nd.joined true with has:=true,f:=f,l:=l } i
 else if i < (zD f l).length+13 then { Nd.joined true with f:=f,l:=l,ph:=8,c:=i - ((zD f l).length+10),x:=onW f l,snd:=true }
 else { Nd.joined true with f:=f,l:=l,x:=onW f l,snd:=true }
def prB(f:Hd)(l:List Nat)(i:Nat):Nd :=
 if i=0 then Nd.joined true
 else if i < (zD f l).length+9 then Nd.atR (Nd.joined true) ((onW f l).take i)
 else if i=(zD f l).length+9 then { Nd.joined true with ph:=4,x:=(onW f l).take i }
 else if i < (zD f l).length+13 then { Nd.joined true with ph:=8,c:=i - ((zD f l).length+10),x:=(onW f l).take ((zD f l).length+9) }
 else { Nd.joined true with x:=(onW f l).take ((zD f l).length+9) }
def prW(f:Hd)(l:List Nat)(i:Nat):Nat:=if i < (zD f l).length+10 then(onW f l).getD i 0 else 1
theorem z9o {f:Hd} {l:List Nat} (h:Fr f l) {i:Nat} (hi:i < (zD f l).length+13) :
    (prA f l i).out=(if i < (zD f l).length+10 then(wF f l).getD i 0 else 1)/\(prA f l i).step (prW f l i)=(prA f l (i+1),if i+1=(zD f l).length+10 then⟨1,0,f,l⟩else z0W):=by
 have hl:=h.raw_len
 unfold prW
 by_cases h0:i=0
 ·subst h0
  rw[if_pos (by omega),if_pos (by omega),if_neg (by omega)]
  have hs:=h.sof
  have b:=h.bits 0 (by omega)
  rw[if_pos (by omega),if_pos (by omega),hs]at b
  rw[b.1,b.2]
  unfold prA
  rw[if_pos rfl,if_neg (by omega),if_pos (by omega)]
  exact zb7 (n:={ Nd.joined true with has:=true,f:=f,l:=l }) h rfl rfl
 by_cases h1:i < (zD f l).length+10
 ·rw[if_pos h1,if_pos h1]
  unfold prA
  rw[if_neg h0,if_pos h1,if_neg (by omega)]
  obtain⟨g1,g2⟩:=zdX (n:={ Nd.joined true with has:=true,f:=f,l:=l }) h h1
  refine⟨g1,g2.trans ?_⟩
  by_cases h2:i+1 < (zD f l).length+10
  ·rw[if_pos h2,if_pos h2,if_neg (by omega)]
  ·rw[if_neg h2,if_neg h2,if_pos (by omega),if_pos (by omega)]
   simp only[show i+1 - ((zD f l).length+10)=0 by omega]
   rfl
 ·rw[if_neg h1,if_neg h1,if_neg (by omega)]
  unfold prA
  rw[if_neg h0,if_neg h1,if_pos hi,if_neg (by omega),if_neg (by omega)]
  obtain⟨g1,g2⟩:=z7L { Nd.joined true with f:=f,l:=l,ph:=8,c:=i - ((zD f l).length+10),x:=onW f l,snd:=true } rfl
  refine⟨g1,g2.trans ?_⟩
  by_cases h2:i+1 < (zD f l).length+13
  ·rw[if_neg (by show ¬i - _+1=3;omega),if_pos h2]
   simp only[show i+1 - ((zD f l).length+10)=i - ((zD f l).length+10)+1 by omega]
  ·rw[if_pos (by show i - _+1=3;omega),if_neg h2]
   rfl
theorem z9S {f:Hd} {l:List Nat} (h:Fr f l) {i:Nat} (hi:i < (zD f l).length+13) :
    (prB f l i).out=(if i=(zD f l).length+1 then 0 else 1)/\(prB f l i).step (prW f l i)=(prB f l (i+1),if i+1=(zD f l).length+9 then⟨2,0,f,l⟩else z0W):=by
 have hl:=h.raw_len
 unfold prW
 by_cases h0:i=0
 ·subst h0
  rw[if_neg (by omega),if_pos (by omega),if_neg (by omega)]
  have hs:=h.sof
  have b:=h.bits 0 (by omega)
  rw[if_pos (by omega),if_pos (by omega),hs]at b
  rw[b.2]
  unfold prB
  rw[if_pos rfl,if_neg (by omega),if_pos (by omega)]
  exact z7N f l h (n:=Nd.joined true) rfl rfl
 by_cases h1:i < (zD f l).length+9
 ·rw[show(if i < (zD f l).length+10 then(onW f l).getD i 0 else 1)=(onW f l).getD i 0 from if_pos (by omega)]
  unfold prB
  rw[if_neg h0,if_pos h1,if_neg (show ¬i+1=0 by omega)]
  obtain⟨g1,g2⟩:=zeL (n:=Nd.joined true) h (fun _=>rfl) (by omega) h1
  refine⟨g1,g2.trans ?_⟩
  by_cases h2:i+1 < (zD f l).length+9
  ·rw[if_pos h2,if_pos h2,if_neg (by omega)]
  ·rw[if_neg h2,if_neg h2,if_pos (show i+1=(zD f l).length+9 by omega),if_pos (show i+1=(zD f l).length+9 by omega)]
   rfl
 rw[if_neg (show ¬i=(zD f l).length+1 by omega),if_neg (show ¬i+1=(zD f l).length+9 by omega)]
 by_cases h2:i=(zD f l).length+9
 ·have b:=(h.bits i (by omega)).2
  rw[if_neg (by omega),if_neg (by omega)]at b
  rw[if_pos (by omega),b]
  unfold prB
  rw[if_neg h0,if_neg h1,if_pos h2,if_neg (by omega),if_neg (by omega),if_neg (by omega),if_pos (by omega)]
  obtain⟨g1,g2⟩:=zdG { Nd.joined true with ph:=4,x:=(onW f l).take i } rfl
  refine⟨g1,g2.trans ?_⟩
  simp only[show i+1 - ((zD f l).length+10)=0 by omega,<- h2]
  rfl
 ·rw[if_neg (by omega)]
  unfold prB
  rw[if_neg h0,if_neg h1,if_neg h2,if_pos hi,if_neg (by omega),if_neg (by omega),if_neg (by omega)]
  obtain⟨g1,g2⟩:=z7L { Nd.joined true with ph:=8,c:=i - ((zD f l).length+10),x:=(onW f l).take ((zD f l).length+9) } rfl
  refine⟨g1,g2.trans ?_⟩
  by_cases h3:i+1 < (zD f l).length+13
  ·rw[if_neg (by show ¬i - _+1=3;omega),if_pos h3]
   simp only[show i+1 - ((zD f l).length+10)=i - ((zD f l).length+10)+1 by omega]
  ·rw[if_pos (by show i - _+1=3;omega),if_neg h3]
   rfl
theorem zht{f:Hd}{l:List Nat}(h:Fr f l){i:Nat}(hi:i < (zD f l).length+13):(prA f l i).out<=1/\(prB f l i).out<=1/\min (prA f l i).out (prB f l i).out=prW f l i:=by
 rw[(z9o h hi).1,(z9S h hi).1]
 unfold prW
 by_cases h1:i < (zD f l).length+10
 ·rw[if_pos h1,if_pos h1]
  refine⟨?_,by split<;>omega,zg0 h h1⟩
  have:=(h.bits i h1).1
  have:=h.raw_bit i
  rw[(h.bits i h1).1]
  split<;>omega
 ·rw[if_neg h1,if_neg h1,if_neg (by omega)]
  exact⟨by omega,by omega,rfl⟩
theorem ziI (f:Hd) (l:List Nat):(prA f l ((zD f l).length+13)).ph=1/\(prA f l ((zD f l).length+13)).c=0/\(prA f l ((zD f l).length+13)).has=false/\(prA f l ((zD f l).length+13)).fa=Fa.zero /\
    (prB f l ((zD f l).length+13)).ph=1/\(prB f l ((zD f l).length+13)).c=0/\(prB f l ((zD f l).length+13)).has=false/\(prB f l ((zD f l).length+13)).fa=Fa.zero:=by
 unfold prA prB
 rw[if_neg (by omega),if_neg (by omega),if_neg (by omega),if_neg (by omega),if_neg (by omega),if_neg (by omega),if_neg (by omega)]
 exact⟨rfl,rfl,rfl,rfl,rfl,rfl,rfl,rfl⟩
def zgy(x:List Nat):Nat:=if zm x=1 then(zq x).2 else 0
theorem z6D(x:List Nat)(b:Nat):zgy (x++[b])=if b=1 then(if zm x=1 then(zq x).2+1 else 1)else 0:=by
 unfold zgy
 rw[z0J]
 by_cases h:b=1
 ·rw[if_pos h,if_pos h,z05]
  unfold z1v zm
  subst h
  by_cases h2:(zq x).1=1
  ·rw[if_pos h2.symm,if_pos h2]
  ·rw[if_neg (fun e=>h2 e.symm),if_neg h2]
 ·rw[if_neg h,if_neg h]
theorem z6u(n:Nd)(h:n.ph=0)(b:Nat):n.out=1/\n.step b=(n.cnt b 11 1,z0W):=by
 constructor
 ·unfold Nd.out
  rw[if_neg (by omega),if_neg (by omega),if_neg (by omega),if_neg (by omega),if_neg (by omega)]
 ·unfold Nd.step
  rw[if_pos h]
theorem zgL{f:Hd}{l:List Nat}(hk:f.K=3):zD f l=rwX f l:=by
 unfold zD
 rw[if_neg (by omega),if_pos hk]
theorem zg5{f:Hd}{l:List Nat}(hk:f.K=3):zgy (zD f l)=0/\∃y,zD f l=zi (zk f.I.toNat)++y:=by
 rw[zgL hk]
 constructor
 ·rw[show rwX f l=((zi (zk f.I.toNat)++zC)++zv 8 false 1 (bxC f l)++[0,1,1])++[0] by simp[rwX,z0w],z6D,if_neg (by omega)]
 ·exact⟨zC++(zv 8 false 1 (bxC f l)++z0w),by simp[rwX]⟩
end Go.Proofs.YtkjjfnmeogpdbaaGreatDoor
namespace Go.Proofs.YtkjjfnmeogpdbaaGreatDoor
set_option linter.unusedVariables false
set_option linter.unusedSimpArgs false
open Go.RowKit
def zV(s:Sta)(v:Value):Value := .agg #[.int .i64 s.k,.int .i64 s.e,.int .i64 s.f.K,.int .u32 s.f.I,.bool s.f.X,.bool s.f.R,.bool s.f.B,.bool s.f.E,.bool s.f.S,.int .u8 s.f.D,.int .u8 s.f.V,.int .u32 s.f.A,v]
def ziE(s:Sta)(er:Nat)(e:Ending)(w':World):Prop:=∃a c,e = .returned (.tuple #[zV s (.slice a s.l.length c),.int .i64 er])/\Bs w' a c s.l
def rowS(kn:Bool)(x:List Nat):Sta:=if chk x then zT (scS kn x)else zf
def zhz(At:World->Value->Bool->List Nat->(Nat->Prop)->Prop)(w:World)(v:Value)(kn:Bool)(x:List Nat)(F:Nat->Prop)(e:Ending)(w':World):Prop :=
 ∃F',(∃a c,e = .returned (.tuple #[zV (zT (scS kn x)) (.slice a (zT (scS kn x)).l.length c),.int .i64 0])/\Bs w' a c (zT (scS kn x)).l/\∀b o t,a=some ⟨b,o,t⟩->F' b\/w.heap.size<=b) /\
  At w' v kn x F'/\Kp F w w'/\∀k,F' k->F k\/w.heap.size<=k
def seenL(l:List Nat)(j:Nat):List Nat:=(l.take j).filter (fun x=>decide (x<=1))
theorem seenL_len(l:List Nat)(j:Nat):(seenL l j).length<=l.length:=by
 unfold seenL
 have h1:=List.length_filter_le (fun x=>decide (x<=1)) (l.take j)
 rw[List.length_take]at h1
 omega
theorem seenL_bit(l:List Nat)(j:Nat):∀x∈seenL l j,x<=1:=by
 intro x hx
 have:=(List.mem_filter.1 hx).2
 simpa using this
theorem seenL_succ{l:List Nat}{j:Nat}(h:j < l.length):seenL l (j+1)=if l.getD j 0<=1 then seenL l j++[l.getD j 0]else seenL l j:=by
 unfold seenL
 rw[zJ (x:=l.getD j 0) (by simp[List.getD,List.getElem?_eq_getElem h]),List.filter_append]
 by_cases hb:l.getD j 0<=1
 ·rw[if_pos hb,List.filter_cons,if_pos (by simpa using hb)]
  rfl
 ·rw[if_neg hb,List.filter_cons,if_neg (by simpa using hb)]
  simp
theorem Bs.keepKp{G:Nat->Prop}{w w':World}{a:Option Addr}{c:Nat}{l:List Nat}(h:Bs w a c l)(hk:Kp G w w')(hn:∀b o t,a=some ⟨b,o,t⟩->¬G b):Bs w' a c l:=by
 refine⟨h.hcap,h.hmax,h.hbyte,fun hl => ?_⟩
 obtain⟨b,o,ha,hc⟩:=h.hcells hl
 refine⟨b,o,ha,fun j hj => ?_⟩
 have h1:=hc j hj
 have hb:=World.block_lt_of_cell? _ _ h1
 have e:=hk.block b hb (hn b o none ha)
 rw[<- h1]
 simp only[World.cell?,e]
end Go.Proofs.YtkjjfnmeogpdbaaGreatDoor
namespace Go.Proofs.YtkjjfnmeogpdbaaGreatDoor
set_option linter.unusedVariables false
set_option linter.unusedSimpArgs false
open Go.RowKit
def evV(e:Ev)(v:Value):Value:=zV ⟨e.k,e.e,e.f,e.l⟩ v
def stV(n:Nd):Value := .agg #[.int .i64 (n.ph:Nat),.int .i64 (n.count:Nat),.int .i64 n.fa.T,.int .i64 n.fa.R,.bool n.fa.O,.bool n.has]
def zi4(At:World->Value->Nd->(Nat->Prop)->Prop)(w:World)(kn:Bool)(e:Ending)(w':World):Prop :=
 ∃v F,e = .returned v/\At w' v (Nd.new kn) F/\(∀k,F k->w.heap.size<=k)/\Nb w w'
def zfn(At:World->Value->Nd->(Nat->Prop)->Prop)(w:World)(v:Value)(r:Nd × Ev)(F:Nat->Prop)(e:Ending)(w':World):Prop :=
 ∃F',(∃a c,e = .returned (.tuple #[evV r.2 (.slice a r.2.l.length c),.int .i64 0])/\Bs w' a c r.2.l/\∀b o t,a=some ⟨b,o,t⟩->¬F' b/\(F b\/w.heap.size<=b)) /\
  At w' v r.1 F'/\Kp F w w'/\∀k,F' k->F k\/w.heap.size<=k
def zb1(At:World->Value->Nd->(Nat->Prop)->Prop)(w:World)(v:Value)(n:Nd)(u:Value)(F:Nat->Prop)(e:Ending)(w':World):Prop :=
 ∃F',e = .returned u/\At w' v n F'/\Kp F w w'/\∀k,F' k->F k\/w.heap.size<=k
def EvOk(r:Nd × Ev):Prop:=(r.2.k=2->r.1.ph=4)/\(r.2.k=1->r.1.ph=8)/\(r.2.k≠1->r.2.k≠2->r.2.f=noF/\r.2.l=[])
theorem ev_plain(m:Nd)(e:Ev)(h:e.k≠1)(h2:e.k≠2)(hf:e.f=noF/\e.l=[]):EvOk (m,e):=⟨fun q=>absurd q h2,fun q=>absurd q h,fun _ _=>hf⟩
theorem ev_no(m:Nd):EvOk (m,z0W):=ev_plain m z0W (by decide) (by decide) ⟨rfl,rfl⟩
theorem ev_wrong(n:Nd)(ev:Int)(er:Nat):EvOk (n.wrong ev er):=ev_plain _ ⟨4,er,noF,[]⟩ (by show(4:Nat)≠1;omega) (by show(4:Nat)≠2;omega) ⟨rfl,rfl⟩
theorem ev_heard(n:Nd)(kind:Nat)(hk:kind=0\/kind=3):EvOk (n.heard kind):=by
 unfold Nd.heard
 split
 ·exact⟨fun _=>rfl,fun q=>by have q:(2:Nat)=1:=q;omega,fun _ q=>absurd rfl q⟩
 split
 ·exact ev_wrong _ _ _
 split
 ·exact ev_plain _ ⟨kind,0,noF,[]⟩ (by show kind≠1;omega) (by show kind≠2;omega) ⟨rfl,rfl⟩
 ·exact ev_plain _ ⟨kind,0,noF,[]⟩ (by show kind≠1;omega) (by show kind≠2;omega) ⟨rfl,rfl⟩
theorem ev_goOn(n:Nd):EvOk n.goOn:=by
 unfold Nd.goOn
 split
 ·exact ev_no _
 ·exact⟨fun q=>by have q:(1:Nat)=2:=q;omega,fun _=>rfl,fun q _=>absurd rfl q⟩
theorem ev_send(n:Nd)(b:Nat):EvOk (n.send b):=by
 unfold Nd.send
 split
 ·split
  ·exact ev_wrong _ _ _
  ·exact ev_goOn _
 split
 ·exact ev_goOn _
 split
 ·exact ev_heard _ 3 (.inr rfl)
 ·exact ev_wrong _ _ _
theorem ev_step(n:Nd)(b:Nat):EvOk (n.step b):=by
 unfold Nd.step
 split
 ·exact ev_no _
 split
 ·split
  ·exact ev_send _ _
  ·exact ev_no _
 split
 ·exact ev_send _ _
 split
 ·exact ev_heard _ 0 (.inl rfl)
 (repeat' split)<;>exact ev_no _
theorem zcM(kn:Bool)(k:Nat):(Nd.ones kn k).Ok:=by
 induction k with
 | zero=>exact zfu kn
 | succ k ih =>
   have:=(z4P ih (b:=1) (by omega)).ok
   rw[(z4x kn k).2]at this
   exact this
theorem zh7(kn:Bool)(k:Nat):(Nd.ones kn k).x=[]:=by
 unfold Nd.ones
 split<;>rfl
theorem Fr.w_bit{f:Hd}{l:List Nat}(h:Fr f l){i:Nat}(hi:i < (zD f l).length+10):(wF f l).getD i 0<=1:=by
 have:=h.raw_bit i
 rw[(h.bits i hi).1]
 split<;>omega
theorem ziD{n:Nd}(h:n.Ok):n.out<=1:=by
 unfold Nd.out
 split
 ·split<;>omega
 ·split
  ·rename_i h2
   obtain⟨q1,q2,_⟩:=h.p2 h2
   exact(h.fr q1).1.w_bit q2
  ·(repeat' split)<;>omega
theorem z7x(kn:Bool):(Nd.joined kn).Ok:=zcM kn 11
end Go.Proofs.YtkjjfnmeogpdbaaGreatDoor
namespace Go.Proofs.YtkjjfnmeogpdbaaGreatDoor
set_option linter.unusedVariables false
set_option linter.unusedSimpArgs false
open Go.RowKit
theorem zfq{f:Hd}{l:List Nat}(h:Fr f l)(i:Nat)(hi:i < (zD f l).length+13):prW f l i<=1:=by
 obtain⟨h1,h2,h3⟩:=zht h hi
 omega
theorem zhC{f:Hd}{l:List Nat}(h:Fr f l)(i:Nat):(prA f l i).x.length<=60100/\(prB f l i).x.length<=60100:=by
 have hl:=h.raw_len
 have ho:(onW f l).length=(zD f l).length+10:=z8M f l
 have ht:∀n,((onW f l).take n).length<=60100:=fun n=>by rw[List.length_take];omega
 unfold prA prB
 constructor
 ·(repeat' split)
  ·show([]:List Nat).length<=_;simp
  ·exact ht _
  ·show(onW f l).length<=_;omega
  ·show(onW f l).length<=_;omega
 ·(repeat' split)
  ·show([]:List Nat).length<=_;simp
  ·exact ht _
  ·exact ht _
  ·exact ht _
  ·exact ht _
end Go.Proofs.YtkjjfnmeogpdbaaGreatDoor
namespace Go.Proofs.YtkjjfnmeogpdbaaGreatDoor
set_option linter.unusedVariables false
set_option linter.unusedSimpArgs false
open Go.RowKit
def evC(e:Ev)(v:Value):List Value := .int .i64 (e.k:Nat) :: .int .i64 (e.e:Nat)::(e.f.cs v).toList
structure EvsAt(w:World)(a:Option Addr)(cap:Nat)(es:List Ev)(P:Nat->Prop):Prop where
 hcap:es.length<=cap
 hmax:cap<=maxLen
 hcells:0 < es.length->∃b,a=some ⟨b,0,none⟩/\P b/\∀j,j < es.length->∃a' c',(∀i u,(evC (es.getD j z0W) (.slice a' (es.getD j z0W).l.length c'))[i]? = some u->w.cell? ⟨b,j*13+i,none⟩=some u)/\Bs w a' c' (es.getD j z0W).l/\(∀b' o t,a'=some ⟨b',o,t⟩->0 < (es.getD j z0W).l.length->P b')
theorem Bs.keepKp0{G:Nat->Prop}{w w':World}{a:Option Addr}{c:Nat}{l:List Nat}(h:Bs w a c l)(hk:Kp G w w')(hn:∀b o t,a=some ⟨b,o,t⟩->0 < l.length->¬G b):Bs w' a c l:=by
 by_cases hl:0 < l.length
 ·exact h.keepKp hk (fun b o t e=>hn b o t e hl)
 ·exact⟨h.hcap,h.hmax,h.hbyte,fun q=>absurd q hl⟩
theorem EvsAt.keep{F:Nat->Prop}{w w':World}{a:Option Addr}{cap:Nat}{es:List Ev}{P:Nat->Prop}(h:EvsAt w a cap es P)(hk:Kp F w w')(hn:∀k,P k->¬F k):EvsAt w' a cap es P:=by
 refine⟨h.hcap,h.hmax,fun hl => ?_⟩
 obtain⟨b,ha,hp,hc⟩:=h.hcells hl
 refine⟨b,ha,hp,fun j hj => ?_⟩
 obtain⟨a',c',h1,h2,h3⟩:=hc j hj
 exact⟨a',c',fun i u hu=>by
  have q:=h1 i u hu
  have hlt:=World.block_lt_of_cell? _ _ q
  have e:=hk.block b hlt (hn b hp)
  rw[<- q]
  simp only[World.cell?,e],h2.keepKp0 hk (fun b' o t e hl=>hn b' (h3 b' o t e hl)),h3⟩
theorem EvsAt.nb{w w':World}{a:Option Addr}{cap:Nat}{es:List Ev}{P:Nat->Prop}(h:EvsAt w a cap es P)(hb:Nb w w'):EvsAt w' a cap es P:=h.keep (F:=fun _=>False) (Kp.ofNb hb) (by simp)
theorem EvsAt.at {w:World} {b cap:Nat} {es:List Ev} {P:Nat->Prop} (h:EvsAt w (some ⟨b,0,none⟩) cap es P) {j:Nat} (hj:j < es.length) {k e:Nat} {K I:Int} {X R B E S:Bool} {D V A:Int} {l:List Nat} (hf:es.getD j z0W=⟨k,e,⟨K,I,X,R,B,E,S,D,V,A⟩,l⟩) :
    ∃a' c',(w.cell? ⟨b,j*13,none⟩=some (.int .i64 (k:Nat))/\w.cell? ⟨b,j*13+1,none⟩=some (.int .i64 (e:Nat))/\w.cell? ⟨b,j*13+2,none⟩=some (.int .i64 K)/\w.cell? ⟨b,j*13+3,none⟩=some (.int .u32 I)/\w.cell? ⟨b,j*13+4,none⟩=some (.bool X)/\w.cell? ⟨b,j*13+5,none⟩=some (.bool R)/\w.cell? ⟨b,j*13+6,none⟩=some (.bool B)/\w.cell? ⟨b,j*13+7,none⟩=some (.bool E)/\w.cell? ⟨b,j*13+8,none⟩=some (.bool S)/\w.cell? ⟨b,j*13+9,none⟩=some (.int .u8 D)/\w.cell? ⟨b,j*13+10,none⟩=some (.int .u8 V)/\w.cell? ⟨b,j*13+11,none⟩=some (.int .u32 A)/\w.cell? ⟨b,j*13+12,none⟩=some (.slice a' l.length c')) /\
     Bs w a' c' l/\(∀b' o t,a'=some ⟨b',o,t⟩->0 < l.length->P b'):=by
 obtain⟨b',e',_,hc⟩:=h.hcells (by omega)
 simp only[Option.some.injEq,Addr.mk.injEq,and_true]at e'
 obtain⟨rfl,-⟩:=e'
 obtain⟨a',c',h1,h2,h3⟩:=hc j hj
 rw[hf]at h1 h2 h3
 exact⟨a',c',⟨h1 0 _ rfl,h1 1 _ rfl,h1 2 _ rfl,h1 3 _ rfl,h1 4 _ rfl,h1 5 _ rfl,h1 6 _ rfl,h1 7 _ rfl,h1 8 _ rfl,h1 9 _ rfl,h1 10 _ rfl,h1 11 _ rfl,h1 12 _ rfl⟩,h2,h3⟩
def dN:Nd:=Nd.new false
def busV(ns:List Nd):Nat:=(ns.map Nd.out).foldl min 1
def smpB(W t j:Nat):Nat:=if t / 2^j%2=0 then W else 1 - W
def nextT(ns:List Nd)(t:Nat):List Nd:=(List.range ns.length).map fun j=>((ns.getD j dN).step (smpB (busV ns) t j)).1
def evsT(ns:List Nd)(t:Nat):List Ev:=(List.range ns.length).map fun j=>((ns.getD j dN).step (smpB (busV ns) t j)).2
def wireB(line:List Nat):List Nat:=line.drop (line.length - 65536)
theorem nextT_len(ns:List Nd)(t:Nat):(nextT ns t).length=ns.length:=by simp[nextT]
theorem evsT_len(ns:List Nd)(t:Nat):(evsT ns t).length=ns.length:=by simp[evsT]
theorem evsT_get(ns:List Nd)(t:Nat){j:Nat}(h:j < ns.length):(evsT ns t).getD j z0W=((ns.getD j dN).step (smpB (busV ns) t j)).2:=by simp[evsT,List.getD,h]
theorem nextT_get(ns:List Nd)(t:Nat){j:Nat}(h:j < ns.length):(nextT ns t).getD j dN=((ns.getD j dN).step (smpB (busV ns) t j)).1:=by simp[nextT,List.getD,h]
theorem smpB_le{W t j:Nat}(h:W<=1):smpB W t j<=1:=by unfold smpB;split<;>omega
theorem smpB_zero(W j:Nat):smpB W 0 j=W:=by unfold smpB;rw[if_pos (by simp)]
theorem ext_map{α:Type}(ns:List Nd)(g:Nd->α):(List.range ns.length).map (fun j=>g (ns.getD j dN))=ns.map g:=by
 apply List.ext_getElem
 ·simp
 ·intro i h1 h2
  simp at h1 h2
  simp[List.getD,h1]
theorem nextT_zero(ns:List Nd):nextT ns 0=ns.map fun n=>(n.step (busV ns)).1:=by
 unfold nextT
 simp only[smpB_zero]
 exact ext_map ns fun n=>(n.step (busV ns)).1
theorem evsT_zero(ns:List Nd):evsT ns 0=ns.map fun n=>(n.step (busV ns)).2:=by
 unfold evsT
 simp only[smpB_zero]
 exact ext_map ns fun n=>(n.step (busV ns)).2
theorem busV_le(ns:List Nd):busV ns<=1:=by
 unfold busV
 have key:∀(os:List Nat) (a:Nat),os.foldl min a<=a:=by
  intro os
  induction os with
  | nil=>intro a;exact Nat.le_refl _
  | cons o os ih=>intro a;rw[List.foldl_cons];exact Nat.le_trans (ih _) (Nat.min_le_left _ _)
 exact key _ 1
def AllOk(ns:List Nd):Prop:=∀j,j < ns.length->(ns.getD j dN).Ok
theorem AllOk.next{ns:List Nd}(h:AllOk ns)(t:Nat):AllOk (nextT ns t):=fun j hj=>by
 rw[nextT_len]at hj
 rw[nextT_get ns t hj]
 exact(z4P (h j hj) (smpB_le (busV_le ns))).ok
def AllX(k:Nat)(ns:List Nd):Prop:=∀j,j < ns.length->(ns.getD j dN).x.length<=k
def NewB(At:World->Value->List Nd->List Nat->(Nat->Prop)->Prop)(w:World)(kns:List Bool)(e:Ending)(w':World):Prop :=
 ∃R F,e = .returned (.tuple #[.pointer (some ⟨R,0,none⟩),.int .i64 0])/\At w' (.pointer (some ⟨R,0,none⟩)) (kns.map Nd.new) [] F/\(∀k,F k->w.heap.size<=k)/\Nb w w'
def TurnB(At:World->Value->List Nd->List Nat->(Nat->Prop)->Prop)(w:World)(v:Value)(ns:List Nd)(line:List Nat)(u:Value)(F:Nat->Prop)(e:Ending)(w':World):Prop :=
 ∃F',e = .returned u/\At w' v ns line F'/\Kp F w w'/\∀k,F' k->F k\/w.heap.size<=k
def StepB(At:World->Value->List Nd->List Nat->(Nat->Prop)->Prop)(w:World)(v:Value)(ns:List Nd)(line:List Nat)(t:Nat)(F:Nat->Prop)(e:Ending)(w':World):Prop :=
 ∃F' a c P,e = .returned (.tuple #[.slice a (evsT ns t).length c,.int .i64 0])/\EvsAt w' a c (evsT ns t) P/\(∀k,P k->k < w'.heap.size/\¬F' k/\(F k\/w.heap.size<=k))/\At w' v (nextT ns t) (wireB (line++[busV ns])) F'/\Kp F w w'/\∀k,F' k->F k\/w.heap.size<=k
end Go.Proofs.YtkjjfnmeogpdbaaGreatDoor
namespace Go.Proofs.YtkjjfnmeogpdbaaGreatDoor
set_option linter.unusedVariables false
set_option linter.unusedSimpArgs false
open Go.RowKit
theorem may_ev{n:Nd}(h:n.Ok){b:Nat}(hb:b<=1):((n.step b).2.k=2\/(n.step b).2.k=1->0 < (n.step b).2.f.K/\okF (n.step b).2.f (n.step b).2.l=true)/\((n.step b).2.k≠1->(n.step b).2.k≠2->(n.step b).2.f.K=0):=by
 have so:=z4P h hb
 obtain⟨_,_,e3⟩:=ev_step n b
 refine⟨fun hk => ?_,fun h1 h2=>by rw[(e3 h1 h2).1];rfl⟩
 have ok:okF (n.step b).2.f (n.step b).2.l=true:=by
  rcases hk with hk | hk
  ·exact(so.got hk).1.ok
  ·obtain⟨q1,q2,q3⟩:=so.sent hk
   rw[q1,q2]
   exact(h.fr q3).1.ok
 exact⟨by have:=z6o ok;omega,ok⟩
def duA(f:Hd)(l:List Nat)(k:Nat):Nd :=
 if k < 11 then { Nd.ones true k with has:=true,f:=f,l:=l }
 else if k < (zD f l).length+25 then prA f l (k - 11)
 else { prA f l ((zD f l).length+13)with snd:=false }
def duB(f:Hd)(l:List Nat)(k:Nat):Nd :=
 if k < 11 then Nd.ones true k
 else if k < (zD f l).length+25 then prB f l (k - 11)
 else prB f l ((zD f l).length+13)
def duW(f:Hd)(l:List Nat)(k:Nat):Nat:=if k < 11 then 1 else if k < (zD f l).length+24 then prW f l (k - 11)else 1
theorem duA_step{f:Hd}{l:List Nat}(h:Fr f l)(k:Nat):(duA f l k).step (duW f l k)=(duA f l (k+1),if k+1=(zD f l).length+21 then⟨1,0,f,l⟩else z0W):=by
 have hl:=h.raw_len
 unfold duA duW
 by_cases h1:k < 11
 ·rw[if_pos h1,if_pos h1,if_neg (show ¬k+1=(zD f l).length+21 by omega)]
  have e:Nd.ones true k={ Nd.new true with c:=k }:=if_pos h1
  rw[e]
  refine(ze0 { Nd.new true with c:=k,has:=true,f:=f,l:=l } rfl).2.trans ?_
  by_cases h2:k+1 < 11
  ·rw[if_pos h2,if_neg (by show ¬k+1=11;omega),show Nd.ones true (k+1)={ Nd.new true with c:=k+1 } from if_pos h2]
  ·rw[if_neg h2,if_pos (by show k+1=11;omega),if_pos (by omega),show k+1 - 11=0 by omega]
   rfl
 rw[if_neg h1,if_neg h1,if_neg (show ¬k+1 < 11 by omega)]
 by_cases h2:k < (zD f l).length+24
 ·rw[if_pos (show k < (zD f l).length+25 by omega),if_pos h2,if_pos (show k+1 < (zD f l).length+25 by omega),(z9o h (by omega)).2,show k - 11+1=k+1 - 11 by omega]
  by_cases h3:k+1=(zD f l).length+21
  ·rw[if_pos h3,if_pos (by omega)]
  ·rw[if_neg h3,if_neg (by omega)]
 rw[if_neg h2,if_neg (show ¬k+1=(zD f l).length+21 by omega),if_neg (show ¬k+1 < (zD f l).length+25 by omega)]
 obtain⟨e1,_,e3,_⟩:=ziI f l
 by_cases h3:k < (zD f l).length+25
 ·rw[if_pos h3,show k - 11=(zD f l).length+13 by omega]
  exact(zeP _ e1 e3).2
 ·rw[if_neg h3]
  exact(zeP { prA f l ((zD f l).length+13)with snd:=false } e1 e3).2
theorem duB_end(f:Hd)(l:List Nat):(prB f l ((zD f l).length+13)).snd=false:=by
 unfold prB
 rw[if_neg (by omega),if_neg (by omega),if_neg (by omega),if_neg (by omega)]
 rfl
theorem duB_step{f:Hd}{l:List Nat}(h:Fr f l)(k:Nat):(duB f l k).step (duW f l k)=(duB f l (k+1),if k+1=(zD f l).length+20 then⟨2,0,f,l⟩else z0W):=by
 have hl:=h.raw_len
 unfold duB duW
 by_cases h1:k < 11
 ·rw[if_pos h1,if_pos h1,if_neg (show ¬k+1=(zD f l).length+20 by omega),(z4x true k).2]
  by_cases h2:k+1 < 11
  ·rw[if_pos h2]
  ·rw[if_neg h2,if_pos (by omega),show k+1 - 11=0 by omega]
   unfold Nd.ones
   rw[if_neg h2]
   rfl
 rw[if_neg h1,if_neg h1,if_neg (show ¬k+1 < 11 by omega)]
 by_cases h2:k < (zD f l).length+24
 ·rw[if_pos (show k < (zD f l).length+25 by omega),if_pos h2,if_pos (show k+1 < (zD f l).length+25 by omega),(z9S h (by omega)).2,show k - 11+1=k+1 - 11 by omega]
  by_cases h3:k+1=(zD f l).length+20
  ·rw[if_pos h3,if_pos (by omega)]
  ·rw[if_neg h3,if_neg (by omega)]
 rw[if_neg h2,if_neg (show ¬k+1=(zD f l).length+20 by omega),if_neg (show ¬k+1 < (zD f l).length+25 by omega)]
 obtain⟨_,_,_,_,e1,_,e3,_⟩:=ziI f l
 have es:=duB_end f l
 have key:(prB f l ((zD f l).length+13)).step 1=(prB f l ((zD f l).length+13),z0W):=by
  refine(zeP _ e1 e3).2.trans ?_
  generalize prB f l ((zD f l).length+13)=n at es
  cases n
  cases es
  rfl
 by_cases h3:k < (zD f l).length+25
 ·rw[if_pos h3,show k - 11=(zD f l).length+13 by omega]
  exact key
 ·rw[if_neg h3]
  exact key
theorem du_bus{f:Hd}{l:List Nat}(h:Fr f l)(k:Nat):(duA f l k).out<=1/\(duB f l k).out<=1/\min (duA f l k).out (duB f l k).out=duW f l k:=by
 have hl:=h.raw_len
 unfold duA duB duW
 by_cases h1:k < 11
 ·rw[if_pos h1,if_pos h1,if_pos h1,(z4x true k).1]
  have e:Nd.ones true k={ Nd.new true with c:=k }:=if_pos h1
  rw[e,(ze0 { Nd.new true with c:=k,has:=true,f:=f,l:=l } rfl).1]
  exact⟨by omega,by omega,rfl⟩
 rw[if_neg h1,if_neg h1,if_neg h1]
 obtain⟨e1,_,e3,_,e5,_,e7,_⟩:=ziI f l
 by_cases h2:k < (zD f l).length+24
 ·rw[if_pos (show k < (zD f l).length+25 by omega),if_pos (show k < (zD f l).length+25 by omega),if_pos h2]
  exact zht h (by omega)
 rw[if_neg h2]
 by_cases h3:k < (zD f l).length+25
 ·rw[if_pos h3,if_pos h3,show k - 11=(zD f l).length+13 by omega,(zeP _ e1 e3).1,(zeP _ e5 e7).1]
  exact⟨by omega,by omega,rfl⟩
 ·rw[if_neg h3,if_neg h3,(zeP { prA f l ((zD f l).length+13)with snd:=false } e1 e3).1,(zeP _ e5 e7).1]
  exact⟨by omega,by omega,rfl⟩
theorem duW_le{f:Hd}{l:List Nat}(h:Fr f l)(k:Nat):duW f l k<=1:=by
 obtain⟨h1,h2,h3⟩:=du_bus h k
 omega
theorem du_new{f:Hd}{l:List Nat}(h:Fr f l):(Nd.new true).loadE f l=0/\(Nd.new true).load f l=duA f l 0/\Nd.new true=duB f l 0:=by
 have e:(Nd.new true).loadE f l=0:=by
  unfold Nd.loadE
  rw[h.ok]
  simp[Nd.new]
 refine⟨e,?_,?_⟩
 ·unfold Nd.load
  rw[if_pos e]
  rfl
 ·unfold duB
  rw[if_pos (by omega)]
  rfl
theorem duA_ok{f:Hd}{l:List Nat}(h:Fr f l)(k:Nat):(duA f l k).Ok:=by
 induction k with
 | zero =>
   rw[<- (du_new h).2.1]
   exact zdl (zfu true) h.wd h.b (fun hh=>by cases hh)
 | succ k ih =>
   have so:=z4P ih (duW_le h k)
   rw[duA_step h]at so
   exact so.ok
theorem duB_ok{f:Hd}{l:List Nat}(h:Fr f l)(k:Nat):(duB f l k).Ok:=by
 induction k with
 | zero =>
   rw[<- (du_new h).2.2]
   exact zfu true
 | succ k ih =>
   have so:=z4P ih (duW_le h k)
   rw[duB_step h]at so
   exact so.ok
theorem duA_drop{f:Hd}{l:List Nat}(h:Fr f l){k:Nat}(hk:k < 40):(duA f l k).has=true/\(duA f l k).dropB=decide (k < 12):=by
 have hl:=h.raw_len
 have hh:(duA f l k).has=true/\(duA f l k).ph=(if k < 12 then(if k < 11 then 0 else 1)else 2):=by
  unfold duA
  by_cases h1:k < 11
  ·rw[if_pos h1,if_pos (show k < 12 by omega),if_pos h1,show Nd.ones true k={ Nd.new true with c:=k } from if_pos h1]
   exact⟨rfl,rfl⟩
  rw[if_neg h1,if_pos (by omega)]
  unfold prA
  by_cases h2:k < 12
  ·rw[if_pos (by omega),if_pos h2,if_neg h1]
   exact⟨rfl,rfl⟩
  ·rw[if_neg (by omega),if_pos (by omega),if_neg h2]
   exact⟨rfl,rfl⟩
 refine⟨hh.1,?_⟩
 unfold Nd.dropB
 rw[hh.1,hh.2]
 by_cases h2:k < 12
 ·rw[if_pos h2,decide_eq_true h2]
  by_cases h1:k < 11
  ·rw[if_pos h1];rfl
  ·rw[if_neg h1];rfl
 ·rw[if_neg h2,decide_eq_false h2]
  rfl
theorem duA_again{f g:Hd}{l m:List Nat}(h:Fr f l)(hg:Fr g m){k:Nat}(hk:k < 12):(duA f l k).drop.loadE g m=0/\(duA f l k).drop.load g m=duA g m k:=by
 have hl:=h.raw_len
 have hl2:=hg.raw_len
 have hd:(duA f l k).dropB=true:=by rw[(duA_drop h (by omega)).2];exact decide_eq_true hk
 have hx:(duA f l k).drop={ duA f l k with has:=false }:=by
  unfold Nd.drop
  rw[if_pos hd]
 have hkn:(duA f l k).kn=true:=by
  unfold duA
  by_cases h1:k < 11
  ·rw[if_pos h1,show Nd.ones true k={ Nd.new true with c:=k } from if_pos h1]
   rfl
  ·rw[if_neg h1,if_pos (by omega)]
   unfold prA
   rw[if_pos (by omega)]
   rfl
 have e:(duA f l k).drop.loadE g m=0:=by
  rw[hx]
  unfold Nd.loadE
  rw[hg.ok,if_neg (by simp),if_neg (by show ¬(g.K=3/\(duA f l k).kn=false);rw[hkn];simp),if_neg (by simp)]
 refine⟨e,?_⟩
 unfold Nd.load
 rw[if_pos e,hx]
 unfold duA
 by_cases h1:k < 11
 ·rw[if_pos h1,if_pos h1]
 ·rw[if_neg h1,if_neg h1,if_pos (by omega),if_pos (by omega),show k - 11=0 by omega]
  rfl
theorem short_wire{f:Hd}{l:List Nat}(h:Fr f l)(hl:l.length<=16):(zD f l).length<=400:=by
 have hok:=h.ok
 unfold zD
 rcases z6o hok with hk | hk | hk
 ·have ho:okC f l=true:=by simp[okC,hk,hok]
  obtain⟨P,hP,_,_,_,g,_⟩:=z7W ho
  rw[if_neg (by omega),if_neg (by omega)]
  omega
 ·have ho:okD f l=true:=by simp[okD,hk,hok]
  have h1:=z5p ho
  have h3:=(zu (bdC f l)).1
  have h4:=zfr f l
  rw[if_neg (by omega)]at h4
  rw[if_pos hk]
  omega
 ·have ho:okX f l=true:=by simp[okX,hk,hok]
  have h1:=z9v ho
  have h2:=(zu (zk f.I.toNat)).1
  rw[zU]at h2
  have h4:=zgH f l
  have h5:szF 8 false (bxC f l).length<=(bxC f l).length+(bxC f l).length / 8+1:=by
   unfold szF
   split
   ·omega
   ·simp only[Bool.toNat_false]
    omega
  rw[if_neg (by omega),if_pos hk]
  omega
end Go.Proofs.YtkjjfnmeogpdbaaGreatDoor
