/- What a row is (layer 9) looked at anew, as the document's Last does, on lists: it is what the automaton tells, of a row whose beginnings are none of them at an end. No program here. No conditions. What a row is (layer 9) looked at anew is what the automaton tells, of a row whose beginnings are none of them at an end. No program here. No conditions. What a row is (layer 9) looked at anew is what the automaton tells: step by step. No program here. No conditions. A node (layer 12) as plain data: what it drives, what a bit does; a frame sent, a frame received, bit by bit; one alone; one without a frame. No program here. No conditions but the fields' own widths. What is done is a frame that may be (layer 9); what is so of a node, whatever comes (layer 12). No program here. No conditions. What is so of a node, whatever comes (layer 12): its counters, its frame, its row, its count. No program here. No conditions. Nodes (layer 12) as plain data: two of them, one with a frame; a third that doesn't know it. No program here. No conditions but the fields' own widths. What layer 9's contracts speak of: a status as a value, the answers of a row and of a machine. No program's own parts. No conditions. What layer 12's contracts speak of: events and states as values, what a call of a node leaves. No program's own parts. No conditions. Two nodes, one of them with a frame (layer 12): both are as nodes must be at each bit; rows are short. No program here. No conditions but the fields' own widths. -/
import Derived.Test.YtipefblpppmabaaGreatDoorScK
import Derived.Test.YtipefblpppmabaaGreatDoorFaP
import Derived.Test.YtipefblpppmabaaGreatDoorGj
set_option maxHeartbeats 2000000
namespace Go.Proofs.YtipefblpppmabaaGreatDoor
set_option linter.unusedVariables false
set_option linter.unusedSimpArgs false
open Go.RowKit
def tlGo (ok:Bool):Nat->List Nat->Nat
 | _,[]=>0
 | i,b::t=>if i=2/\ok=false then 6 else if i≠1/\b=0 then 5 else tlGo ok (i+1) t
theorem bit01 {l:List Nat} (hb:∀ b∈l,b<=1) (i:Nat):bitG l i=0\/bitG l i=1:=by
 unfold bitG
 by_cases hi:i < l.length
 ·have:=hb _ (List.getElem_mem hi)
  simp only[List.getD,List.getElem?_eq_getElem hi,Option.getD_some]
  omega
 ·simp[List.getD,List.getElem?_eq_none (by omega:l.length<=i)]
section
variable {kn:Bool} {B:Nat->(List Nat->Nat->Sta)->Sta} {x l:List Nat} {E:Sta} {pl:Nat->Nat}
end
end Go.Proofs.YtipefblpppmabaaGreatDoor
namespace Go.Proofs.YtipefblpppmabaaGreatDoor
set_option linter.unusedVariables false
set_option linter.unusedSimpArgs false
open Go.RowKit
structure HdJ (kn:Bool) (h:List Nat) (J:Jd):Prop where
 ok:okS h=true
 last:lastS h=false
 bit:∀ b∈h,b<=1
 ne:tell h≠[]
 on:∀ j,1<=j->j < (tell h).length->judge kn ((tell h).take j) = .on
 jd:judge kn (tell h)=J
def FrontS (kn:Bool) (u:List Nat) (ok:Bool) (f:Hd) (l:List Nat):Prop :=
 (HdJ kn u .cl/\ok=fitsB 1 (tell u)/\f=clF (tell u)/\l=clD (tell u)) \/
 (∃ h y,u=h++y/\HdJ kn h .fd/\(fgS 4 true (lastB h) y).ok=true/\y.length=fdM h/\ok=fdFits h y/\f=fdF (tell h)/\l=fdD (tell h)) \/
 (∃ h y,u=h++(startX++(y++stopX))/\HdJ kn h .xl/\(fgS 8 false 1 y).ok=true/\xdEnd y=true/\ok=xlFits h y/\f=xlF (tell h) (xo y)/\l=xlD (xo y))
def FormS (kn:Bool) (x:List Nat):Ph->Prop
 | .dyn x'=>x'=x/\okS x=true/\∀ j,1<=j->j<=(tell x).length->judge kn ((tell x).take j) = .on
 | .fx h y=>x=h++y/\HdJ kn h .fd/\(fgS 4 true (lastB h) y).ok=true/\y.length < fdM h
 | .xs h y=>x=h++y/\HdJ kn h .xl/\y.length < 4/\y=startX.take y.length
 | .xd h y=>x=h++(startX++y)/\HdJ kn h .xl/\(fgS 8 false 1 y).ok=true/\∀ j,j<=y.length->xdEnd (y.take j)=false
 | .xe h y z=>x=h++(startX++(y++z))/\HdJ kn h .xl/\(fgS 8 false 1 y).ok=true/\xdEnd y=true/\z.length < 4/\z=stopX.take z.length
 | .tail ok f l t=>t.length<=8/\tlGo ok 0 t=0/\∃ u,x=u++t/\FrontS kn u ok f l
 | .fin _=>True
theorem take_snoc {s z:List Nat} {b:Nat} (hz:z=s.take z.length) (hl:z.length < s.length) (hb:b=s.getD z.length 0):z++[b]=s.take (z++[b]).length:=by
 rw[List.length_append,List.length_singleton,List.take_add_one,<- hz,hb]
 congr 1
 simp[List.getD,hl]
theorem take4 {s z:List Nat} (hs:s.length=4) (h:z=s.take z.length) (h4:z.length=4):z=s:=by
 rw[h4] at h
 rw[h,List.take_of_length_le (by omega)]
theorem tlGo_snoc (ok:Bool) (b:Nat):∀ (t:List Nat) (i:Nat),tlGo ok i t=0->tlGo ok i (t++[b])=if i+t.length=2/\ok=false then 6 else if i+t.length≠1/\b=0 then 5 else 0:=by
 intro t
 induction t with
 | nil=>intro i _;simp[tlGo]
 | cons c t ih =>
   intro i h
   rw[List.cons_append]
   unfold tlGo at h ⊢
   split at h
   ·omega
   ·rename_i h1
    rw[if_neg h1]
    split at h
    ·omega
    ·rename_i h2
     rw[if_neg h2,ih (i+1) h,List.length_cons]
     simp only[show i+1+t.length=i+(t.length+1) by omega]
theorem startX_len:startX.length=4:=rfl
theorem stopX_len:stopX.length=4:=rfl
theorem form_step {kn:Bool} {x:List Nat} {p:Ph} {b:Nat} (hx:∀ c∈x++[b],c<=1) (h:FormS kn x p):FormS kn (x++[b]) (stepS kn p b):=by
 have hx':∀ c∈x,c<=1:=fun c hc=>hx c (by simp[hc])
 cases p with
 | dyn y =>
   obtain⟨rfl,ho,hj⟩:=h
   simp only[stepS]
   cases hf:full y with
   | true =>
     rw[if_pos rfl]
     split
     ·trivial
     ·rename_i hb
      refine⟨rfl,?_,?_⟩
      ·rw[okS_snoc,ho,hf]
       simpa using hb
      ·rw[tell_snoc,hf,if_pos rfl]
       exact hj
   | false =>
     rw[if_neg (by simp)]
     have ht:tell (y++[b])=tell y++[b]:=by rw[tell_snoc,hf];simp
     have hs:okS (y++[b])=true:=by rw[okS_snoc,ho,hf];rfl
     have hlast:lastS (y++[b])=false:=by rw[lastS_snoc,hf]
     have hon:∀ j,1<=j->j < (tell (y++[b])).length->judge kn ((tell (y++[b])).take j) = .on:=by
      intro j h1 h2
      rw[ht,List.length_append,List.length_singleton] at h2
      rw[ht,List.take_append_of_le_length (by omega)]
      exact hj j h1 (by omega)
     have hne:tell (y++[b])≠[]:=by rw[ht];simp
     have HJ:∀ J,judge kn (tell y++[b])=J->HdJ kn (y++[b]) J:=fun J hJ=>⟨hs,hlast,hx,hne,hon,by rw[ht];exact hJ⟩
     cases hq:judge kn (tell y++[b]) with
     | on =>
       refine⟨rfl,hs,fun j h1 h2 => ?_⟩
       by_cases h3:j < (tell (y++[b])).length
       ·exact hon j h1 h3
       ·rw[List.take_of_length_le (by omega),ht]
        exact hq
     | bad=>trivial
     | alien=>trivial
     | cl =>
       refine⟨Nat.zero_le _,rfl,y++[b],by simp,.inl ⟨HJ _ hq,?_⟩⟩
       rw[ht]
       exact⟨rfl,rfl,rfl⟩
     | fd=>exact⟨by simp,HJ _ hq,rfl,by unfold fdM;split<;>decide⟩
     | xl=>exact⟨by simp,HJ _ hq,by decide,by simp⟩
 | fx h0 y =>
   obtain⟨rfl,H,ho,hl⟩:=h
   simp only[stepS]
   cases hq:(fgS 4 true (lastB h0) (y++[b])).ok with
   | false=>rw[if_neg (by simp)];trivial
   | true =>
     rw[if_pos rfl]
     split
     ·rename_i hm
      exact⟨Nat.zero_le _,rfl,h0++(y++[b]),by simp,.inr (.inl ⟨h0,y++[b],rfl,H,hq,hm,rfl,rfl,rfl⟩)⟩
     ·rename_i hm
      refine⟨by simp,H,hq,?_⟩
      rw[List.length_append,List.length_singleton] at hm ⊢
      omega
 | xs h0 y =>
   obtain⟨rfl,H,hl,hy⟩:=h
   simp only[stepS]
   split
   ·rename_i hb
    have hs:=take_snoc hy (by rw[startX_len];exact hl) hb
    split
    ·rename_i h3
     have h4:=take4 startX_len hs (by rw[List.length_append,List.length_singleton,h3])
     refine⟨by rw[List.append_assoc,h4];simp,H,rfl,fun j hj => ?_⟩
     have:j=0:=by simpa using hj
     subst this
     rfl
    ·exact⟨by simp,H,by rw[List.length_append,List.length_singleton];omega,hs⟩
   ·trivial
 | xd h0 y =>
   obtain⟨rfl,H,ho,hj⟩:=h
   simp only[stepS]
   cases hq:(fgS 8 false 1 (y++[b])).ok with
   | false=>rw[if_neg (by simp)];trivial
   | true =>
     rw[if_pos rfl]
     cases he:xdEnd (y++[b]) with
     | true =>
       rw[if_pos rfl]
       exact⟨by simp,H,hq,he,by decide,by simp⟩
     | false =>
       rw[if_neg (by simp)]
       refine⟨by simp,H,hq,fun j h1 => ?_⟩
       rw[List.length_append,List.length_singleton] at h1
       by_cases h2:j<=y.length
       ·rw[List.take_append_of_le_length h2]
        exact hj j h2
       ·rw[List.take_of_length_le (by rw[List.length_append,List.length_singleton];omega)]
        exact he
 | xe h0 y z =>
   obtain⟨rfl,H,ho,he,hl,hz⟩:=h
   simp only[stepS]
   split
   ·rename_i hb
    have hs:=take_snoc hz (by rw[stopX_len];exact hl) hb
    split
    ·rename_i h3
     have h4:=take4 stopX_len hs (by rw[List.length_append,List.length_singleton,h3])
     exact⟨Nat.zero_le _,rfl,h0++(startX++(y++(z++[b]))),by simp,.inr (.inr ⟨h0,y,by rw[h4],H,ho,he,rfl,rfl,rfl⟩)⟩
    ·exact⟨by simp,H,ho,he,by rw[List.length_append,List.length_singleton];omega,hs⟩
   ·trivial
 | tail ok f l t =>
   obtain⟨hl,ht,u,rfl,hF⟩:=h
   simp only[stepS]
   by_cases h1:t.length=2/\ok=false
   ·rw[if_pos h1];trivial
   rw[if_neg h1]
   by_cases h2:t.length≠1/\b=0
   ·rw[if_pos h2];trivial
   rw[if_neg h2]
   by_cases h8:t.length=8
   ·rw[if_pos h8];trivial
   rw[if_neg h8]
   refine⟨by rw[List.length_append,List.length_singleton];omega,?_,u,by simp,hF⟩
   rw[tlGo_snoc ok b t 0 ht,Nat.zero_add,if_neg h1,if_neg h2]
 | fin s=>trivial
theorem form_all (kn:Bool) {x:List Nat}:(∀ c∈x,c<=1)->FormS kn x (scS kn x):=by
 refine snocInd (P:=fun x=>(∀ c∈x,c<=1)->FormS kn x (scS kn x)) (fun _=>⟨rfl,rfl,fun j h1 h2 => ?_⟩) (fun x b ih hx => ?_) x
 ·have:j<=0:=h2
  omega
 ·rw[scS,goS_snoc,<- scS]
  exact form_step hx (ih (fun c hc=>hx c (by simp[hc])))
end Go.Proofs.YtipefblpppmabaaGreatDoor
namespace Go.Proofs.YtipefblpppmabaaGreatDoor
set_option linter.unusedVariables false
set_option linter.unusedSimpArgs false
open Go.RowKit
theorem fin_big {kn:Bool} {x:List Nat}:∀ {s:Sta},scS kn x = .fin s->2<=s.k:=by
 have key:∀ s,scS kn x = .fin s->2<=s.k:=by
  refine snocInd (P:=fun x=>∀ s,scS kn x = .fin s->2<=s.k) (fun s h=>(by cases h)) (fun x b ih => ?_) x
  intro s hs
  rw[scS,goS_snoc,<- scS] at hs
  generalize scS kn x=p at *
  cases p with
  | dyn y =>
    simp only[stepS] at hs
    split at hs
    ·split at hs
     ·cases hs;simp[badS]
     ·cases hs
    ·cases hq:judge kn (tell y++[b])<;>rw[hq] at hs<;>simp only[afterJ] at hs<;>cases hs<;>simp[badS]
  | fx h y=>simp only[stepS] at hs;(repeat' split at hs)<;>cases hs<;>simp[badS]
  | xs h y=>simp only[stepS] at hs;(repeat' split at hs)<;>cases hs<;>simp[badS]
  | xd h y=>simp only[stepS] at hs;(repeat' split at hs)<;>cases hs<;>simp[badS]
  | xe h y z=>simp only[stepS] at hs;(repeat' split at hs)<;>cases hs<;>simp[badS]
  | tail ok f l t=>simp only[stepS] at hs;(repeat' split at hs)<;>cases hs<;>simp[badS]
  | fin s'=>exact ih s hs
 exact fun {s} h=>key s h
end Go.Proofs.YtipefblpppmabaaGreatDoor
namespace Go.Proofs.YtipefblpppmabaaGreatDoor
set_option linter.unusedVariables false
set_option linter.unusedSimpArgs false
open Go.RowKit
structure Ev where
 k:Nat
 e:Nat
 f:Hd
 l:List Nat
def noEv:Ev:=⟨0,0,noF,[]⟩
structure Nd where
 kn:Bool
 has:Bool
 f:Hd
 l:List Nat
 ph:Nat
 c:Nat
 x:List Nat
 pas:Bool
 snd:Bool
 fa:Fa
def Nd.new (kn:Bool):Nd:=⟨kn,false,noF,[],0,0,[],false,false,Fa.zero⟩
def Nd.to (n:Nd) (p:Nat):Nd:={ n with ph:=p,c:=0 }
def Nd.sta (n:Nd):Sta:=staOf (scS n.kn n.x)
def Nd.out (n:Nd):Nat :=
 if n.ph=1 then (if n.has then 0 else 1)
 else if n.ph=2 then (wF n.f n.l).getD n.c 0
 else if n.ph=3 then (if n.sta.k=1 then 0 else 1)
 else if n.ph=5 then (if n.pas then 1 else 0)
 else if n.ph=6 then 0 else 1
def Nd.wrong (n:Nd) (ev:Int) (er:Nat):Nd × Ev :=
 ({ n with fa:=doFa n.fa ev,pas:=isFa (doFa n.fa ev)==1,ph:=if (doFa n.fa ev).O then 10 else 5,c:=0 },⟨4,er,noF,[]⟩)
def Nd.heard (n:Nd) (kind:Nat):Nd × Ev :=
 if n.sta.k=2 then ({ n with fa:=doFa n.fa 2,ph:=4,c:=0 },⟨2,0,n.sta.f,n.sta.l⟩)
 else if n.sta.k=3 then n.wrong 4 n.sta.e
 else if n.sta.k=4 then (n.to 0,⟨kind,0,noF,[]⟩)
 else (n,⟨kind,0,noF,[]⟩)
def Nd.goOn (n:Nd):Nd × Ev :=
 if n.c+1 < (wF n.f n.l).length then ({ n with c:=n.c+1 },noEv)
 else ({ n with has:=false,fa:=doFa n.fa 1,ph:=8,c:=0 },⟨1,0,n.f,n.l⟩)
def Nd.send (n:Nd) (b:Nat):Nd × Ev :=
 if n.c=ackF n.f n.l then (if b=1 then Nd.wrong { n with x:=n.x++[b] } 5 9 else Nd.goOn { n with x:=n.x++[b] })
 else if b=(wF n.f n.l).getD n.c 0 then Nd.goOn { n with x:=n.x++[b] }
 else if (wF n.f n.l).getD n.c 0=1/\n.c < arbF n.f n.l then Nd.heard { n with x:=n.x++[b],ph:=3,c:=0,snd:=false } 3
 else Nd.wrong { n with x:=n.x++[b] } 3 5
def Nd.cnt (n:Nd) (b most p:Nat):Nd:=if b=0 then { n with c:=0 } else if n.c+1=most then n.to p else { n with c:=n.c+1 }
def Nd.begin (n:Nd):Nd:={ n with ph:=3,c:=0,x:=[0] }
def Nd.pause (n:Nd) (b:Nat):Nd :=
 if b=0 then (if n.c=2 then n.begin else n.to 6)
 else if n.c+1=3 then n.to (if n.snd=true/\isFa n.fa=1 then 9 else 1) else { n with c:=n.c+1 }
def Nd.back (n:Nd) (b:Nat):Nd :=
 if (if b=0 then n.c / 11*11 else n.c+1)=176 then { n with fa:=doFa n.fa 6,ph:=1,c:=0 } else { n with c:=if b=0 then n.c / 11*11 else n.c+1 }
def Nd.step (n:Nd) (b:Nat):Nd × Ev :=
 if n.ph=0 then (n.cnt b 11 1,noEv)
 else if n.ph=1 then (if n.has then Nd.send { n with x:=[],snd:=true,ph:=2,c:=0 } b else (if b=0 then Nd.begin { n with snd:=false } else { n with snd:=false },noEv))
 else if n.ph=2 then n.send b
 else if n.ph=3 then Nd.heard { n with x:=n.x++[b] } 0
 else if n.ph=4 then (n.to (if b=0 then 6 else 8),noEv)
 else if n.ph=5\/n.ph=6 then (if n.c+1=6 then n.to 7 else { n with c:=n.c+1 },noEv)
 else if n.ph=7 then (n.cnt b 8 8,noEv)
 else if n.ph=8 then (n.pause b,noEv)
 else if n.ph=9 then (if b=0 then n.begin else n.cnt b 8 1,noEv)
 else if n.ph=11 then (n.back b,noEv)
 else (n,noEv)
def Nd.loadE (n:Nd) (f:Hd) (l:List Nat):Nat:=if okF f l=false then 2 else if f.K=3/\n.kn=false then 10 else if n.has then 8 else 0
def Nd.load (n:Nd) (f:Hd) (l:List Nat):Nd:=if n.loadE f l=0 then { n with has:=true,f:=f,l:=l } else n
def Nd.dropB (n:Nd):Bool:=n.has && !(n.ph==2)
def Nd.drop (n:Nd):Nd:=if n.dropB then { n with has:=false } else n
def Nd.restart (n:Nd):Nd:=if n.ph=10 then n.to 11 else n
def Nd.count (n:Nd):Nat:=if n.ph=3 then n.x.length else n.c
structure Fr (f:Hd) (l:List Nat):Prop where
 ok:okF f l=true
 wd:WdX f
 b:∀ x∈l,x < 256
def onW (f:Hd) (l:List Nat):List Nat:=rawF f l++([1,0]++ones 8)
theorem onW_len (f:Hd) (l:List Nat):(onW f l).length=(rawF f l).length+10:=by simp[onW,ones]
theorem Fr.len {f:Hd} {l:List Nat} (h:Fr f l):(wF f l).length=(rawF f l).length+10/\ackF f l=(rawF f l).length+1:=by
 obtain⟨h1,h2,_⟩:=wF_of h.ok h.wd h.b
 exact⟨by rw[h1];simp[ones],h2⟩
theorem Fr.bits {f:Hd} {l:List Nat} (h:Fr f l) (i:Nat) (hi:i < (rawF f l).length+10) :
    (wF f l).getD i 0=(if i < (rawF f l).length then (rawF f l).getD i 0 else 1)/\(onW f l).getD i 0=(if i < (rawF f l).length then (rawF f l).getD i 0 else if i=(rawF f l).length+1 then 0 else 1):=by
 obtain⟨h1,_⟩:=wF_of h.ok h.wd h.b
 rw[h1,onW]
 generalize rawF f l=r at *
 by_cases hlt:i < r.length
 ·rw[if_pos hlt,if_pos hlt]
  simp[List.getD,List.getElem?_append_left hlt]
 ·rw[if_neg hlt,if_neg hlt]
  obtain⟨j,rfl⟩:∃ j,i=r.length+j:=⟨i - r.length,by omega⟩
  have hj:j < 10:=by omega
  simp only[List.getD,List.getElem?_append_right (Nat.le_add_right _ _),Nat.add_sub_cancel_left]
  have:j=0\/j=1\/j=2\/j=3\/j=4\/j=5\/j=6\/j=7\/j=8\/j=9:=by omega
  rcases this with rfl | rfl | rfl | rfl | rfl | rfl | rfl | rfl | rfl | rfl<;>simp[ones,List.replicate]
theorem Fr.raw_bit {f:Hd} {l:List Nat} (h:Fr f l) (i:Nat):(rawF f l).getD i 0<=1:=by
 obtain⟨_,_,_,_,h5,_⟩:=wF_of h.ok h.wd h.b
 by_cases hi:i < (rawF f l).length
 ·simp only[List.getD,List.getElem?_eq_getElem hi,Option.getD_some]
  exact h5 _ (List.getElem_mem hi)
 ·simp[List.getD,List.getElem?_eq_none (by omega:(rawF f l).length<=i)]
theorem onW_succ (f:Hd) (l:List Nat) {i:Nat} (hi:i < (rawF f l).length+10):(onW f l).take (i+1)=(onW f l).take i++[(onW f l).getD i 0]:=by
 rw[List.take_add_one]
 congr 1
 have:i < (onW f l).length:=by rw[onW_len];exact hi
 simp[List.getD,this]
theorem Fr.sta {f:Hd} {l:List Nat} (h:Fr f l) {kn:Bool} (hk:f.K=3->kn=true) :
    (∀ n,n<=(rawF f l).length+8->n≠(rawF f l).length+1->staOf (scS kn ((onW f l).take n))=moreS)/\staOf (scS kn ((onW f l).take ((rawF f l).length+1)))=slotS/\scS kn ((onW f l).take ((rawF f l).length+9)) = .fin (doneS f l):=by
 obtain⟨_,_,_,_,_,h6,h7,_⟩:=wF_of h.ok h.wd h.b
 have hs:scS kn (rawF f l) = .tail true f l []:=by
  cases hkn:kn with
  | true=>exact h6
  | false=>exact h7 (fun h3=>by have:=hk h3;rw[hkn] at this;cases this)
 obtain⟨g1,g2,g3,g4⟩:=sc_wire (a:=0) hs (by omega)
 refine⟨fun n h1 h2 => ?_,g2,g4⟩
 by_cases hn:n<=(rawF f l).length
 ·exact g1 n hn
 ·have:=g3 (n - (rawF f l).length) (by omega) (by omega)
  rwa[show (rawF f l).length+(n - (rawF f l).length)=n by omega] at this
theorem Fr.raw_len {f:Hd} {l:List Nat} (h:Fr f l):34<=(rawF f l).length/\(rawF f l).length<=60000:=by
 obtain⟨_,_,h3,h4,_⟩:=wF_of h.ok h.wd h.b
 exact⟨h3,h4⟩
theorem Fr.sof {f:Hd} {l:List Nat} (h:Fr f l):(rawF f l).getD 0 0=0:=by
 obtain⟨_,_,_,_,_,h6,_⟩:=wF_of h.ok h.wd h.b
 have hl:=h.raw_len
 have hb:=h.raw_bit 0
 by_cases h0:(rawF f l).getD 0 0=0
 ·exact h0
 ·have h1:(rawF f l).take 1=[1]:=by
   have hpos:0 < (rawF f l).length:=by omega
   rw[List.take_add_one,List.take_zero,List.nil_append]
   have:(rawF f l)[0]? = some ((rawF f l).getD 0 0):=by simp[List.getD,hpos]
   rw[this,show (rawF f l).getD 0 0=1 by omega]
   rfl
  have h2:=sc_split true (rawF f l) 1
  rw[h1,show scS true [1] = .fin (badS 5) from rfl,goS_fin,h6] at h2
  cases h2
def Nd.atS (n:Nd) (i:Nat):Nd:={ n with ph:=2,c:=i,x:=(onW n.f n.l).take i,snd:=true }
def Nd.atR (n:Nd) (x:List Nat):Nd:={ n with ph:=3,c:=0,x:=x }
theorem goOn_at {n:Nd} (h:Fr n.f n.l) {i:Nat} (hi:i < (rawF n.f n.l).length+10) :
    Nd.goOn { n with ph:=2,c:=i,x:=(onW n.f n.l).take i++[(onW n.f n.l).getD i 0],snd:=true } =
     if i+1 < (rawF n.f n.l).length+10 then (n.atS (i+1),noEv) else ({ n with ph:=8,c:=0,x:=onW n.f n.l,snd:=true,has:=false,fa:=doFa n.fa 1 },⟨1,0,n.f,n.l⟩):=by
 rw[<- onW_succ _ _ hi]
 unfold Nd.goOn
 simp only[h.len.1]
 by_cases hlt:i+1 < (rawF n.f n.l).length+10
 ·rw[if_pos hlt,if_pos hlt];rfl
 ·rw[if_neg hlt,if_neg hlt,List.take_of_length_le (by rw[onW_len];omega)]
theorem send_at {n:Nd} (h:Fr n.f n.l) {i:Nat} (hi:i < (rawF n.f n.l).length+10) :
    Nd.send { n with ph:=2,c:=i,x:=(onW n.f n.l).take i,snd:=true } ((onW n.f n.l).getD i 0) =
     if i+1 < (rawF n.f n.l).length+10 then (n.atS (i+1),noEv) else ({ n with ph:=8,c:=0,x:=onW n.f n.l,snd:=true,has:=false,fa:=doFa n.fa 1 },⟨1,0,n.f,n.l⟩):=by
 rw[<- goOn_at h hi]
 unfold Nd.send
 simp only[h.len.2]
 obtain⟨b1,b2⟩:=h.bits i hi
 by_cases ha:i=(rawF n.f n.l).length+1
 ·rw[if_pos ha]
  have:(onW n.f n.l).getD i 0=0:=by rw[b2,if_neg (by omega),if_pos ha]
  rw[this,if_neg (by omega)]
 ·rw[if_neg ha]
  have:(onW n.f n.l).getD i 0=(wF n.f n.l).getD i 0:=by
   rw[b1,b2]
   by_cases hlt:i < (rawF n.f n.l).length
   ·rw[if_pos hlt,if_pos hlt]
   ·rw[if_neg hlt,if_neg hlt,if_neg ha]
  rw[this,if_pos rfl]
theorem snd_first {n:Nd} (h:Fr n.f n.l) (h1:n.ph=1) (hh:n.has=true):n.out=0/\n.step 0=(n.atS 1,noEv):=by
 refine⟨by unfold Nd.out;rw[if_pos h1,if_pos hh],?_⟩
 have hl:=h.raw_len
 have h0:(onW n.f n.l).getD 0 0=0:=by rw[(h.bits 0 (by omega)).2,if_pos (by omega)];exact h.sof
 have:=send_at h (i:=0) (by omega)
 rw[h0,if_pos (by omega)] at this
 unfold Nd.step
 rw[if_neg (by omega),if_pos h1,if_pos hh]
 exact this
theorem snd_next {n:Nd} (h:Fr n.f n.l) {i:Nat} (hi:i < (rawF n.f n.l).length+10):(n.atS i).out=(wF n.f n.l).getD i 0/\(n.atS i).step ((onW n.f n.l).getD i 0) =
    if i+1 < (rawF n.f n.l).length+10 then (n.atS (i+1),noEv) else ({ n with ph:=8,c:=0,x:=onW n.f n.l,snd:=true,has:=false,fa:=doFa n.fa 1 },⟨1,0,n.f,n.l⟩):=by
 refine⟨rfl,?_⟩
 exact send_at h hi
theorem rcv_first {n:Nd} (f:Hd) (l:List Nat) (h:Fr f l) (h1:n.ph=1) (hh:n.has=false):n.out=1/\n.step 0=(Nd.atR { n with snd:=false } ((onW f l).take 1),noEv):=by
 refine⟨by unfold Nd.out;rw[if_pos h1,hh];simp,?_⟩
 have hl:=h.raw_len
 have h0:(onW f l).getD 0 0=0:=by rw[(h.bits 0 (by omega)).2,if_pos (by omega)];exact h.sof
 have:=onW_succ f l (i:=0) (by omega)
 rw[List.take_zero,List.nil_append,h0] at this
 unfold Nd.step
 rw[if_neg (by omega),if_pos h1,hh,if_neg (by simp),if_pos rfl]
 rw[this]
 rfl
theorem rcv_next {n:Nd} {f:Hd} {l:List Nat} (h:Fr f l) (hk:f.K=3->n.kn=true) {i:Nat} (h0:0 < i) (hi:i < (rawF f l).length+9) :
    (n.atR ((onW f l).take i)).out=(if i=(rawF f l).length+1 then 0 else 1)/\(n.atR ((onW f l).take i)).step ((onW f l).getD i 0) =
     if i+1 < (rawF f l).length+9 then (n.atR ((onW f l).take (i+1)),noEv) else ({ n with ph:=4,c:=0,x:=(onW f l).take (i+1),fa:=doFa n.fa 2 },⟨2,0,f,l⟩):=by
 obtain⟨g1,g2,g3⟩:=h.sta hk
 have hs:∀ j,(n.atR ((onW f l).take j)).sta=staOf (scS n.kn ((onW f l).take j)):=fun j=>rfl
 constructor
 ·unfold Nd.out
  show (if (3:Nat)=1 then _ else if (3:Nat)=2 then _ else if (3:Nat)=3 then (if (n.atR ((onW f l).take i)).sta.k=1 then 0 else 1) else _)=_
  rw[if_neg (by omega),if_neg (by omega),if_pos rfl,hs]
  by_cases ha:i=(rawF f l).length+1
  ·rw[if_pos ha,ha,g2];rfl
  ·rw[if_neg ha,g1 i (by omega) ha];rfl
 ·unfold Nd.step
  show (if (3:Nat)=0 then _ else if (3:Nat)=1 then _ else if (3:Nat)=2 then _ else if (3:Nat)=3 then Nd.heard (n.atR ((onW f l).take i++[(onW f l).getD i 0])) 0 else _)=_
  rw[if_neg (by omega),if_neg (by omega),if_neg (by omega),if_pos rfl,<- onW_succ f l (by omega)]
  unfold Nd.heard
  rw[hs]
  by_cases hlt:i+1 < (rawF f l).length+9
  ·rw[if_pos hlt]
   have:(staOf (scS n.kn ((onW f l).take (i+1)))).k < 2:=by
    by_cases ha:i+1=(rawF f l).length+1
    ·rw[ha,g2];decide
    ·rw[g1 (i+1) (by omega) ha];decide
   rw[if_neg (by omega),if_neg (by omega),if_neg (by omega)]
   rfl
  ·have e:i+1=(rawF f l).length+9:=by omega
   rw[if_neg hlt,e,g3]
   rfl
theorem bus_bit {f:Hd} {l:List Nat} (h:Fr f l) {i:Nat} (hi:i < (rawF f l).length+10):min ((wF f l).getD i 0) (if i=(rawF f l).length+1 then 0 else 1)=(onW f l).getD i 0:=by
 obtain⟨b1,b2⟩:=h.bits i hi
 have:=h.raw_bit i
 rw[b1,b2]
 by_cases hlt:i < (rawF f l).length
 ·rw[if_pos hlt,if_pos hlt,if_neg (by omega)];omega
 ·rw[if_neg hlt,if_neg hlt]
  split<;>rfl
structure AloneN (f:Hd) (l:List Nat) (n:Nd):Prop where
 has:n.has=true
 hf:n.f=f
 hl:n.l=l
 R:n.fa.R=0
 O:n.fa.O=false
 T0:0<=n.fa.T
 T1:n.fa.T<=128
 T8:n.fa.T%8=0
 ph:(n.ph=1)\/(n.ph=2/\n.c<=ackF f l)\/n.ph=5\/n.ph=7\/n.ph=8\/n.ph=9
theorem alone_fa {s:Fa} (q4:s.R=0) (q5:s.O=false) (q7:s.T<=128):doFa s 5=if s.T<=127 then ⟨s.T+8,0,false⟩ else ⟨s.T,0,false⟩:=by
 obtain⟨T,R,O⟩:=s
 simp only at q4 q5 q7
 subst q4
 subst q5
 unfold doFa isFa
 by_cases ht:T<=127
 ·simp[ht,show ¬127 < T by omega]
  omega
 ·simp[ht,show 127 < T by omega]
theorem alone_send {f:Hd} {l:List Nat} (h:Fr f l) {n:Nd} (hn:AloneN f l n) (h2:n.ph=2) (hc:n.c<=ackF f l) :
    AloneN f l (n.send ((wF f l).getD n.c 0)).1/\((n.send ((wF f l).getD n.c 0)).2.k=0\/((n.send ((wF f l).getD n.c 0)).2.k=4/\(n.send ((wF f l).getD n.c 0)).2.e=9))/\n.fa.T<=(n.send ((wF f l).getD n.c 0)).1.fa.T:=by
 obtain⟨q1,q2,q3,q4,q5,q6,q7,q8,q9⟩:=hn
 obtain⟨e1,e2⟩:=h.len
 have hgo:∀ b,n.c < ackF f l->AloneN f l (Nd.goOn { n with x:=n.x++[b] }).1/\((Nd.goOn { n with x:=n.x++[b] }).2.k=0\/((Nd.goOn { n with x:=n.x++[b] }).2.k=4/\(Nd.goOn { n with x:=n.x++[b] }).2.e=9))/\n.fa.T<=(Nd.goOn { n with x:=n.x++[b] }).1.fa.T:=by
  intro b hlt
  unfold Nd.goOn
  simp only[q2,q3,e1]
  rw[if_pos (by omega)]
  exact⟨⟨q1,rfl,rfl,q4,q5,q6,q7,q8,.inr (.inl ⟨h2,by show n.c+1<=_;omega⟩)⟩,.inl rfl,Int.le_refl _⟩
 unfold Nd.send
 simp only[q2,q3]
 by_cases ha:n.c=ackF f l
 ·rw[if_pos ha]
  have hb:(wF f l).getD n.c 0=1:=by rw[ha,e2,(h.bits _ (by omega)).1,if_neg (by omega)]
  rw[hb,if_pos rfl]
  unfold Nd.wrong
  have hd:=alone_fa q4 q5 q7
  have hO:(doFa n.fa 5).O=false:=by rw[hd];split<;>rfl
  refine⟨⟨q1,rfl,rfl,?_,hO,?_,?_,?_,.inr (.inr (.inl ?_))⟩,.inr ⟨rfl,rfl⟩,?_⟩
  ·show (doFa n.fa 5).R=0
   rw[hd];split<;>rfl
  ·show 0<=(doFa n.fa 5).T
   rw[hd];split<;>simp only<;>omega
  ·show (doFa n.fa 5).T<=128
   rw[hd];split<;>simp only<;>omega
  ·show (doFa n.fa 5).T%8=0
   rw[hd];split<;>simp only<;>omega
  ·show (if (doFa n.fa 5).O then 10 else 5)=5
   rw[hO];rfl
  ·show n.fa.T<=(doFa n.fa 5).T
   rw[hd];split<;>simp only<;>omega
 ·rw[if_neg ha]
  simp only[if_true]
  have:=hgo ((wF f l).getD n.c 0) (by omega)
  simp only[q2,q3] at this
  exact this
theorem alone_step {f:Hd} {l:List Nat} (h:Fr f l) {n:Nd} (hn:AloneN f l n) :
    AloneN f l (n.step n.out).1/\((n.step n.out).2.k=0\/((n.step n.out).2.k=4/\(n.step n.out).2.e=9))/\n.fa.T<=(n.step n.out).1.fa.T:=by
 have hn':=hn
 obtain⟨q1,q2,q3,q4,q5,q6,q7,q8,q9⟩:=hn
 have keep:∀ m:Nd,m.has=n.has->m.f=n.f->m.l=n.l->m.fa=n.fa->((m.ph=1)\/(m.ph=2/\m.c<=ackF f l)\/m.ph=5\/m.ph=7\/m.ph=8\/m.ph=9)->AloneN f l m:=by
  intro m g1 g2 g3 g4 g5
  exact⟨g1.trans q1,g2.trans q2,g3.trans q3,by rw[g4];exact q4,by rw[g4];exact q5,by rw[g4];exact q6,by rw[g4];exact q7,by rw[g4];exact q8,g5⟩
 rcases q9 with hp | ⟨hp,hc⟩ | hp | hp | hp | hp
 ·have h0:n.out=(wF f l).getD 0 0:=by
   have hl:=h.raw_len
   rw[(h.bits 0 (by omega)).1,if_pos (by omega),h.sof]
   unfold Nd.out
   rw[if_pos hp,if_pos q1]
  have:=alone_send h (n:={ n with x:=[],snd:=true,ph:=2,c:=0 }) (keep _ rfl rfl rfl rfl (.inr (.inl ⟨rfl,Nat.zero_le _⟩))) rfl (Nat.zero_le _)
  rw[h0]
  unfold Nd.step
  rw[if_neg (by omega),if_pos hp,if_pos q1]
  exact this
 ·have h0:n.out=(wF f l).getD n.c 0:=by
   unfold Nd.out
   rw[if_neg (by omega),if_pos hp,q2,q3]
  rw[h0]
  unfold Nd.step
  rw[if_neg (by omega),if_neg (by omega),if_pos hp]
  exact alone_send h hn' hp hc
 ·unfold Nd.step
  rw[if_neg (by omega),if_neg (by omega),if_neg (by omega),if_neg (by omega),if_neg (by omega),if_pos (.inl hp)]
  simp only
  split
  ·exact⟨keep _ rfl rfl rfl rfl (.inr (.inr (.inr (.inl rfl)))),.inl rfl,Int.le_refl _⟩
  ·exact⟨keep _ rfl rfl rfl rfl (.inr (.inr (.inl hp))),.inl rfl,Int.le_refl _⟩
 ·have h0:n.out=1:=by
   unfold Nd.out
   rw[if_neg (by omega),if_neg (by omega),if_neg (by omega),if_neg (by omega),if_neg (by omega)]
  rw[h0]
  unfold Nd.step Nd.cnt
  rw[if_neg (by omega),if_neg (by omega),if_neg (by omega),if_neg (by omega),if_neg (by omega),if_neg (by omega),if_pos hp,if_neg (by omega)]
  simp only
  split
  ·exact⟨keep _ rfl rfl rfl rfl (.inr (.inr (.inr (.inr (.inl rfl))))),.inl rfl,Int.le_refl _⟩
  ·exact⟨keep _ rfl rfl rfl rfl (.inr (.inr (.inr (.inl hp)))),.inl rfl,Int.le_refl _⟩
 ·have h0:n.out=1:=by
   unfold Nd.out
   rw[if_neg (by omega),if_neg (by omega),if_neg (by omega),if_neg (by omega),if_neg (by omega)]
  rw[h0]
  unfold Nd.step Nd.pause
  rw[if_neg (by omega),if_neg (by omega),if_neg (by omega),if_neg (by omega),if_neg (by omega),if_neg (by omega),if_neg (by omega),if_pos hp,if_neg (by omega)]
  simp only
  split
  ·refine⟨keep _ rfl rfl rfl rfl ?_,.inl rfl,Int.le_refl _⟩
   show (if n.snd=true/\isFa n.fa=1 then 9 else 1)=1\/_
   split
   ·exact .inr (.inr (.inr (.inr (.inr rfl))))
   ·exact .inl rfl
  ·exact⟨keep _ rfl rfl rfl rfl (.inr (.inr (.inr (.inr (.inl hp))))),.inl rfl,Int.le_refl _⟩
 ·have h0:n.out=1:=by
   unfold Nd.out
   rw[if_neg (by omega),if_neg (by omega),if_neg (by omega),if_neg (by omega),if_neg (by omega)]
  rw[h0]
  unfold Nd.step Nd.cnt
  rw[if_neg (by omega),if_neg (by omega),if_neg (by omega),if_neg (by omega),if_neg (by omega),if_neg (by omega),if_neg (by omega),if_neg (by omega),if_pos hp,if_neg (by omega),if_neg (by omega)]
  simp only
  split
  ·exact⟨keep _ rfl rfl rfl rfl (.inl rfl),.inl rfl,Int.le_refl _⟩
  ·exact⟨keep _ rfl rfl rfl rfl (.inr (.inr (.inr (.inr (.inr hp))))),.inl rfl,Int.le_refl _⟩
theorem join_one (n:Nd) (h:n.ph=0):n.out=1/\n.step 1=(if n.c+1=11 then n.to 1 else { n with c:=n.c+1 },noEv):=by
 constructor
 ·unfold Nd.out
  rw[if_neg (by omega),if_neg (by omega),if_neg (by omega),if_neg (by omega),if_neg (by omega)]
 ·unfold Nd.step Nd.cnt
  rw[if_pos h,if_neg (by omega)]
theorem idle_one (n:Nd) (h:n.ph=1) (hh:n.has=false):n.out=1/\n.step 1=({ n with snd:=false },noEv):=by
 constructor
 ·unfold Nd.out
  rw[if_pos h,hh];rfl
 ·unfold Nd.step
  rw[if_neg (by omega),if_pos h,hh,if_neg (by simp),if_neg (by omega)]
def Nd.joined (kn:Bool):Nd:={ Nd.new kn with ph:=1 }
def Nd.ones (kn:Bool) (k:Nat):Nd:=if k < 11 then { Nd.new kn with c:=k } else Nd.joined kn
theorem ones_step (kn:Bool) (k:Nat):(Nd.ones kn k).out=1/\(Nd.ones kn k).step 1=(Nd.ones kn (k+1),noEv):=by
 unfold Nd.ones
 by_cases h:k < 11
 ·rw[if_pos h]
  obtain⟨h1,h2⟩:=join_one { Nd.new kn with c:=k } rfl
  refine⟨h1,?_⟩
  rw[h2]
  by_cases h':k+1 < 11
  ·rw[if_pos h',if_neg (by show ¬k+1=11;omega)]
  ·rw[if_neg h',if_pos (by show k+1=11;omega)]
   rfl
 ·rw[if_neg h,if_neg (by omega)]
  exact idle_one (Nd.joined kn) rfl rfl
end Go.Proofs.YtipefblpppmabaaGreatDoor
namespace Go.Proofs.YtipefblpppmabaaGreatDoor
set_option linter.unusedVariables false
set_option linter.unusedSimpArgs false
open Go.RowKit
theorem numN_part {l:List Nat} (hb:∀ b∈l,b<=1) (i n:Nat):numN ((l.drop i).take n) < 2^n:=by
 have h1:=numN_lt ((l.drop i).take n) (fun x hx=>hb x (List.mem_of_mem_drop (List.mem_of_mem_take hx)))
 have h2:((l.drop i).take n).length<=n:=by rw[List.length_take];omega
 exact Nat.lt_of_lt_of_le h1 (Nat.pow_le_pow_right (by omega) h2)
theorem codeJ_cl {n at_ r c:Nat} (h:codeJ n at_ r c = .cl):n=at_+8*c+15:=by
 unfold codeJ at h
 split at h
 ·cases h
 ·split at h
  ·assumption
  ·cases h
theorem codeJ_on {at_ r c:Nat} (h:codeJ at_ at_ r c = .on):c<=8/\(r=1->c=0):=by
 unfold codeJ at h
 split at h
 ·cases h
 ·rename_i h1
  refine⟨?_,fun hr => ?_⟩
  ·by_cases h8:8 < c
   ·exact absurd ⟨rfl,.inl h8⟩ h1
   ·omega
  ·by_cases h0:0 < c
   ·exact absurd ⟨rfl,.inr ⟨hr,h0⟩⟩ h1
   ·omega
theorem has1_of {c:Nat} (h:c<=8):hasF 1 (c:Int)=true:=by
 have:=has_at 1 c (by unfold cntF;rw[if_pos rfl];omega)
 unfold atF at this
 rwa[if_neg (by omega),if_pos (by omega)] at this
section
variable {kn:Bool} {L:List Nat}
theorem cl_ok (hb:∀ b∈L,b<=1) (hj':∀ j,1<=j->j < L.length->judge kn (L.take j) = .on) (hjl:judge kn L = .cl):Fr (clF L) (clD L)/\(clF L).K=1:=by
 have hj:∀ j,1<=j->j < L.length->judgeN kn j (bitG L) = .on:=fun j h1 h2=>by rw[<- judge_take (Nat.le_of_lt h2)];exact hj' j h1 h2
 have hcl:judgeN kn L.length (bitG L) = .cl:=hjl
 have key:∃ at_ r c,L.length=at_+8*c+15/\c<=8/\(r=1->c=0)/\clAt L=at_/\4<=at_/\c=num4 (bitG L) (at_ - 4)/\((clF L).R=true->r=1):=by
  have h14:¬L.length < 16:=by
   intro hlt
   unfold judgeN at hcl
   (repeat' split at hcl)<;>first | (cases hcl;done) | omega
  by_cases g13:bitG L 13=1
  ·have hJx:∀ n,15<=n->judgeN kn n (bitG L)=if n < 34 then .on else if n=34 then (if bitG L 33=1 then .bad else .on) else if n=35 then (if bitG L 34=1 then .bad else .on) else if n < 39 then .on else codeJ n 39 (bitG L 32) (num4 (bitG L) 35):=fun n hn=>by
    rw[judgeN,if_neg (by omega),if_neg (by omega),if_neg (by omega),if_pos g13]
   rw[hJx _ (by omega)] at hcl
   have h39:¬L.length < 39:=by
    intro hlt
    (repeat' split at hcl)<;>first | (cases hcl;done) | omega
   rw[if_neg (by omega),if_neg (by omega),if_neg (by omega),if_neg h39] at hcl
   have hn:=codeJ_cl hcl
   have ho:=hj 39 (by omega) (by omega)
   rw[hJx _ (by omega),if_neg (by omega),if_neg (by omega),if_neg (by omega),if_neg (by omega)] at ho
   obtain⟨c1,c2⟩:=codeJ_on ho
   refine⟨39,bitG L 32,num4 (bitG L) 35,hn,c1,c2,by rw[clAt,if_pos g13],by omega,rfl,fun h => ?_⟩
   unfold clF at h
   rw[if_pos g13] at h
   simpa using h
  ·have hJs:∀ n,16<=n->judgeN kn n (bitG L)=if bitG L 14=0 then (if n < 19 then .on else codeJ n 19 (bitG L 12) (num4 (bitG L) 15)) else if n=16 then (if bitG L 15=1/\kn=false then .alien else .on) else if bitG L 15=0 then (if n < 22 then .on else if n=22+8*atF 2 (num4 (bitG L) 18) then .fd else .on) else if bitG L 16=1 then .bad else .xl:=fun n hn=>by
    rw[judgeN,if_neg (by omega),if_neg (by omega),if_neg (by omega),if_neg g13,if_neg (by omega)]
   rw[hJs _ (by omega)] at hcl
   have g14:bitG L 14=0:=by
    by_cases g:bitG L 14=0
    ·exact g
    ·rw[if_neg g] at hcl
     (repeat' split at hcl)<;>cases hcl
   rw[if_pos g14] at hcl
   have h19:¬L.length < 19:=by
    intro hlt
    rw[if_pos hlt] at hcl
    cases hcl
   rw[if_neg h19] at hcl
   have hn:=codeJ_cl hcl
   have ho:=hj 19 (by omega) (by omega)
   rw[hJs _ (by omega),if_pos g14,if_neg (by omega)] at ho
   obtain⟨c1,c2⟩:=codeJ_on ho
   refine⟨19,bitG L 12,num4 (bitG L) 15,hn,c1,c2,by rw[clAt,if_neg g13],by omega,rfl,fun h => ?_⟩
   unfold clF at h
   rw[if_neg g13] at h
   simpa using h
 obtain⟨at_,r,c,hn,c8,c0,hat,h4,hc,hr⟩:=key
 have hlen:(clD L).length=c:=by
  rw[clD,packN_length,List.length_take,List.length_drop,hat,<- hc]
  omega
 have hbytes:∀ x∈clD L,x < 256:=packN_lt _ (fun x hx=>hb x (List.mem_of_mem_drop (List.mem_of_mem_take hx)))
 have hz:(clF L).R=true->(clD L).length=0:=fun h=>by rw[hlen];exact c0 (hr h)
 have i1:=numN_part hb 1 11
 have i2:=numN_part hb 14 18
 have hK:(clF L).K=1:=by unfold clF;split<;>rfl
 refine⟨⟨?_,?_,hbytes⟩,hK⟩
 ·unfold clF at hz ⊢
  by_cases g13:bitG L 13=1
  ·rw[if_pos g13] at hz ⊢
   rw[okF_cl,hlen,has1_of c8]
   unfold okCl
   generalize numN ((L.drop 1).take 11)=n1 at *
   generalize numN ((L.drop 14).take 18)=n2 at *
   have hz':bitG L 32==1->c=0:=fun h=>by rw[<- hlen];exact hz h
   cases hq:(bitG L 32==1)
   ·simp;omega
   ·simp[hz' hq];omega
  ·rw[if_neg g13] at hz ⊢
   rw[okF_cl,hlen,has1_of c8]
   unfold okCl
   generalize numN ((L.drop 1).take 11)=n1 at *
   have hz':bitG L 12==1->c=0:=fun h=>by rw[<- hlen];exact hz h
   cases hq:(bitG L 12==1)
   ·simp;omega
   ·simp[hz' hq];omega
 ·unfold WdX clF
  generalize numN ((L.drop 1).take 11)=n1 at *
  generalize numN ((L.drop 14).take 18)=n2 at *
  split<;>simp<;>omega
theorem fd_ok (hb:∀ b∈L,b<=1) (hjl:judge kn L = .fd):Fr (fdF L) (fdD L)/\(fdF L).K=2:=by
 have hcl:judgeN kn L.length (bitG L) = .fd:=hjl
 have hn:L.length=22+8*atF 2 (num4 (bitG L) 18):=by
  unfold judgeN codeJ at hcl
  (repeat' split at hcl)<;>first | (cases hcl;done) | assumption
 have h15:num4 (bitG L) 18 < 16:=by
  have h0:=bit01 hb 18
  have h1:=bit01 hb (18+1)
  have h2:=bit01 hb (18+2)
  have h3:=bit01 hb (18+3)
  unfold num4
  omega
 have hlen:(fdD L).length=atF 2 (num4 (bitG L) 18):=by
  rw[fdD,packN_length,List.length_drop]
  omega
 have i1:=numN_part hb 1 11
 refine⟨⟨?_,?_,packN_lt _ (fun x hx=>hb x (List.mem_of_mem_drop hx))⟩,rfl⟩
 ·unfold fdF
  rw[okF_fd,hlen,has_at 2 _ (by unfold cntF;rw[if_neg (by omega),if_pos rfl];exact h15)]
  unfold okFd
  generalize numN ((L.drop 1).take 11)=n1 at *
  simp
  omega
 ·unfold WdX fdF
  generalize numN ((L.drop 1).take 11)=n1 at *
  simp
theorem cS_low (n:Nat):n+(if (cS 8 false n).1 then 1 else 0)<=(cS 8 false n).2+(cS 8 false n).2 / 8:=by
 induction n with
 | zero=>simp[cS]
 | succ n ih =>
   rcases hcs:cS 8 false n with ⟨d,o⟩
   rw[hcs] at ih
   simp only[cS,hcs]
   cases d with
   | true =>
     simp at ih ⊢
     omega
   | false =>
     simp at ih ⊢
     split<;>omega
theorem xl_ok {y:List Nat} (hb:∀ b∈L,b<=1) (hy:∀ b∈y,b<=1) (he:xdEnd y=true):Fr (xlF L (xo y)) (xlD (xo y))/\(xlF L (xo y)).K=3:=by
 unfold xdEnd at he
 simp only[Bool.and_eq_true,decide_eq_true_eq] at he
 obtain⟨h22,hm⟩:=he
 have hob:∀ b∈xo y,b<=1:=fgS_bit hy
 have hN:xlN (xo y)<=2048/\1<=xlN (xo y):=by
  have:=numN_part hob 9 11
  unfold xlN
  omega
 have ho:77+8*xlN (xo y)<=(xo y).length:=by
  have h1:=cS_low y.length
  have h2:(xo y).length=(cS 8 false y.length).2:=(cS_is 8 false 1 y).2
  rw[<- h2] at h1
  have h3:szF 8 false (109+8*xlN (xo y))=122+9*xlN (xo y):=by
   unfold szF
   rw[if_neg (by omega)]
   simp
   omega
  rw[h3] at hm
  generalize (xo y).length=o at *
  split at h1<;>omega
 have hlen:(xlD (xo y)).length=xlN (xo y):=by
  rw[xlD,packN_length,List.length_take,List.length_drop]
  omega
 have i1:=numN_part hb 1 11
 have i2:=numN_part hob 0 8
 have i3:=numN_part hob 37 8
 have i4:=numN_part hob 45 32
 rw[List.drop_zero] at i2
 refine⟨⟨?_,?_,packN_lt _ (fun x hx=>hob x (List.mem_of_mem_drop (List.mem_of_mem_take hx)))⟩,rfl⟩
 ·unfold xlF
  rw[okF_xl,hlen,has3_iff.2 (by omega)]
  unfold okXl
  generalize numN ((L.drop 1).take 11)=n1 at *
  simp
  omega
 ·unfold WdX xlF
  simp only
  omega
end
theorem judge_xlkn {kn:Bool} {L:List Nat} (hb:∀ b∈L,b<=1) (hj':∀ j,1<=j->j < L.length->judge kn (L.take j) = .on) (hjl:judge kn L = .xl):kn=true:=by
 cases kn with
 | true=>rfl
 | false =>
   have h1:=(judge_kn L)
   have h2:judge false L = .xl:=hjl
   have hcl:judgeN false L.length (bitG L) = .xl:=h2
   have h17:16 < L.length:=by
    by_cases hlt:16 < L.length
    ·exact hlt
    ·unfold judgeN codeJ at hcl
     (repeat' split at hcl)<;>first | (cases hcl;done) | omega
   have h16:=hj' 16 (by omega) h17
   rw[judge_take (by omega)] at h16
   have g13:¬bitG L 13=1:=by
    intro g
    unfold judgeN codeJ at hcl
    (repeat' split at hcl)<;>first | (cases hcl;done) | omega
   rw[judgeN,if_neg (by omega),if_neg (by omega),if_neg (by omega),if_neg g13,if_neg (by omega)] at hcl
   rw[judgeN,if_neg (by omega),if_neg (by omega),if_neg (by omega),if_neg g13,if_neg (by omega)] at h16
   have g14:¬bitG L 14=0:=by
    intro g
    rw[if_pos g] at hcl
    unfold codeJ at hcl
    (repeat' split at hcl)<;>cases hcl
   rw[if_neg g14,if_neg (by omega)] at hcl
   have g15:¬bitG L 15=0:=by
    intro g
    rw[if_pos g] at hcl
    (repeat' split at hcl)<;>cases hcl
   have g15':bitG L 15=1:=by rcases bit01 hb 15 with h | h;exact absurd h g15;exact h
   rw[if_neg g14,if_pos rfl,if_pos ⟨g15',rfl⟩] at h16
   cases h16
theorem front_ok {kn ok:Bool} {u:List Nat} {f:Hd} {l:List Nat} (hu:∀ b∈u,b<=1) (h:FrontS kn u ok f l):Fr f l/\(f.K=3->kn=true):=by
 rcases h with ⟨H,_,rfl,rfl⟩ | ⟨h,y,rfl,H,_,_,_,rfl,rfl⟩ | ⟨h,y,rfl,H,_,he,_,rfl,rfl⟩
 ·obtain⟨h1,h2⟩:=cl_ok (tell_bit H.bit) H.on H.jd
  exact⟨h1,fun h3=>by omega⟩
 ·obtain⟨h1,h2⟩:=fd_ok (tell_bit H.bit) H.jd
  exact⟨h1,fun h3=>by omega⟩
 ·have hy:∀ b∈y,b<=1:=fun b hb=>hu b (by simp[hb])
  exact⟨(xl_ok (tell_bit H.bit) hy he).1,fun _=>judge_xlkn (tell_bit H.bit) H.on H.jd⟩
theorem done_ok {kn:Bool} {x:List Nat} {b:Nat} (hx:∀ c∈x++[b],c<=1) (hk:(staOf (scS kn x)).k < 2) (h2:(staOf (scS kn (x++[b]))).k=2) :
    Fr (staOf (scS kn (x++[b]))).f (staOf (scS kn (x++[b]))).l/\((staOf (scS kn (x++[b]))).f.K=3->kn=true):=by
 have hx':∀ c∈x,c<=1:=fun c hc=>hx c (by simp[hc])
 have hF:=form_all kn hx'
 rw[scS,goS_snoc,<- scS] at h2 ⊢
 generalize hp:scS kn x=p at *
 cases p with
 | tail ok f l t =>
   obtain⟨hl,ht,u,rfl,hF⟩:=hF
   have hu:∀ b∈u,b<=1:=fun b hb=>hx' b (by simp[hb])
   simp only[stepS] at h2 ⊢
   split at h2
   ·simp[staOf,badS] at h2
   ·rename_i h3
    rw[if_neg h3]
    split at h2
    ·simp[staOf,badS] at h2
    ·rename_i h4
     rw[if_neg h4]
     split at h2
     ·rename_i h5
      rw[if_pos h5]
      exact front_ok hu hF
     ·exfalso
      simp only[staOf] at h2
      split at h2<;>simp at h2
 | fin s =>
   have:=fin_big hp
   exact absurd hk (by show ¬s.k < 2;omega)
 | dyn y =>
   exfalso
   simp only[stepS] at h2
   split at h2
   ·split at h2<;>simp[staOf,badS] at h2
   ·cases hq:judge kn (tell y++[b])<;>rw[hq] at h2<;>simp[afterJ,staOf,badS] at h2
 | fx h y =>
   exfalso
   simp only[stepS] at h2
   (repeat' split at h2)<;>simp[staOf,badS] at h2
 | xs h y =>
   exfalso
   simp only[stepS] at h2
   (repeat' split at h2)<;>simp[staOf,badS] at h2
 | xd h y =>
   exfalso
   simp only[stepS] at h2
   (repeat' split at h2)<;>simp[staOf,badS] at h2
 | xe h y z =>
   exfalso
   simp only[stepS] at h2
   (repeat' split at h2)<;>simp[staOf,badS] at h2
end Go.Proofs.YtipefblpppmabaaGreatDoor
namespace Go.Proofs.YtipefblpppmabaaGreatDoor
set_option linter.unusedVariables false
set_option linter.unusedSimpArgs false
open Go.RowKit
theorem Fr.arb {f:Hd} {l:List Nat} (h:Fr f l):arbF f l+9<=(rawF f l).length:=by
 have hok:=h.ok
 unfold arbF rawF
 rcases okF_kind hok with hk | hk | hk
 ·have ho:okC f l=true:=by simp[okC,hk,hok]
  obtain⟨P,hP,_,_,_,_,_,_,_,g,_⟩:=wire_ends ho
  have h2:¬f.K=2:=by omega
  have h3:¬f.K=3:=by omega
  simp only[if_neg h2,if_neg h3]
  omega
 ·have ho:okD f l=true:=by simp[okD,hk,hok]
  obtain⟨P,hP,_,_,_,_,_,_,_,g,_⟩:=wd_ends ho
  simp only[if_pos hk]
  omega
 ·have ho:okX f l=true:=by simp[okX,hk,hok]
  obtain⟨P,hP,_,_,_,_,_,_,_,g,_⟩:=wx_ends ho
  have h2:¬f.K=2:=by omega
  simp only[if_neg h2,if_pos hk]
  omega
theorem fin_low {kn:Bool} {x:List Nat}:∀ {s:Sta},scS kn x = .fin s->s.k<=4:=by
 have key:∀ s,scS kn x = .fin s->s.k<=4:=by
  refine snocInd (P:=fun x=>∀ s,scS kn x = .fin s->s.k<=4) (fun s h=>(by cases h)) (fun x b ih => ?_) x
  intro s hs
  rw[scS,goS_snoc,<- scS] at hs
  generalize scS kn x=p at *
  cases p with
  | dyn y =>
    simp only[stepS] at hs
    split at hs
    ·split at hs
     ·cases hs;simp[badS]
     ·cases hs
    ·cases hq:judge kn (tell y++[b])<;>rw[hq] at hs<;>simp only[afterJ] at hs<;>cases hs<;>simp[badS]
  | fx h y=>simp only[stepS] at hs;(repeat' split at hs)<;>cases hs<;>simp[badS]
  | xs h y=>simp only[stepS] at hs;(repeat' split at hs)<;>cases hs<;>simp[badS]
  | xd h y=>simp only[stepS] at hs;(repeat' split at hs)<;>cases hs<;>simp[badS]
  | xe h y z=>simp only[stepS] at hs;(repeat' split at hs)<;>cases hs<;>simp[badS]
  | tail ok f l t=>simp only[stepS] at hs;(repeat' split at hs)<;>cases hs<;>simp[badS]
  | fin s'=>exact ih s hs
 exact fun {s} h=>key s h
theorem sta_low4 (kn:Bool) (x:List Nat):(staOf (scS kn x)).k<=4:=by
 rcases sc_fin kn x with ⟨s,h1,_,h3⟩ | h1 | h1
 ·rw[h3];exact fin_low h1
 ·rw[h1];decide
 ·rw[h1];decide
def cntOk (p c:Nat):Prop:=(p=0->c < 11)/\((p=5\/p=6)->c < 6)/\(p=7->c < 8)/\(p=8->c < 3)/\(p=9->c < 8)/\(p=11->c < 176)/\((p=1\/p=3\/p=4\/p=10)->c=0)/\p<=11
theorem cntOk_zero {p:Nat} (h:p<=11):cntOk p 0:=by unfold cntOk;omega
structure Nd.Ok (n:Nd):Prop where
 fa:okFa n.fa=true
 fr:n.has=true->Fr n.f n.l/\(n.f.K=3->n.kn=true)
 p2:n.ph=2->n.has=true/\n.c < (rawF n.f n.l).length+10/\n.x=(onW n.f n.l).take n.c
 p3:n.ph=3->n.x≠[]/\(∀ b∈n.x,b<=1)/\(staOf (scS n.kn n.x)).k < 2
 cn:n.ph≠2->cntOk n.ph n.c
structure StepOk (n:Nd) (r:Nd × Ev):Prop where
 ok:r.1.Ok
 kn:r.1.kn=n.kn
 has:r.1.has=(n.has && !(r.2.k==1))
 fl:r.1.has=true->r.1.f=n.f/\r.1.l=n.l
 got:r.2.k=2->Fr r.2.f r.2.l/\(r.2.f.K=3->n.kn=true)
 sent:r.2.k=1->r.2.f=n.f/\r.2.l=n.l/\n.has=true
 k4:r.2.k<=4
theorem new_ok (kn:Bool):(Nd.new kn).Ok:=by
 exact⟨(by show okFa Fa.zero=true;decide),fun h=>(by cases h),fun h=>(by cases h),fun h=>(by cases h),fun _=>cntOk_zero (p:=0) (by omega)⟩
theorem plain_ok {n m:Nd} (h:n.Ok) (h1:m.kn=n.kn) (h2:m.has=n.has) (h3:m.f=n.f) (h4:m.l=n.l) (h5:okFa m.fa=true) (h6:m.ph≠2) (h7:m.ph≠3) (h8:cntOk m.ph m.c) (e:Ev) (he:e.k=0\/e.k=3\/e.k=4):StepOk n (m,e):=by
 refine⟨⟨h5,fun hh => ?_,fun hp=>absurd hp h6,fun hp=>absurd hp h7,fun _=>h8⟩,h1,?_,fun _=>⟨h3,h4⟩,fun hk => ?_,fun hk => ?_,?_⟩
 ·rw[h3,h4,h1]
  exact h.fr (by rw[<- h2];exact hh)
 ·show m.has=(n.has && !(e.k==1))
  rw[h2,show (e.k==1)=false by rw[beq_eq_false_iff_ne];omega]
  simp
 ·have hk:e.k=2:=hk
  omega
 ·have hk:e.k=1:=hk
  omega
 ·show e.k<=4
  omega
theorem wrong_ok {n m:Nd} (h:n.Ok) (h1:m.kn=n.kn) (h2:m.has=n.has) (h3:m.f=n.f) (h4:m.l=n.l) (h5:okFa m.fa=true) (ev:Int) (er:Nat):StepOk n (m.wrong ev er):=by
 unfold Nd.wrong
 have e:∀ (o:Bool),(if o=true then 10 else 5)≠2/\(if o=true then 10 else 5)≠3/\cntOk (if o=true then 10 else 5) 0:=fun o=>by
  cases o
  ·exact⟨by decide,by decide,cntOk_zero (p:=5) (by omega)⟩
  ·exact⟨by decide,by decide,cntOk_zero (p:=10) (by omega)⟩
 obtain⟨e1,e2,e3⟩:=e (doFa m.fa ev).O
 exact plain_ok (m:={ m with fa:=doFa m.fa ev,pas:=isFa (doFa m.fa ev)==1,ph:=if (doFa m.fa ev).O then 10 else 5,c:=0 }) h h1 h2 h3 h4 (doFa_ok h5 ev) e1 e2 e3 ⟨4,er,noF,[]⟩ (.inr (.inr rfl))
theorem heard_ok {n m:Nd} (h:n.Ok) (h1:m.kn=n.kn) (h2:m.has=n.has) (h3:m.f=n.f) (h4:m.l=n.l) (h5:okFa m.fa=true) (hp:m.ph=3) (hc:m.c=0) (y:List Nat) (b:Nat) (hx:m.x=y++[b]) (hb:∀ c∈y++[b],c<=1) (hy:(staOf (scS n.kn y)).k < 2)
    (kind:Nat) (hk:kind=0\/kind=3):StepOk n (m.heard kind):=by
 have hs:m.sta=staOf (scS n.kn (y++[b])):=by unfold Nd.sta;rw[h1,hx]
 unfold Nd.heard
 by_cases k2:m.sta.k=2
 ·rw[if_pos k2]
  rw[hs] at k2 ⊢
  have hd:=done_ok hb hy k2
  refine⟨⟨doFa_ok h5 2,fun hh => ?_,fun hp => ?_,fun hp => ?_,fun _=>cntOk_zero (p:=4) (by omega)⟩,h1,?_,fun _=>⟨h3,h4⟩,fun _=>hd,fun hk => ?_,by show (2:Nat)<=4;omega⟩
  ·show Fr m.f m.l/\(m.f.K=3->m.kn=true)
   rw[h3,h4,h1]
   exact h.fr (by rw[<- h2];exact hh)
  ·have hq9:(4:Nat)=2:=hp
   omega
  ·have hq9:(4:Nat)=3:=hp
   omega
  ·show m.has=(n.has && !((2:Nat)==1))
   rw[h2];simp
  ·have hq9:(2:Nat)=1:=hk
   omega
 rw[if_neg k2]
 by_cases k3:m.sta.k=3
 ·rw[if_pos k3]
  exact wrong_ok h h1 h2 h3 h4 h5 4 _
 rw[if_neg k3]
 by_cases k4:m.sta.k=4
 ·rw[if_pos k4]
  exact plain_ok (m:=m.to 0) h h1 h2 h3 h4 h5 (by show (0:Nat)≠2;omega) (by show (0:Nat)≠3;omega) (cntOk_zero (p:=0) (by omega)) ⟨kind,0,noF,[]⟩ (by rcases hk with h | h;exact .inl h;exact .inr (.inl h))
 rw[if_neg k4]
 have hlow:m.sta.k < 2:=by
  have:=sta_low4 n.kn (y++[b])
  rw[<- hs] at this
  omega
 refine⟨⟨h5,fun hh => ?_,fun hp2 => ?_,fun _=>⟨by rw[hx];simp,by rw[hx];exact hb,hlow⟩,fun _=>by show cntOk m.ph m.c;rw[hp,hc];exact cntOk_zero (by omega)⟩,h1,?_,fun _=>⟨h3,h4⟩,fun hk2 => ?_,fun hk2 => ?_,?_⟩
 ·show Fr m.f m.l/\(m.f.K=3->m.kn=true)
  rw[h3,h4,h1]
  exact h.fr (by rw[<- h2];exact hh)
 ·have:m.ph=2:=hp2
  omega
 ·show m.has=(n.has && !(kind==1))
  rw[h2,show (kind==1)=false by rw[beq_eq_false_iff_ne];omega]
  simp
 ·have:kind=2:=hk2
  omega
 ·have:kind=1:=hk2
  omega
 ·show kind<=4
  omega
theorem send_ok {n m:Nd} (h:n.Ok) (h1:m.kn=n.kn) (h2:m.has=n.has) (h3:m.f=n.f) (h4:m.l=n.l) (h5:okFa m.fa=true) (hp:m.ph=2) (hh:m.has=true) (hc:m.c < (rawF m.f m.l).length+10) (hx:m.x=(onW m.f m.l).take m.c) {b:Nat} (hb:b<=1):StepOk n (m.send b):=by
 obtain⟨hF,hK⟩:=h.fr (by rw[<- h2];exact hh)
 have hF':Fr m.f m.l:=by rw[h3,h4];exact hF
 have hK':m.f.K=3->m.kn=true:=by rw[h3,h1];exact hK
 obtain⟨e1,e2⟩:=hF'.len
 have hbits:=hF'.bits m.c hc
 have hgo:b=(onW m.f m.l).getD m.c 0->StepOk n (Nd.goOn { m with x:=m.x++[b] }):=by
  intro hbb
  have hxx:m.x++[b]=(onW m.f m.l).take (m.c+1):=by rw[hx,hbb,<- onW_succ _ _ hc]
  unfold Nd.goOn
  simp only[e1]
  by_cases hlt:m.c+1 < (rawF m.f m.l).length+10
  ·rw[if_pos hlt]
   refine⟨⟨h5,fun _=>⟨hF',hK'⟩,fun _=>⟨hh,hlt,hxx⟩,fun hp3 => ?_,fun hp2=>absurd hp hp2⟩,h1,?_,fun _=>⟨h3,h4⟩,fun hk => ?_,fun hk => ?_,by show (0:Nat)<=4;omega⟩
   ·have:m.ph=3:=hp3
    omega
   ·show m.has=(n.has && !((0:Nat)==1))
    rw[h2];simp
   ·have hq9:(0:Nat)=2:=hk
    omega
   ·have hq9:(0:Nat)=1:=hk
    omega
  ·rw[if_neg hlt]
   refine⟨⟨doFa_ok h5 1,fun hq=>(by cases hq),fun hq => ?_,fun hq => ?_,fun _=>cntOk_zero (p:=8) (by omega)⟩,h1,?_,fun hq=>(by cases hq),fun hk => ?_,fun _=>⟨h3,h4,by rw[<- h2];exact hh⟩,by show (1:Nat)<=4;omega⟩
   ·have hq9:(8:Nat)=2:=hq
    omega
   ·have hq9:(8:Nat)=3:=hq
    omega
   ·show false=(n.has && !((1:Nat)==1))
    simp
   ·have hq9:(1:Nat)=2:=hk
    omega
 unfold Nd.send
 by_cases ha:m.c=ackF m.f m.l
 ·rw[if_pos ha]
  by_cases hb1:b=1
  ·rw[if_pos hb1]
   exact wrong_ok (m:={ m with x:=m.x++[b] }) h h1 h2 h3 h4 h5 5 9
  ·rw[if_neg hb1]
   refine hgo ?_
   rw[hbits.2,if_neg (by omega),if_pos (by omega)]
   omega
 rw[if_neg ha]
 by_cases hbo:b=(wF m.f m.l).getD m.c 0
 ·rw[if_pos hbo]
  refine hgo ?_
  rw[hbo,hbits.1,hbits.2]
  by_cases hlt:m.c < (rawF m.f m.l).length
  ·rw[if_pos hlt,if_pos hlt]
  ·rw[if_neg hlt,if_neg hlt,if_neg (by omega)]
 rw[if_neg hbo]
 by_cases hl:(wF m.f m.l).getD m.c 0=1/\m.c < arbF m.f m.l
 ·rw[if_pos hl]
  have harb:=hF'.arb
  obtain⟨g1,g2,g3⟩:=hF'.sta hK'
  refine heard_ok h (m:={ m with x:=m.x++[b],ph:=3,c:=0,snd:=false }) h1 h2 h3 h4 h5 rfl rfl ((onW m.f m.l).take m.c) b (by show m.x++[b]=_;rw[hx]) ?_ ?_ 3 (.inr rfl)
  ·intro c hcm
   rcases List.mem_append.1 hcm with hcm | hcm
   ·have hcm:=List.mem_of_mem_take hcm
    unfold onW at hcm
    obtain⟨_,_,_,_,hr,_⟩:=wF_of hF'.ok hF'.wd hF'.b
    rcases List.mem_append.1 hcm with hcm | hcm
    ·exact hr c hcm
    ·simp[ones] at hcm
     omega
   ·rw[List.mem_singleton] at hcm
    omega
  ·rw[<- h1,g1 m.c (by omega) (by omega)]
   decide
 ·rw[if_neg hl]
  exact wrong_ok (m:={ m with x:=m.x++[b] }) h h1 h2 h3 h4 h5 3 5
theorem begin_ok {n m:Nd} (h:n.Ok) (h1:m.kn=n.kn) (h2:m.has=n.has) (h3:m.f=n.f) (h4:m.l=n.l) (h5:okFa m.fa=true):StepOk n (m.begin,noEv):=by
 unfold Nd.begin
 refine⟨⟨h5,fun hh => ?_,fun hp => ?_,fun _=>⟨by simp,by simp,?_⟩,fun _=>cntOk_zero (p:=3) (by omega)⟩,h1,?_,fun _=>⟨h3,h4⟩,fun hk => ?_,fun hk => ?_,by show (0:Nat)<=4;omega⟩
 ·show Fr m.f m.l/\(m.f.K=3->m.kn=true)
  rw[h3,h4,h1]
  exact h.fr (by rw[<- h2];exact hh)
 ·have hq9:(3:Nat)=2:=hp
  omega
 ·show (staOf (scS m.kn [0])).k < 2
  cases m.kn<;>decide
 ·show m.has=(n.has && !((0:Nat)==1))
  rw[h2];simp
 ·have hq9:(0:Nat)=2:=hk
  omega
 ·have hq9:(0:Nat)=1:=hk
  omega
theorem step_ok {n:Nd} (h:n.Ok) {b:Nat} (hb:b<=1):StepOk n (n.step b):=by
 have hcn:=h.cn
 have pl:∀ m:Nd,m.kn=n.kn->m.has=n.has->m.f=n.f->m.l=n.l->okFa m.fa=true->m.ph≠2->m.ph≠3->cntOk m.ph m.c->StepOk n (m,noEv):=fun m a1 a2 a3 a4 a5 a6 a7 a8=>plain_ok h a1 a2 a3 a4 a5 a6 a7 a8 noEv (.inl rfl)
 have hfa:=h.fa
 unfold Nd.step
 by_cases p0:n.ph=0
 ·rw[if_pos p0]
  have hc:=hcn (by omega)
  rw[p0] at hc
  unfold cntOk at hc
  unfold Nd.cnt
  split
  ·exact pl _ rfl rfl rfl rfl hfa (by show n.ph≠2;omega) (by show n.ph≠3;omega) (by show cntOk n.ph 0;exact cntOk_zero (by omega))
  ·split
   ·exact pl _ rfl rfl rfl rfl hfa (by show (1:Nat)≠2;omega) (by show (1:Nat)≠3;omega) (cntOk_zero (p:=1) (by omega))
   ·exact pl _ rfl rfl rfl rfl hfa (by show n.ph≠2;omega) (by show n.ph≠3;omega) (by show cntOk n.ph (n.c+1);rw[p0];unfold cntOk;omega)
 rw[if_neg p0]
 by_cases p1:n.ph=1
 ·rw[if_pos p1]
  by_cases hh:n.has=true
  ·rw[if_pos hh]
   have hF:=(h.fr hh).1
   exact send_ok h (m:={ n with x:=[],snd:=true,ph:=2,c:=0 }) rfl rfl rfl rfl hfa rfl hh (by show 0 < _+10;omega) (by show []=List.take 0 _;simp) hb
  ·rw[if_neg hh]
   split
   ·exact begin_ok h (m:={ n with snd:=false }) rfl rfl rfl rfl hfa
   ·have hc:=hcn (by omega)
    exact pl _ rfl rfl rfl rfl hfa (by show n.ph≠2;omega) (by show n.ph≠3;omega) hc
 rw[if_neg p1]
 by_cases p2:n.ph=2
 ·rw[if_pos p2]
  obtain⟨q1,q2,q3⟩:=h.p2 p2
  exact send_ok h rfl rfl rfl rfl hfa p2 q1 q2 q3 hb
 rw[if_neg p2]
 have hc:=hcn p2
 by_cases p3:n.ph=3
 ·rw[if_pos p3]
  obtain⟨q1,q2,q3⟩:=h.p3 p3
  have hc0:n.c=0:=by unfold cntOk at hc;omega
  refine heard_ok h (m:={ n with x:=n.x++[b] }) rfl rfl rfl rfl hfa p3 hc0 n.x b rfl (fun c hcm => ?_) q3 0 (.inl rfl)
  rcases List.mem_append.1 hcm with hcm | hcm
  ·exact q2 c hcm
  ·rw[List.mem_singleton] at hcm
   omega
 rw[if_neg p3]
 by_cases p4:n.ph=4
 ·rw[if_pos p4]
  split
  ·exact pl _ rfl rfl rfl rfl hfa (by show (6:Nat)≠2;omega) (by show (6:Nat)≠3;omega) (cntOk_zero (p:=6) (by omega))
  ·exact pl _ rfl rfl rfl rfl hfa (by show (8:Nat)≠2;omega) (by show (8:Nat)≠3;omega) (cntOk_zero (p:=8) (by omega))
 rw[if_neg p4]
 by_cases p56:n.ph=5\/n.ph=6
 ·rw[if_pos p56]
  have h6:n.c < 6:=by unfold cntOk at hc;omega
  split
  ·exact pl _ rfl rfl rfl rfl hfa (by show (7:Nat)≠2;omega) (by show (7:Nat)≠3;omega) (cntOk_zero (p:=7) (by omega))
  ·exact pl _ rfl rfl rfl rfl hfa (by show n.ph≠2;omega) (by show n.ph≠3;omega) (by show cntOk n.ph (n.c+1);unfold cntOk;omega)
 rw[if_neg p56]
 by_cases p7:n.ph=7
 ·rw[if_pos p7]
  have h8:n.c < 8:=by unfold cntOk at hc;omega
  unfold Nd.cnt
  split
  ·exact pl _ rfl rfl rfl rfl hfa (by show n.ph≠2;omega) (by show n.ph≠3;omega) (by show cntOk n.ph 0;exact cntOk_zero (by omega))
  ·split
   ·exact pl _ rfl rfl rfl rfl hfa (by show (8:Nat)≠2;omega) (by show (8:Nat)≠3;omega) (cntOk_zero (p:=8) (by omega))
   ·exact pl _ rfl rfl rfl rfl hfa (by show n.ph≠2;omega) (by show n.ph≠3;omega) (by show cntOk n.ph (n.c+1);unfold cntOk;omega)
 rw[if_neg p7]
 by_cases p8:n.ph=8
 ·rw[if_pos p8]
  have h3:n.c < 3:=by unfold cntOk at hc;omega
  unfold Nd.pause
  split
  ·split
   ·exact begin_ok h rfl rfl rfl rfl hfa
   ·exact pl _ rfl rfl rfl rfl hfa (by show (6:Nat)≠2;omega) (by show (6:Nat)≠3;omega) (cntOk_zero (p:=6) (by omega))
  ·split
   ·refine pl _ rfl rfl rfl rfl hfa ?_ ?_ ?_
    ·show (if n.snd=true/\isFa n.fa=1 then 9 else 1)≠2
     split<;>omega
    ·show (if n.snd=true/\isFa n.fa=1 then 9 else 1)≠3
     split<;>omega
    ·show cntOk (if n.snd=true/\isFa n.fa=1 then 9 else 1) 0
     exact cntOk_zero (by split<;>omega)
   ·exact pl _ rfl rfl rfl rfl hfa (by show n.ph≠2;omega) (by show n.ph≠3;omega) (by show cntOk n.ph (n.c+1);unfold cntOk;omega)
 rw[if_neg p8]
 by_cases p9:n.ph=9
 ·rw[if_pos p9]
  have h8:n.c < 8:=by unfold cntOk at hc;omega
  split
  ·exact begin_ok h rfl rfl rfl rfl hfa
  ·unfold Nd.cnt
   split
   ·exact pl _ rfl rfl rfl rfl hfa (by show n.ph≠2;omega) (by show n.ph≠3;omega) (by show cntOk n.ph 0;exact cntOk_zero (by omega))
   ·split
    ·exact pl _ rfl rfl rfl rfl hfa (by show (1:Nat)≠2;omega) (by show (1:Nat)≠3;omega) (cntOk_zero (p:=1) (by omega))
    ·exact pl _ rfl rfl rfl rfl hfa (by show n.ph≠2;omega) (by show n.ph≠3;omega) (by show cntOk n.ph (n.c+1);unfold cntOk;omega)
 rw[if_neg p9]
 by_cases p11:n.ph=11
 ·rw[if_pos p11]
  have h176:n.c < 176:=by unfold cntOk at hc;omega
  unfold Nd.back
  by_cases hq:(if b=0 then n.c / 11*11 else n.c+1)=176
  ·rw[if_pos hq]
   exact pl { n with fa:=doFa n.fa 6,ph:=1,c:=0 } rfl rfl rfl rfl (doFa_ok hfa 6) (by show (1:Nat)≠2;omega) (by show (1:Nat)≠3;omega) (cntOk_zero (p:=1) (by omega))
  ·rw[if_neg hq]
   refine pl { n with c:=if b=0 then n.c / 11*11 else n.c+1 } rfl rfl rfl rfl hfa (by show n.ph≠2;omega) (by show n.ph≠3;omega) ?_
   show cntOk n.ph (if b=0 then n.c / 11*11 else n.c+1)
   have hlt:(if b=0 then n.c / 11*11 else n.c+1) < 176:=by
    by_cases h0:b=0
    ·rw[if_pos h0];omega
    ·rw[if_neg h0] at hq ⊢;omega
   unfold cntOk
   omega
 rw[if_neg p11]
 exact pl n rfl rfl rfl rfl hfa p2 p3 hc
theorem load_ok {n:Nd} (h:n.Ok) {f:Hd} {l:List Nat} (hW:WdX f) (hb:∀ x∈l,x < 256) (h2:n.ph=2->n.has=true):(n.load f l).Ok:=by
 unfold Nd.load
 split
 ·rename_i he
  unfold Nd.loadE at he
  split at he
  ·cases he
  ·rename_i hok
   split at he
   ·cases he
   ·rename_i hk
    split at he
    ·cases he
    ·rename_i hh
     refine⟨h.fa,fun _=>⟨⟨by simpa using hok,hW,hb⟩,fun h3 => ?_⟩,fun hp=>absurd (h2 hp) (by simpa using hh),h.p3,h.cn⟩
     show n.kn=true
     cases hkn:n.kn with
     | true=>rfl
     | false=>exact absurd ⟨h3,hkn⟩ hk
 ·exact h
end Go.Proofs.YtipefblpppmabaaGreatDoor
namespace Go.Proofs.YtipefblpppmabaaGreatDoor
set_option linter.unusedVariables false
set_option linter.unusedSimpArgs false
open Go.RowKit
theorem pause_one (n:Nd) (h:n.ph=8):n.out=1/\n.step 1=(if n.c+1=3 then n.to (if n.snd=true/\isFa n.fa=1 then 9 else 1) else { n with c:=n.c+1 },noEv):=by
 constructor
 ·unfold Nd.out
  rw[if_neg (by omega),if_neg (by omega),if_neg (by omega),if_neg (by omega),if_neg (by omega)]
 ·unfold Nd.step Nd.pause
  rw[if_neg (by omega),if_neg (by omega),if_neg (by omega),if_neg (by omega),if_neg (by omega),if_neg (by omega),if_neg (by omega),if_pos h,if_neg (by omega)]
theorem last_one (n:Nd) (h:n.ph=4):n.out=1/\n.step 1=(n.to 8,noEv):=by
 constructor
 ·unfold Nd.out
  rw[if_neg (by omega),if_neg (by omega),if_neg (by omega),if_neg (by omega),if_neg (by omega)]
 ·unfold Nd.step
  rw[if_neg (by omega),if_neg (by omega),if_neg (by omega),if_neg (by omega),if_pos h,if_neg (by omega)]
def prA (f:Hd) (l:List Nat) (i:Nat):Nd :=
 if i=0 then { Nd.joined true with has:=true,f:=f,l:=l }
 else if i < (rawF f l).length+10 then Nd.atS { Nd.joined true with has:=true,f:=f,l:=l } i
 else if i < (rawF f l).length+13 then { Nd.joined true with f:=f,l:=l,ph:=8,c:=i - ((rawF f l).length+10),x:=onW f l,snd:=true }
 else { Nd.joined true with f:=f,l:=l,x:=onW f l,snd:=true }
def prB (f:Hd) (l:List Nat) (i:Nat):Nd :=
 if i=0 then Nd.joined true
 else if i < (rawF f l).length+9 then Nd.atR (Nd.joined true) ((onW f l).take i)
 else if i=(rawF f l).length+9 then { Nd.joined true with ph:=4,x:=(onW f l).take i }
 else if i < (rawF f l).length+13 then { Nd.joined true with ph:=8,c:=i - ((rawF f l).length+10),x:=(onW f l).take ((rawF f l).length+9) }
 else { Nd.joined true with x:=(onW f l).take ((rawF f l).length+9) }
def prW (f:Hd) (l:List Nat) (i:Nat):Nat:=if i < (rawF f l).length+10 then (onW f l).getD i 0 else 1
theorem prA_step {f:Hd} {l:List Nat} (h:Fr f l) {i:Nat} (hi:i < (rawF f l).length+13) :
    (prA f l i).out=(if i < (rawF f l).length+10 then (wF f l).getD i 0 else 1)/\(prA f l i).step (prW f l i)=(prA f l (i+1),if i+1=(rawF f l).length+10 then ⟨1,0,f,l⟩ else noEv):=by
 have hl:=h.raw_len
 unfold prW
 by_cases h0:i=0
 ·subst h0
  rw[if_pos (by omega),if_pos (by omega),if_neg (by omega)]
  have hs:=h.sof
  have b:=h.bits 0 (by omega)
  rw[if_pos (by omega),if_pos (by omega),hs] at b
  rw[b.1,b.2]
  unfold prA
  rw[if_pos rfl,if_neg (by omega),if_pos (by omega)]
  exact snd_first (n:={ Nd.joined true with has:=true,f:=f,l:=l }) h rfl rfl
 by_cases h1:i < (rawF f l).length+10
 ·rw[if_pos h1,if_pos h1]
  unfold prA
  rw[if_neg h0,if_pos h1,if_neg (by omega)]
  obtain⟨g1,g2⟩:=snd_next (n:={ Nd.joined true with has:=true,f:=f,l:=l }) h h1
  refine⟨g1,g2.trans ?_⟩
  by_cases h2:i+1 < (rawF f l).length+10
  ·rw[if_pos h2,if_pos h2,if_neg (by omega)]
  ·rw[if_neg h2,if_neg h2,if_pos (by omega),if_pos (by omega)]
   simp only[show i+1 - ((rawF f l).length+10)=0 by omega]
   rfl
 ·rw[if_neg h1,if_neg h1,if_neg (by omega)]
  unfold prA
  rw[if_neg h0,if_neg h1,if_pos hi,if_neg (by omega),if_neg (by omega)]
  obtain⟨g1,g2⟩:=pause_one { Nd.joined true with f:=f,l:=l,ph:=8,c:=i - ((rawF f l).length+10),x:=onW f l,snd:=true } rfl
  refine⟨g1,g2.trans ?_⟩
  by_cases h2:i+1 < (rawF f l).length+13
  ·rw[if_neg (by show ¬i - _+1=3;omega),if_pos h2]
   simp only[show i+1 - ((rawF f l).length+10)=i - ((rawF f l).length+10)+1 by omega]
  ·rw[if_pos (by show i - _+1=3;omega),if_neg h2]
   rfl
theorem prB_step {f:Hd} {l:List Nat} (h:Fr f l) {i:Nat} (hi:i < (rawF f l).length+13) :
    (prB f l i).out=(if i=(rawF f l).length+1 then 0 else 1)/\(prB f l i).step (prW f l i)=(prB f l (i+1),if i+1=(rawF f l).length+9 then ⟨2,0,f,l⟩ else noEv):=by
 have hl:=h.raw_len
 unfold prW
 by_cases h0:i=0
 ·subst h0
  rw[if_neg (by omega),if_pos (by omega),if_neg (by omega)]
  have hs:=h.sof
  have b:=h.bits 0 (by omega)
  rw[if_pos (by omega),if_pos (by omega),hs] at b
  rw[b.2]
  unfold prB
  rw[if_pos rfl,if_neg (by omega),if_pos (by omega)]
  exact rcv_first f l h (n:=Nd.joined true) rfl rfl
 by_cases h1:i < (rawF f l).length+9
 ·rw[show (if i < (rawF f l).length+10 then (onW f l).getD i 0 else 1)=(onW f l).getD i 0 from if_pos (by omega)]
  unfold prB
  rw[if_neg h0,if_pos h1,if_neg (show ¬i+1=0 by omega)]
  obtain⟨g1,g2⟩:=rcv_next (n:=Nd.joined true) h (fun _=>rfl) (by omega) h1
  refine⟨g1,g2.trans ?_⟩
  by_cases h2:i+1 < (rawF f l).length+9
  ·rw[if_pos h2,if_pos h2,if_neg (by omega)]
  ·rw[if_neg h2,if_neg h2,if_pos (show i+1=(rawF f l).length+9 by omega),if_pos (show i+1=(rawF f l).length+9 by omega)]
   rfl
 rw[if_neg (show ¬i=(rawF f l).length+1 by omega),if_neg (show ¬i+1=(rawF f l).length+9 by omega)]
 by_cases h2:i=(rawF f l).length+9
 ·have b:=(h.bits i (by omega)).2
  rw[if_neg (by omega),if_neg (by omega)] at b
  rw[if_pos (by omega),b]
  unfold prB
  rw[if_neg h0,if_neg h1,if_pos h2,if_neg (by omega),if_neg (by omega),if_neg (by omega),if_pos (by omega)]
  obtain⟨g1,g2⟩:=last_one { Nd.joined true with ph:=4,x:=(onW f l).take i } rfl
  refine⟨g1,g2.trans ?_⟩
  simp only[show i+1 - ((rawF f l).length+10)=0 by omega,<- h2]
  rfl
 ·rw[if_neg (by omega)]
  unfold prB
  rw[if_neg h0,if_neg h1,if_neg h2,if_pos hi,if_neg (by omega),if_neg (by omega),if_neg (by omega)]
  obtain⟨g1,g2⟩:=pause_one { Nd.joined true with ph:=8,c:=i - ((rawF f l).length+10),x:=(onW f l).take ((rawF f l).length+9) } rfl
  refine⟨g1,g2.trans ?_⟩
  by_cases h3:i+1 < (rawF f l).length+13
  ·rw[if_neg (by show ¬i - _+1=3;omega),if_pos h3]
   simp only[show i+1 - ((rawF f l).length+10)=i - ((rawF f l).length+10)+1 by omega]
  ·rw[if_pos (by show i - _+1=3;omega),if_neg h3]
   rfl
theorem pr_bus {f:Hd} {l:List Nat} (h:Fr f l) {i:Nat} (hi:i < (rawF f l).length+13):(prA f l i).out<=1/\(prB f l i).out<=1/\min (prA f l i).out (prB f l i).out=prW f l i:=by
 rw[(prA_step h hi).1,(prB_step h hi).1]
 unfold prW
 by_cases h1:i < (rawF f l).length+10
 ·rw[if_pos h1,if_pos h1]
  refine⟨?_,by split<;>omega,bus_bit h h1⟩
  have:=(h.bits i h1).1
  have:=h.raw_bit i
  rw[(h.bits i h1).1]
  split<;>omega
 ·rw[if_neg h1,if_neg h1,if_neg (by omega)]
  exact⟨by omega,by omega,rfl⟩
theorem pr_end (f:Hd) (l:List Nat):(prA f l ((rawF f l).length+13)).ph=1/\(prA f l ((rawF f l).length+13)).c=0/\(prA f l ((rawF f l).length+13)).has=false/\(prA f l ((rawF f l).length+13)).fa=Fa.zero /\
    (prB f l ((rawF f l).length+13)).ph=1/\(prB f l ((rawF f l).length+13)).c=0/\(prB f l ((rawF f l).length+13)).has=false/\(prB f l ((rawF f l).length+13)).fa=Fa.zero:=by
 unfold prA prB
 rw[if_neg (by omega),if_neg (by omega),if_neg (by omega),if_neg (by omega),if_neg (by omega),if_neg (by omega),if_neg (by omega)]
 exact⟨rfl,rfl,rfl,rfl,rfl,rfl,rfl,rfl⟩
def oneR (x:List Nat):Nat:=if lastB x=1 then (runS x).2 else 0
theorem oneR_snoc (x:List Nat) (b:Nat):oneR (x++[b])=if b=1 then (if lastB x=1 then (runS x).2+1 else 1) else 0:=by
 unfold oneR
 rw[lastB_snoc]
 by_cases h:b=1
 ·rw[if_pos h,if_pos h,runS_snoc]
  unfold stepR lastB
  subst h
  by_cases h2:(runS x).1=1
  ·rw[if_pos h2.symm,if_pos h2]
  ·rw[if_neg (fun e=>h2 e.symm),if_neg h2]
 ·rw[if_neg h,if_neg h]
structure JoinC (c:Nd):Prop where
 kn:c.kn=false
 has:c.has=false
 fa:c.fa=Fa.zero
def PrC (f:Hd) (l:List Nat) (i:Nat) (c:Nd):Prop :=
 (i=0/\c=Nd.joined false) \/
 (0 < i/\i<=(rawF f l).length/\c=Nd.atR (Nd.joined false) ((onW f l).take i)/\scS false ((onW f l).take i)=scS true ((onW f l).take i)) \/
 (0 < i/\i<=(rawF f l).length/\JoinC c/\c.ph=0/\c.c<=oneR ((rawF f l).take i)) \/
 (i=(rawF f l).length+1/\JoinC c/\c.ph=0/\c.c<=2) \/
 ((rawF f l).length+2<=i/\i < (rawF f l).length+13/\JoinC c/\c.ph=0/\c.c=i - ((rawF f l).length+2)) \/
 (i=(rawF f l).length+13/\JoinC c/\c.ph=1/\c.c=0)
theorem cnt_zero (n:Nd) (h:n.ph=0) (b:Nat):n.out=1/\n.step b=(n.cnt b 11 1,noEv):=by
 constructor
 ·unfold Nd.out
  rw[if_neg (by omega),if_neg (by omega),if_neg (by omega),if_neg (by omega),if_neg (by omega)]
 ·unfold Nd.step
  rw[if_pos h]
theorem raw_x {f:Hd} {l:List Nat} (hk:f.K=3):rawF f l=rwX f l:=by
 unfold rawF
 rw[if_neg (by omega),if_pos hk]
theorem raw_end {f:Hd} {l:List Nat} (hk:f.K=3):oneR (rawF f l)=0/\∃ y,rawF f l=putL (headX f.I.toNat)++y:=by
 rw[raw_x hk]
 constructor
 ·rw[show rwX f l=((putL (headX f.I.toNat)++startX)++fxPut 8 false 1 (bxC f l)++[0,1,1])++[0] by simp[rwX,stopX],oneR_snoc,if_neg (by omega)]
 ·exact⟨startX++(fxPut 8 false 1 (bxC f l)++stopX),by simp[rwX]⟩
theorem prC_step {f:Hd} {l:List Nat} (h:Fr f l) (hk:f.K=3) {i:Nat} {c:Nd} (hi:i < (rawF f l).length+13) (hc:PrC f l i c) :
    c.out=1/\PrC f l (i+1) (c.step (prW f l i)).1/\(c.step (prW f l i)).2=noEv:=by
 have hl:=h.raw_len
 obtain⟨ho,y,hy⟩:=raw_end (l:=l) hk
 have hX:okX f l=true:=by have:=h.ok;simp[okX,hk,this]
 have hruns:∀ k,(runS ((rawF f l).take k)).2<=9:=by rw[raw_x hk];exact rx_runs hX
 rcases hc with ⟨rfl,rfl⟩ | ⟨h0,h1,rfl,he⟩ | ⟨h0,h1,J,hp,hcc⟩ | ⟨rfl,J,hp,hcc⟩ | ⟨h0,h1,J,hp,hcc⟩ | ⟨rfl,_⟩
 ·have hs:=h.sof
  have b:=(h.bits 0 (by omega)).2
  rw[if_pos (by omega),hs] at b
  obtain⟨g1,g2⟩:=rcv_first f l h (n:=Nd.joined false) rfl rfl
  have hw:prW f l 0=0:=by unfold prW;rw[if_pos (by omega),b]
  have h1:=onW_succ f l (i:=0) (by omega)
  rw[List.take_zero,List.nil_append,b] at h1
  rw[hw,g2]
  refine⟨g1,.inr (.inl ⟨by omega,by omega,rfl,?_⟩),rfl⟩
  rw[h1]
  rfl
 ·have hlt:i < (rawF f l).length:=by
   by_cases hlt:i < (rawF f l).length
   ·exact hlt
   ·exfalso
    have e:i=(rawF f l).length:=by omega
    have e2:(onW f l).take i=rawF f l:=by rw[e,onW,List.take_left]
    obtain⟨_,_,_,_,_,h6,_⟩:=wF_of h.ok h.wd h.b
    rw[e2,h6,hy,(sc_alien f.I.toNat y).1] at he
    cases he
  obtain⟨g1,_,_⟩:=h.sta (kn:=true) (fun _=>rfl)
  have hw:prW f l i=(onW f l).getD i 0:=by unfold prW;rw[if_pos (by omega)]
  have hsta:∀ x,(Nd.atR (Nd.joined false) x).sta=staOf (scS false x):=fun x=>rfl
  constructor
  ·unfold Nd.out
   show (if (3:Nat)=1 then _ else if (3:Nat)=2 then _ else if (3:Nat)=3 then (if (Nd.atR (Nd.joined false) ((onW f l).take i)).sta.k=1 then 0 else 1) else _)=_
   rw[if_neg (by omega),if_neg (by omega),if_pos rfl,hsta,he,g1 i (by omega) (by omega)]
   rfl
  ·have hst:(Nd.atR (Nd.joined false) ((onW f l).take i)).step ((onW f l).getD i 0)=Nd.heard (Nd.atR (Nd.joined false) ((onW f l).take (i+1))) 0:=by
    rw[onW_succ f l (by omega)]
    unfold Nd.step
    show (if (3:Nat)=0 then _ else if (3:Nat)=1 then _ else if (3:Nat)=2 then _ else if (3:Nat)=3 then _ else _)=_
    rw[if_neg (by omega),if_neg (by omega),if_neg (by omega),if_pos rfl]
    rfl
   rw[hw,hst]
   unfold Nd.heard
   rw[hsta]
   rcases (rk_alien ((onW f l).take (i+1))).2.2 with e | e
   ·rw[e,g1 (i+1) (by omega) (by omega)]
    exact⟨.inr (.inl ⟨by omega,by omega,rfl,e⟩),rfl⟩
   ·rw[e]
    exact⟨.inr (.inr (.inl ⟨by omega,by omega,⟨rfl,rfl,rfl⟩,rfl,Nat.zero_le _⟩)),rfl⟩
 ·have hb:=(h.bits i (by omega)).2
  have hr1:=h.raw_bit i
  have hw:prW f l i=(onW f l).getD i 0:=by unfold prW;rw[if_pos (by omega)]
  obtain⟨g1,g2⟩:=cnt_zero c hp (prW f l i)
  refine⟨g1,?_,by rw[g2]⟩
  rw[g2,hw,hb]
  have h9:=hruns i
  have hc9:c.c<=9:=by unfold oneR at hcc;split at hcc<;>omega
  by_cases hlt:i < (rawF f l).length
  ·rw[if_pos hlt]
   have ht:(rawF f l).take (i+1)=(rawF f l).take i++[(rawF f l).getD i 0]:=by
    rw[List.take_add_one]
    congr 1
    simp[List.getD,hlt]
   refine .inr (.inr (.inl ⟨by omega,by omega,?_⟩))
   rw[ht,oneR_snoc]
   unfold Nd.cnt
   rcases (by omega:(rawF f l).getD i 0=0\/(rawF f l).getD i 0=1) with e | e
   ·rw[e,if_pos rfl]
    exact⟨⟨J.kn,J.has,J.fa⟩,hp,Nat.zero_le _⟩
   ·rw[e,if_neg (by omega),if_neg (by omega),if_pos rfl]
    refine⟨⟨J.kn,J.has,J.fa⟩,hp,?_⟩
    show c.c+1<=_
    unfold oneR at hcc
    split at hcc<;>split<;>omega
  ·have e:i=(rawF f l).length:=by omega
   rw[if_neg hlt,if_neg (by omega)]
   rw[e,List.take_of_length_le (Nat.le_refl _),ho] at hcc
   unfold Nd.cnt
   rw[if_neg (by omega),if_neg (by omega)]
   exact .inr (.inr (.inr (.inl ⟨by omega,⟨J.kn,J.has,J.fa⟩,hp,by show c.c+1<=2;omega⟩)))
 ·have hb:=(h.bits ((rawF f l).length+1) (by omega)).2
  rw[if_neg (by omega),if_pos rfl] at hb
  have hw:prW f l ((rawF f l).length+1)=0:=by unfold prW;rw[if_pos (by omega),hb]
  obtain⟨g1,g2⟩:=cnt_zero c hp (prW f l ((rawF f l).length+1))
  refine⟨g1,?_,by rw[g2]⟩
  rw[g2,hw]
  unfold Nd.cnt
  rw[if_pos rfl]
  exact .inr (.inr (.inr (.inr (.inl ⟨by omega,by omega,⟨J.kn,J.has,J.fa⟩,hp,by show 0=_;omega⟩))))
 ·have hw:prW f l i=1:=by
   unfold prW
   by_cases h10:i < (rawF f l).length+10
   ·have hb:=(h.bits i h10).2
    rw[if_pos h10,hb,if_neg (by omega),if_neg (by omega)]
   ·rw[if_neg h10]
  obtain⟨g1,g2⟩:=cnt_zero c hp (prW f l i)
  refine⟨g1,?_,by rw[g2]⟩
  rw[g2,hw]
  unfold Nd.cnt
  rw[if_neg (by omega)]
  by_cases h12:c.c+1=11
  ·rw[if_pos h12]
   exact .inr (.inr (.inr (.inr (.inr ⟨by omega,⟨J.kn,J.has,J.fa⟩,rfl,rfl⟩))))
  ·rw[if_neg h12]
   exact .inr (.inr (.inr (.inr (.inl ⟨by omega,by omega,⟨J.kn,J.has,J.fa⟩,hp,by show c.c+1=_;omega⟩))))
 ·omega
end Go.Proofs.YtipefblpppmabaaGreatDoor
namespace Go.Proofs.YtipefblpppmabaaGreatDoor
set_option linter.unusedVariables false
set_option linter.unusedSimpArgs false
open Go.RowKit
def staV (s:Sta) (v:Value):Value := .agg #[.int .i64 s.k,.int .i64 s.e,.int .i64 s.f.K,.int .u32 s.f.I,.bool s.f.X,.bool s.f.R,.bool s.f.B,.bool s.f.E,.bool s.f.S,.int .u8 s.f.D,.int .u8 s.f.V,.int .u32 s.f.A,v]
def AnsT (s:Sta) (er:Nat) (e:Ending) (w':World):Prop:=∃ a c,e = .returned (.tuple #[staV s (.slice a s.l.length c),.int .i64 er])/\Bs w' a c s.l
def SeeS (At:World->Value->Bool->List Nat->(Nat->Prop)->Prop) (w:World) (v:Value) (kn:Bool) (x:List Nat) (F:Nat->Prop) (e:Ending) (w':World):Prop :=
 ∃ F',(∃ a c,e = .returned (.tuple #[staV (staOf (scS kn x)) (.slice a (staOf (scS kn x)).l.length c),.int .i64 0])/\Bs w' a c (staOf (scS kn x)).l/\∀ b o t,a=some ⟨b,o,t⟩->F' b\/w.heap.size<=b) /\
  At w' v kn x F'/\Kp F w w'/\∀ k,F' k->F k\/w.heap.size<=k
theorem Bs.keepKp {G:Nat->Prop} {w w':World} {a:Option Addr} {c:Nat} {l:List Nat} (h:Bs w a c l) (hk:Kp G w w') (hn:∀ b o t,a=some ⟨b,o,t⟩->¬G b):Bs w' a c l:=by
 refine⟨h.hcap,h.hmax,h.hbyte,fun hl => ?_⟩
 obtain⟨b,o,ha,hc⟩:=h.hcells hl
 refine⟨b,o,ha,fun j hj => ?_⟩
 have h1:=hc j hj
 have hb:=World.block_lt_of_cell? _ _ h1
 have e:=hk.block b hb (hn b o none ha)
 rw[<- h1]
 simp only[World.cell?,e]
end Go.Proofs.YtipefblpppmabaaGreatDoor
namespace Go.Proofs.YtipefblpppmabaaGreatDoor
set_option linter.unusedVariables false
set_option linter.unusedSimpArgs false
open Go.RowKit
def evV (e:Ev) (v:Value):Value:=staV ⟨e.k,e.e,e.f,e.l⟩ v
def stV (n:Nd):Value := .agg #[.int .i64 (n.ph:Nat),.int .i64 (n.count:Nat),.int .i64 n.fa.T,.int .i64 n.fa.R,.bool n.fa.O,.bool n.has]
def New12 (At:World->Value->Nd->(Nat->Prop)->Prop) (w:World) (kn:Bool) (e:Ending) (w':World):Prop :=
 ∃ v F,e = .returned v/\At w' v (Nd.new kn) F/\(∀ k,F k->w.heap.size<=k)/\Nb w w'
def Samp12 (At:World->Value->Nd->(Nat->Prop)->Prop) (w:World) (v:Value) (r:Nd × Ev) (F:Nat->Prop) (e:Ending) (w':World):Prop :=
 ∃ F',(∃ a c,e = .returned (.tuple #[evV r.2 (.slice a r.2.l.length c),.int .i64 0])/\Bs w' a c r.2.l/\∀ b o t,a=some ⟨b,o,t⟩->F' b\/w.heap.size<=b) /\
  At w' v r.1 F'/\Kp F w w'/\∀ k,F' k->F k\/w.heap.size<=k
def Turn12 (At:World->Value->Nd->(Nat->Prop)->Prop) (w:World) (v:Value) (n:Nd) (u:Value) (F:Nat->Prop) (e:Ending) (w':World):Prop :=
 ∃ F',e = .returned u/\At w' v n F'/\Kp F w w'/\∀ k,F' k->F k\/w.heap.size<=k
theorem ones_ok (kn:Bool) (k:Nat):(Nd.ones kn k).Ok:=by
 induction k with
 | zero=>exact new_ok kn
 | succ k ih =>
   have:=(step_ok ih (b:=1) (by omega)).ok
   rw[(ones_step kn k).2] at this
   exact this
theorem ones_x (kn:Bool) (k:Nat):(Nd.ones kn k).x=[]:=by
 unfold Nd.ones
 split<;>rfl
theorem Fr.w_bit {f:Hd} {l:List Nat} (h:Fr f l) {i:Nat} (hi:i < (rawF f l).length+10):(wF f l).getD i 0<=1:=by
 have:=h.raw_bit i
 rw[(h.bits i hi).1]
 split<;>omega
theorem out_le {n:Nd} (h:n.Ok):n.out<=1:=by
 unfold Nd.out
 split
 ·split<;>omega
 ·split
  ·rename_i h2
   obtain⟨q1,q2,_⟩:=h.p2 h2
   exact (h.fr q1).1.w_bit q2
  ·(repeat' split)<;>omega
theorem joined_ok (kn:Bool):(Nd.joined kn).Ok:=ones_ok kn 11
end Go.Proofs.YtipefblpppmabaaGreatDoor
namespace Go.Proofs.YtipefblpppmabaaGreatDoor
set_option linter.unusedVariables false
set_option linter.unusedSimpArgs false
open Go.RowKit
theorem pair_load {f:Hd} {l:List Nat} (h:Fr f l):(Nd.joined true).loadE f l=0/\(Nd.joined true).load f l=prA f l 0/\(prA f l 0).loadE f l=8/\(prA f l 0).load f l=prA f l 0:=by
 have e:(Nd.joined true).loadE f l=0:=by
  unfold Nd.loadE
  rw[h.ok]
  simp[Nd.joined,Nd.new]
 have e2:(Nd.joined true).load f l=prA f l 0:=by
  unfold Nd.load
  rw[if_pos e]
  rfl
 have e3:(prA f l 0).loadE f l=8:=by
  rw[<- e2]
  unfold Nd.load
  rw[if_pos e]
  unfold Nd.loadE
  rw[h.ok]
  simp[Nd.joined,Nd.new]
 refine⟨e,e2,e3,?_⟩
 unfold Nd.load
 rw[e3,if_neg (by omega)]
theorem joined_ok' (kn:Bool):(Nd.joined kn).Ok:=by
 have key:∀ k,(Nd.ones kn k).Ok:=fun k=>by
  induction k with
  | zero=>exact new_ok kn
  | succ k ih =>
    have:=(step_ok ih (b:=1) (by omega)).ok
    rw[(ones_step kn k).2] at this
    exact this
 exact key 11
theorem prW_le {f:Hd} {l:List Nat} (h:Fr f l) (i:Nat) (hi:i < (rawF f l).length+13):prW f l i<=1:=by
 obtain⟨h1,h2,h3⟩:=pr_bus h hi
 omega
theorem prA_ok {f:Hd} {l:List Nat} (h:Fr f l):∀ i,i<=(rawF f l).length+13->(prA f l i).Ok:=by
 intro i
 induction i with
 | zero =>
   intro _
   rw[<- (pair_load h).2.1]
   exact load_ok (joined_ok' true) h.wd h.b (fun hh=>by cases hh)
 | succ i ih =>
   intro hi
   have so:=step_ok (ih (by omega)) (prW_le h i (by omega))
   rw[(prA_step h (by omega)).2] at so
   exact so.ok
theorem prB_ok {f:Hd} {l:List Nat} (h:Fr f l):∀ i,i<=(rawF f l).length+13->(prB f l i).Ok:=by
 intro i
 induction i with
 | zero=>intro _;exact joined_ok' true
 | succ i ih =>
   intro hi
   have so:=step_ok (ih (by omega)) (prW_le h i (by omega))
   rw[(prB_step h (by omega)).2] at so
   exact so.ok
theorem pr_short {f:Hd} {l:List Nat} (h:Fr f l) (i:Nat):(prA f l i).x.length<=60100/\(prB f l i).x.length<=60100:=by
 have hl:=h.raw_len
 have ho:(onW f l).length=(rawF f l).length+10:=onW_len f l
 have ht:∀ n,((onW f l).take n).length<=60100:=fun n=>by rw[List.length_take];omega
 unfold prA prB
 constructor
 ·(repeat' split)
  ·show ([]:List Nat).length<=_;simp
  ·exact ht _
  ·show (onW f l).length<=_;omega
  ·show (onW f l).length<=_;omega
 ·(repeat' split)
  ·show ([]:List Nat).length<=_;simp
  ·exact ht _
  ·exact ht _
  ·exact ht _
  ·exact ht _
end Go.Proofs.YtipefblpppmabaaGreatDoor
