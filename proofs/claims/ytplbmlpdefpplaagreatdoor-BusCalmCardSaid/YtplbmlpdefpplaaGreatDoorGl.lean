/- Nodes that begin at once (layer 13): the one with the lowest key brings its frame across, bit by bit; all others stop, or hear it, or join anew, and more. Conditions: as each says. -/
import Derived.Test.YtplbmlpdefpplaaGreatDoorGv
import Derived.Test.YtplbmlpdefpplaaGreatDoorGor
namespace Go.Proofs.YtplbmlpdefpplaaGreatDoor
set_option linter.unusedVariables false
set_option linter.unusedSimpArgs false
open Go.RowKit
variable {kns:List Bool} {es:List Ev} {o os:List Nat} {ns ss:List Nd} {b i j k kind w:Nat} {n s:Nd}
structure zbZ(s n:Nd):Prop where
 kn:n.kn=s.kn
 has:n.has=s.has
 f:n.f=s.f
 l:n.l=s.l
 fa:n.fa=Fa.zero
def z3h(f:Hd)(s:Nd):Prop:=f.K=3->s.kn=true
inductive Ct (f:Hd) (l:List Nat) (s:Nd) (i:Nat) (n:Nd):Prop where
 | idle (k:zbZ s n) (e:i=0) (p:n.ph=1) (c:n.c=0)
 | send (k:zbZ s n) (h0:0 < i) (p:n.ph=2) (hh:n.has=true) (c:n.c=i) (x:n.x=(onW f l).take i) (a:∀j,j < i->(wF s.f s.l).getD j 0=(wF f l).getD j 0)
 | hear (k:zbZ s n) (q:z3h f s) (h0:0 < i) (h1:i < (zn f l).length+9) (p:n.ph=3) (c:n.c=0) (x:n.x=(onW f l).take i)
 | last (k:zbZ s n) (q:z3h f s) (e:i=(zn f l).length+9) (p:n.ph=4)
 | wait (k:zbZ s n) (q:z3h f s) (h0:(zn f l).length+10<=i) (h1:i < (zn f l).length+13) (p:n.ph=8) (c:n.c=i - ((zn f l).length+10))
 | calm (k:zbZ s n) (e:i=(zn f l).length+13) (p:n.ph=1) (c:n.c=0)
 | al1 (k:zbZ s n) (q:s.kn=false) (q3:f.K=3) (h0:0 < i) (h1:i<=(zn f l).length) (p:n.ph=3) (c:n.c=0) (x:n.x=(onW f l).take i) (e:scS false ((onW f l).take i)=scS true ((onW f l).take i))
 | al2 (k:zbZ s n) (q:s.kn=false) (q3:f.K=3) (h0:0 < i) (h1:i<=(zn f l).length) (p:n.ph=0) (c:n.c<=zjG ((zn f l).take i))
 | al3 (k:zbZ s n) (q:s.kn=false) (q3:f.K=3) (e:i=(zn f l).length+1) (p:n.ph=0) (c:n.c<=2)
 | al4 (k:zbZ s n) (q:s.kn=false) (q3:f.K=3) (h0:(zn f l).length+2<=i) (h1:i < (zn f l).length+13) (p:n.ph=0) (c:n.c=i - ((zn f l).length+2))
structure zk1(f:Hd)(l:List Nat)(s:Nd)(i:Nat)(n:Nd):Prop where
 o1:n.out<=1
 oW:prW f l i<=n.out
 slot:i=(zn f l).length+1->z3h f s->n.out=0
 next:Ct f l s (i+1) (n.step (prW f l i)).1
 got:i+1=(zn f l).length+9->z3h f s->(n.step (prW f l i)).2=⟨2,0,f,l⟩
 no:¬(i+1=(zn f l).length+9/\z3h f s)->(n.step (prW f l i)).2.k=0\/(n.step (prW f l i)).2.k=3
theorem z5W{f:Hd}{l:List Nat}(h:Fr f l)(hi:i < (zn f l).length):prW f l i=(wF f l).getD i 0/\prW f l i=(onW f l).getD i 0/\(wF f l).getD i 0<=1:=by
 obtain⟨b1,b2⟩:=h.bits i (by omega)
 rw[if_pos hi]at b1 b2
 unfold prW
 rw[if_pos (by omega),b1,b2]
 exact⟨rfl,rfl,h.raw_bit i⟩
theorem z5g{f:Hd}{l:List Nat}(h:Fr f l)(h1:(zn f l).length<=i)(h2:i≠(zn f l).length+1):prW f l i=1:=by
 unfold prW
 split
 ·rw[(h.bits i (by omega)).2,if_neg (by omega),if_neg h2]
 ·rfl
theorem z7t{f:Hd}{l:List Nat}(h:Fr f l):prW f l ((zn f l).length+1)=0:=by
 unfold prW
 rw[if_pos (by omega),(h.bits _ (by omega)).2,if_neg (by omega),if_pos rfl]
theorem ziu(h:n.ph=3):n.out=if n.sta.k=1 then 0 else 1:=by
 unfold Nd.out
 rw[if_neg (by omega),if_neg (by omega),if_pos h]
theorem zhD(h:n.ph=3)(b:Nat):n.step b=Nd.heard { n with x:=n.x++[b] } 0:=by
 unfold Nd.step
 rw[if_neg (by omega),if_neg (by omega),if_neg (by omega),if_pos h]
theorem z6u(h:n.sta.k < 2):n.heard kind=(n,⟨kind,0,noF,[]⟩):=by
 unfold Nd.heard
 rw[if_neg (by omega),if_neg (by omega),if_neg (by omega)]
theorem zan(h:n.sta=z3n):n.heard kind=(n.to 0,⟨kind,0,noF,[]⟩):=by
 unfold Nd.heard
 rw[h,if_neg (by decide),if_neg (by decide),if_pos (by decide)]
theorem zbd {f:Hd} {l:List Nat} (h:Fr f l) (K:zbZ s n) (hk:kind=0\/kind=3) (hi:i < (zn f l).length+9) (p:n.ph=3) (c:n.c=0) (x:n.x=(onW f l).take (i+1)) (q:z3h f s\/(s.kn=false/\f.K=3/\i+1<=(zn f l).length)) :
    Ct f l s (i+1) (n.heard kind).1/\(i+1=(zn f l).length+9->z3h f s->(n.heard kind).2=⟨2,0,f,l⟩)/\(¬(i+1=(zn f l).length+9/\z3h f s)->(n.heard kind).2.k=0\/(n.heard kind).2.k=3):=by
 have hsta:n.sta=zW (scS s.kn ((onW f l).take (i+1))):=by unfold Nd.sta;rw[K.kn,x]
 by_cases hq:z3h f s
 ·obtain⟨g1,g2,g3⟩:=h.sta (kn:=s.kn) hq
  by_cases he:i+1=(zn f l).length+9
  ·have hd:n.sta=zjm f l:=by rw[hsta,he,g3];rfl
   have e:n.heard kind=({ n with fa:=z14 n.fa 2,ph:=4,c:=0 },⟨2,0,f,l⟩):=by
    unfold Nd.heard
    rw[hd]
    rfl
   rw[e]
   exact⟨.last ⟨K.kn,K.has,K.f,K.l,by show z14 n.fa 2=_;rw[K.fa];rfl⟩ hq he rfl,fun _ _=>rfl,fun hn=>absurd ⟨he,hq⟩ hn⟩
  ·have hm:n.sta.k < 2:=by
    rw[hsta]
    by_cases ha:i+1=(zn f l).length+1
    ·rw[ha,g2];decide
    ·rw[g1 (i+1) (by omega) ha];decide
   rw[z6u hm]
   exact⟨.hear K hq (by omega) (by omega) p c x,fun e=>absurd e he,fun _=>hk⟩
 ·obtain⟨q1,q2,q3⟩:=q.resolve_left hq
  obtain⟨g1,_,_⟩:=h.sta (kn:=true) (fun _=>rfl)
  rcases(zfU ((onW f l).take (i+1))).2.2 with e | e
  ·have hm:n.sta.k < 2:=by
    rw[hsta,q1,e,g1 (i+1) (by omega) (by omega)]
    decide
   rw[z6u hm]
   exact⟨.al1 K q1 q2 (by omega) q3 p c x e,fun e=>by omega,fun _=>hk⟩
  ·have hm:n.sta=z3n:=by
    rw[hsta,q1,e]
    rfl
   rw[zan hm]
   exact⟨.al2 ⟨K.kn,K.has,K.f,K.l,K.fa⟩ q1 q2 (by omega) q3 rfl (Nat.zero_le _),fun e=>by omega,fun _=>hk⟩
theorem z5R{f:Hd}{l:List Nat}(h:Fr f l)(hs:s.has=true->Fr s.f s.l/\z0X f < z0X s.f)(hi:i < (zn f l).length+13)(C:Ct f l s i n):zk1 f l s i n:=by
 have hl:=h.raw_len
 have hle:=zdV h i hi
 have hcnt:∀b,n.ph=0->n.out=1/\n.step b=(n.cnt b 11 1,z02):=fun b hp=>zgP n hp b
 rcases C with ⟨K,e,p,c⟩ | ⟨K,h0,p,hh,c,x,a⟩ | ⟨K,q,h0,h1,p,c,x⟩ | ⟨K,q,e,p⟩ | ⟨K,q,h0,h1,p,c⟩ | ⟨K,e,p,c⟩ | ⟨K,q,q3,h0,h1,p,c,x,e⟩ | ⟨K,q,q3,h0,h1,p,c⟩ | ⟨K,q,q3,e,p,c⟩ | ⟨K,q,q3,h0,h1,p,c⟩
 ·subst e
  have hW:prW f l 0=0:=by rw[(z5W h (by omega)).1,(h.bits 0 (by omega)).1,if_pos (by omega),h.sof]
  have hx1:(onW f l).take 1=[0]:=by
   have:=z1p f l (i:=0) (by omega)
   rw[List.take_zero,List.nil_append,<- (z5W h (by omega)).2.1,hW]at this
   exact this
  by_cases hh:n.has=true
  ·obtain⟨hg,hkey⟩:=hs (by rw[<- K.has];exact hh)
   have hg':Fr n.f n.l:=by rw[K.f,K.l];exact hg
   obtain⟨g1,g2⟩:=z5K hg' p hh
   have hl2:=hg.raw_len
   rw[<- hW]at g2
   refine⟨by omega,by omega,fun e=>by omega,?_,fun e=>by omega,fun _ => .inl (by rw[g2];rfl)⟩
   rw[g2]
   have hx2:(onW n.f n.l).take 1=[0]:=by
    have e1:=z1p n.f n.l (i:=0) (by omega)
    have e2:=(hg'.bits 0 (by have:=hg'.raw_len;omega)).2
    rw[if_pos (by have:=hg'.raw_len;omega),hg'.sof]at e2
    rw[List.take_zero,List.nil_append,e2]at e1
    exact e1
   refine .send ⟨K.kn,K.has,K.f,K.l,K.fa⟩ (by omega) rfl hh rfl (by show(onW n.f n.l).take 1=_;rw[hx2,hx1]) (fun j hj => ?_)
   obtain rfl:j=0:=by omega
   have e1:=(h.bits 0 (by omega)).1
   have e2:=(hg.bits 0 (by omega)).1
   rw[if_pos (by omega)]at e1 e2
   rw[e1,e2,h.sof,hg.sof]
  ·have hh0:n.has=false:=by simpa using hh
   obtain⟨g1,g2⟩:=z9a f l h p hh0
   rw[<- hW]at g2
   refine⟨by omega,by omega,fun e=>by omega,?_,fun e=>by omega,fun _ => .inl (by rw[g2];rfl)⟩
   rw[g2]
   have K':zbZ s (Nd.atR { n with snd:=false } ((onW f l).take 1)):=⟨K.kn,K.has,K.f,K.l,K.fa⟩
   by_cases hq:z3h f s
   ·exact .hear K' hq (by omega) (by omega) rfl rfl rfl
   ·have h3:f.K=3:=by
     by_cases h3:f.K=3
     ·exact h3
     ·exact absurd (fun e=>absurd e h3) hq
    have hkf:s.kn=false:=by
     cases hk:s.kn with
     | false=>rfl
     | true=>exact absurd (fun _=>hk) hq
    refine .al1 K' hkf h3 (by omega) (by omega) rfl rfl rfl ?_
    rw[hx1]
    rfl
 ·obtain⟨hg,hkey⟩:=hs (by rw[<- K.has];exact hh)
  have hg':Fr n.f n.l:=by rw[K.f,K.l];exact hg
  have ar1:=h.arb
  have ar2:=hg.arb
  obtain⟨d,d1,d2,d3,d4⟩:∃d,d < z2J f l/\d < z2J s.f s.l/\(∀k,k < d->(wF f l).getD k 0=(wF s.f s.l).getD k 0)/\(wF f l).getD d 0=0/\(wF s.f s.l).getD d 0=1:=by
   rcases zby h.ok hg.ok h.wd.1 hg.wd.1 with ⟨e,_⟩ | ⟨d,d1,d2,d3,⟨_,d4⟩ | ⟨e,_⟩⟩
   ·omega
   ·exact⟨d,d1,d2,d3,d4⟩
   ·omega
  have hid:i<=d:=by
   by_cases hid:i<=d
   ·exact hid
   ·have:=a d (by omega)
    omega
  obtain⟨w1,w2,w3⟩:=z5W h (i:=i) (by omega)
  have hout:n.out=(wF s.f s.l).getD i 0:=by
   unfold Nd.out
   rw[if_neg (by omega),if_pos p,K.f,K.l,c]
  have hst:n.step (prW f l i)=n.send (prW f l i):=by
   unfold Nd.step
   rw[if_neg (by omega),if_neg (by omega),if_pos p]
  have hack:z2P n.f n.l=(zn n.f n.l).length+1:=hg'.len.2
  have hwl:(wF n.f n.l).length=(zn n.f n.l).length+10:=hg'.len.1
  have hnl:(zn n.f n.l).length=(zn s.f s.l).length:=by rw[K.f,K.l]
  by_cases hlt:i < d
  ·have hb:=d3 i hlt
   have hgo:n.send (prW f l i)=({ n with x:=n.x++[prW f l i],c:=n.c+1 },z02):=by
    unfold Nd.send
    rw[if_neg (show ¬n.c=z2P n.f n.l by rw[hack];omega),if_pos (show prW f l i=(wF n.f n.l).getD n.c 0 by rw[K.f,K.l,c,w1,hb])]
    unfold Nd.goOn
    rw[if_pos (by show n.c+1 < (wF n.f n.l).length;omega)]
   refine⟨by omega,by omega,fun e=>by omega,?_,fun e=>by omega,fun _ => .inl (by rw[hst,hgo];rfl)⟩
   rw[hst,hgo]
   refine .send ⟨K.kn,K.has,K.f,K.l,K.fa⟩ (by omega) p hh (by show n.c+1=i+1;omega) (by show n.x++[prW f l i]=_;rw[x,w2,<- z1p f l (by omega)]) (fun j hj => ?_)
   by_cases hj2:j < i
   ·exact a j hj2
   ·obtain rfl:j=i:=by omega
    exact hb.symm
  ·obtain rfl:i=d:=by omega
   have hW:prW f l i=0:=by rw[w1,d4.1]
   have hgo:n.send (prW f l i)=Nd.heard { n with x:=n.x++[prW f l i],ph:=3,c:=0,snd:=false } 3:=by
    unfold Nd.send
    rw[if_neg (show ¬n.c=z2P n.f n.l by rw[hack];omega),if_neg (show ¬prW f l i=(wF n.f n.l).getD n.c 0 by rw[K.f,K.l,c,hW,d4.2];omega),if_pos ⟨by rw[K.f,K.l,c];exact d4.2,by rw[K.f,K.l,c];exact d2⟩]
   have hx:n.x++[prW f l i]=(onW f l).take (i+1):=by rw[x,w2,<- z1p f l (by omega)]
   obtain⟨r1,r2,r3⟩:=zbd h (n:={ n with x:=n.x++[prW f l i],ph:=3,c:=0,snd:=false }) (i:=i) (kind:=3) (s:=s) ⟨K.kn,K.has,K.f,K.l,K.fa⟩ (.inr rfl) (by omega) rfl rfl hx (by
    by_cases hq:z3h f s
    ·exact .inl hq
    ·refine .inr ⟨?_,?_,by omega⟩
     ·cases hk:s.kn with
      | false=>rfl
      | true=>exact absurd (fun _=>hk) hq
     ·by_cases h3:f.K=3
      ·exact h3
      ·exact absurd (fun e=>absurd e h3) hq)
   rw[<- hgo,<- hst]at r1 r2 r3
   exact⟨by omega,by omega,fun e=>by omega,r1,r2,r3⟩
 ·have hn:n=n.atR ((onW f l).take i):=by
   cases n
   simp only[Nd.atR]at *
   subst p c x
   rfl
  obtain⟨g1,g2⟩:=zb7 h (n:=n) (fun h3=>by rw[K.kn];exact q h3) h0 h1
  rw[<- hn]at g1 g2
  have hW:prW f l i=(onW f l).getD i 0:=by unfold prW;rw[if_pos (by omega)]
  rw[<- hW]at g2
  refine⟨by rw[g1];split<;>omega,?_,fun e _=>by rw[g1,if_pos e],?_,fun e _ => ?_,fun e => ?_⟩
  ·rw[g1]
   split
   ·rename_i e
    rw[e,z7t h]
    omega
   ·exact hle
  ·rw[g2]
   by_cases hlt:i+1 < (zn f l).length+9
   ·rw[if_pos hlt]
    exact .hear ⟨K.kn,K.has,K.f,K.l,K.fa⟩ q (by omega) hlt rfl rfl rfl
   ·rw[if_neg hlt]
    exact .last ⟨K.kn,K.has,K.f,K.l,by show z14 n.fa 2=_;rw[K.fa];rfl⟩ q (by omega) rfl
  ·rw[g2,if_neg (by omega)]
  ·rw[g2,if_pos (by
    by_cases e9:i+1=(zn f l).length+9
    ·exact absurd ⟨e9,q⟩ e
    ·omega)]
   exact .inl rfl
 ·have hW:=z5g h (i:=i) (by omega) (by omega)
  obtain⟨g1,g2⟩:=zat n p
  refine⟨by omega,by omega,fun e=>by omega,?_,fun e=>by omega,fun _ => .inl ?_⟩
  ·rw[hW,g2]
   exact .wait ⟨K.kn,K.has,K.f,K.l,K.fa⟩ q (by omega) (by omega) rfl (by show 0=_;omega)
  ·rw[hW,g2];rfl
 ·have hW:=z5g h (i:=i) (by omega) (by omega)
  obtain⟨g1,g2⟩:=z3B n p
  have hz:z2L n.fa=0:=by rw[K.fa];rfl
  rw[if_neg (show ¬(n.snd=true/\z2L n.fa=1) by rw[hz];omega)]at g2
  refine⟨by omega,by omega,fun e=>by omega,?_,fun e=>by omega,fun _ => .inl ?_⟩
  ·rw[hW,g2]
   by_cases h3:n.c+1=3
   ·rw[if_pos h3]
    exact .calm ⟨K.kn,K.has,K.f,K.l,K.fa⟩ (by omega) rfl rfl
   ·rw[if_neg h3]
    exact .wait ⟨K.kn,K.has,K.f,K.l,K.fa⟩ q (by omega) (by omega) p (by show n.c+1=_;omega)
  ·rw[hW,g2];split<;>rfl
 ·omega
 ·have hsta:n.sta=zM:=by
   obtain⟨g1,_,_⟩:=h.sta (kn:=true) (fun _=>rfl)
   unfold Nd.sta
   rw[K.kn,x,q,e,g1 i (by omega) (by omega)]
  have hout:n.out=1:=by
   rw[ziu p,hsta]
   rfl
  have hW:prW f l i=(onW f l).getD i 0:=by unfold prW;rw[if_pos (by omega)]
  have hx:n.x++[prW f l i]=(onW f l).take (i+1):=by rw[x,hW,<- z1p f l (by omega)]
  have hlt:i < (zn f l).length:=by
   by_cases hlt:i < (zn f l).length
   ·exact hlt
   ·exfalso
    obtain⟨_,y,hy⟩:=ze8 (l:=l) q3
    have e1:i=(zn f l).length:=by omega
    have e2:(onW f l).take i=zn f l:=by rw[e1,onW,List.take_left]
    obtain⟨_,_,_,_,_,h6,_⟩:=z7Z h.ok h.wd h.b
    rw[e2,h6,hy,(zhF f.I.toNat y).1]at e
    cases e
  obtain⟨r1,r2,r3⟩:=zbd h (n:={ n with x:=n.x++[prW f l i] }) (i:=i) (kind:=0) (s:=s) ⟨K.kn,K.has,K.f,K.l,K.fa⟩ (.inl rfl) (by omega) p c hx (.inr ⟨q,q3,by omega⟩)
  rw[<- zhD p]at r1 r2 r3
  exact⟨by omega,by omega,fun e hq=>absurd (hq q3) (by rw[q];simp),r1,r2,r3⟩
 ·obtain⟨g1,g2⟩:=hcnt (prW f l i) p
  obtain⟨ho,_⟩:=ze8 (l:=l) q3
  have hruns:∀k,(zq ((zn f l).take k)).2<=9:=by
   have hX:okX f l=true:=by have:=h.ok;simp[okX,q3,this]
   rw[zke q3]
   exact zeJ hX
  have h9:=hruns i
  have hc9:n.c<=9:=by unfold zjG at c;split at c<;>omega
  refine⟨by omega,by omega,fun e hq=>absurd (hq q3) (by rw[q];simp),?_,fun e hq=>absurd (hq q3) (by rw[q];simp),fun _ => .inl (by rw[g2];rfl)⟩
  rw[g2]
  by_cases hlt:i < (zn f l).length
  ·have hr1:=h.raw_bit i
   have ht:(zn f l).take (i+1)=(zn f l).take i++[(zn f l).getD i 0]:=by
    rw[List.take_add_one]
    congr 1
    simp[List.getD,hlt]
   have hW:prW f l i=(zn f l).getD i 0:=by rw[(z5W h hlt).1,(h.bits i (by omega)).1,if_pos hlt]
   refine .al2 (by unfold Nd.cnt;(repeat' split)<;>exact⟨K.kn,K.has,K.f,K.l,K.fa⟩) q q3 (by omega) (by omega) ?_ ?_
   ·unfold Nd.cnt
    rw[if_neg (show ¬n.c+1=11 by omega)]
    split<;>exact p
   ·rw[ht,z8e,<- hW]
    unfold Nd.cnt
    rcases(by omega:prW f l i=0\/prW f l i=1)with e | e
    ·rw[e,if_pos rfl]
     exact Nat.zero_le _
    ·rw[e,if_neg (by omega),if_neg (by omega),if_pos rfl]
     show n.c+1<=_
     unfold zjG at c
     split at c<;>split<;>omega
  ·have e:i=(zn f l).length:=by omega
   have hW:=z5g h (i:=i) (by omega) (by omega)
   rw[e,List.take_of_length_le (Nat.le_refl _),ho]at c
   rw[hW]
   unfold Nd.cnt
   rw[if_neg (by omega),if_neg (by omega)]
   exact .al3 ⟨K.kn,K.has,K.f,K.l,K.fa⟩ q q3 (by omega) p (by show n.c+1<=2;omega)
 ·obtain⟨g1,g2⟩:=hcnt (prW f l i) p
  have hW:prW f l i=0:=by rw[e,z7t h]
  refine⟨by omega,by omega,fun e hq=>absurd (hq q3) (by rw[q];simp),?_,fun e hq=>absurd (hq q3) (by rw[q];simp),fun _ => .inl (by rw[g2];rfl)⟩
  rw[g2,hW]
  unfold Nd.cnt
  rw[if_pos rfl]
  exact .al4 ⟨K.kn,K.has,K.f,K.l,K.fa⟩ q q3 (by omega) (by omega) p (by show 0=_;omega)
 ·obtain⟨g1,g2⟩:=hcnt (prW f l i) p
  have hW:=z5g h (i:=i) (by omega) (by omega)
  refine⟨by omega,by omega,fun e hq=>absurd (hq q3) (by rw[q];simp),?_,fun e hq=>absurd (hq q3) (by rw[q];simp),fun _ => .inl (by rw[g2];rfl)⟩
  rw[g2,hW]
  unfold Nd.cnt
  rw[if_neg (by omega)]
  by_cases h12:n.c+1=11
  ·rw[if_pos h12]
   exact .calm ⟨K.kn,K.has,K.f,K.l,K.fa⟩ (by omega) rfl rfl
  ·rw[if_neg h12]
   exact .al4 ⟨K.kn,K.has,K.f,K.l,K.fa⟩ q q3 (by omega) (by omega) p (by show n.c+1=_;omega)
structure Own(f:Hd)(l:List Nat)(s:Nd)(i:Nat)(n:Nd):Prop where
 kn:n.kn=s.kn
 ff:n.f=f
 ll:n.l=l
 fa:n.fa=Fa.zero
 at_:(i=0/\n.has=true/\n.ph=1/\n.c=0)\/(0 < i/\i < (zn f l).length+10/\n.has=true/\n.ph=2/\n.c=i/\n.x=(onW f l).take i) \/
  ((zn f l).length+10<=i/\i < (zn f l).length+13/\n.has=false/\n.ph=8/\n.c=i - ((zn f l).length+10))\/(i=(zn f l).length+13/\n.has=false/\n.ph=1/\n.c=0)
theorem z59 {f:Hd} {l:List Nat} (h:Fr f l) (hi:i < (zn f l).length+13) (O:Own f l s i n) :
    n.out<=1/\prW f l i<=n.out/\(i≠(zn f l).length+1->n.out=prW f l i)/\Own f l s (i+1) (n.step (prW f l i)).1/\(n.step (prW f l i)).2=(if i+1=(zn f l).length+10 then⟨1,0,f,l⟩else z02):=by
 have hl:=h.raw_len
 have hle:=zdV h i hi
 obtain⟨ok,rfl,rfl,ofa,oa⟩:=O
 have mk:∀m:Nd,m.kn=n.kn->m.f=n.f->m.l=n.l->m.fa=Fa.zero->∀j,((j=0/\m.has=true/\m.ph=1/\m.c=0)\/(0 < j/\j < (zn n.f n.l).length+10/\m.has=true/\m.ph=2/\m.c=j/\m.x=(onW n.f n.l).take j) \/
  ((zn n.f n.l).length+10<=j/\j < (zn n.f n.l).length+13/\m.has=false/\m.ph=8/\m.c=j - ((zn n.f n.l).length+10))\/(j=(zn n.f n.l).length+13/\m.has=false/\m.ph=1/\m.c=0))->Own n.f n.l s j m :=
  fun m a1 a2 a3 a4 j a5=>⟨a1.trans ok,a2,a3,a4,a5⟩
 rcases oa with ⟨rfl,q1,q2,q3⟩ | ⟨q1,q2,q3,q4,q5,q6⟩ | ⟨q1,q2,q3,q4,q5⟩ | ⟨q1,_⟩
 ·have hW:prW n.f n.l 0=0:=by rw[(z5W h (by omega)).1,(h.bits 0 (by omega)).1,if_pos (by omega),h.sof]
  obtain⟨g1,g2⟩:=z5K h q2 q1
  rw[hW,g1,g2,if_neg (by omega)]
  exact⟨by omega,by omega,fun _=>rfl,mk (n.atS 1) rfl rfl rfl ofa 1 (.inr (.inl ⟨by omega,by omega,q1,rfl,rfl,rfl⟩)),rfl⟩
 ·have e:n.step (prW n.f n.l i)=n.send (prW n.f n.l i):=by
   unfold Nd.step
   rw[if_neg (by omega),if_neg (by omega),if_pos q4]
  have hW:prW n.f n.l i=(onW n.f n.l).getD i 0:=by unfold prW;rw[if_pos (by omega)]
  have hout:n.out=(wF n.f n.l).getD i 0:=by
   unfold Nd.out
   rw[if_neg (by omega),if_pos q4,q5]
  obtain⟨b1,b2⟩:=h.bits i q2
  have hr:=h.raw_bit i
  have hsend:n.send (prW n.f n.l i)=if i+1 < (zn n.f n.l).length+10 then({ n with c:=i+1,x:=(onW n.f n.l).take (i+1) },z02) else({ n with ph:=8,c:=0,x:=onW n.f n.l,has:=false,fa:=z14 n.fa 1 },⟨1,0,n.f,n.l⟩):=by
   have hgo:Nd.goOn { n with x:=n.x++[prW n.f n.l i] }=if i+1 < (zn n.f n.l).length+10 then({ n with c:=i+1,x:=(onW n.f n.l).take (i+1) },z02) else({ n with ph:=8,c:=0,x:=onW n.f n.l,has:=false,fa:=z14 n.fa 1 },⟨1,0,n.f,n.l⟩):=by
    have hx:n.x++[prW n.f n.l i]=(onW n.f n.l).take (i+1):=by rw[q6,hW,<- z1p _ _ q2]
    rw[hx]
    unfold Nd.goOn
    simp only[h.len.1,q5]
    by_cases hlt:i+1 < (zn n.f n.l).length+10
    ·rw[if_pos hlt,if_pos hlt]
    ·rw[if_neg hlt,if_neg hlt,List.take_of_length_le (by rw[z31];omega)]
   unfold Nd.send
   by_cases ha:i=(zn n.f n.l).length+1
   ·rw[if_pos (show n.c=z2P n.f n.l by rw[h.len.2,q5];exact ha),if_neg (by rw[hW,b2,if_neg (by omega),if_pos ha];omega)]
    exact hgo
   ·rw[if_neg (show ¬n.c=z2P n.f n.l by rw[h.len.2,q5];exact ha),if_pos (show prW n.f n.l i=(wF n.f n.l).getD n.c 0 by
     rw[q5,hW,b1,b2]
     by_cases hlt:i < (zn n.f n.l).length
     ·rw[if_pos hlt,if_pos hlt]
     ·rw[if_neg hlt,if_neg hlt,if_neg ha])]
    exact hgo
  rw[e,hsend,hout]
  refine⟨by rw[b1];split<;>omega,?_,fun ha => ?_,?_,?_⟩
  ·rw[hW,b1,b2]
   by_cases hlt:i < (zn n.f n.l).length
   ·rw[if_pos hlt,if_pos hlt];exact Nat.le_refl _
   ·rw[if_neg hlt,if_neg hlt];split<;>omega
  ·rw[hW,b1,b2]
   by_cases hlt:i < (zn n.f n.l).length
   ·rw[if_pos hlt,if_pos hlt]
   ·rw[if_neg hlt,if_neg hlt,if_neg ha]
  ·by_cases hlt:i+1 < (zn n.f n.l).length+10
   ·rw[if_pos hlt]
    exact mk { n with c:=i+1,x:=(onW n.f n.l).take (i+1) } rfl rfl rfl ofa (i+1) (.inr (.inl ⟨by omega,hlt,q3,q4,rfl,rfl⟩))
   ·rw[if_neg hlt]
    exact mk { n with ph:=8,c:=0,x:=onW n.f n.l,has:=false,fa:=z14 n.fa 1 } rfl rfl rfl (by show z14 n.fa 1=_;rw[ofa];rfl) (i+1) (.inr (.inr (.inl ⟨by omega,by omega,rfl,rfl,by show 0=_;omega⟩)))
  ·by_cases hlt:i+1 < (zn n.f n.l).length+10
   ·rw[if_pos hlt,if_neg (by omega)]
   ·rw[if_neg hlt,if_pos (by omega)]
 ·have hW:=z5g h (i:=i) (by omega) (by omega)
  obtain⟨g1,g2⟩:=z3B n q4
  have hz:z2L n.fa=0:=by rw[ofa];rfl
  rw[if_neg (show ¬(n.snd=true/\z2L n.fa=1) by rw[hz];omega)]at g2
  rw[hW,g2,g1,if_neg (show ¬i+1=(zn n.f n.l).length+10 by omega)]
  refine⟨by omega,by omega,fun _=>rfl,?_,by split<;>rfl⟩
  by_cases h3:n.c+1=3
  ·rw[if_pos h3]
   exact mk (n.to 1) rfl rfl rfl ofa (i+1) (.inr (.inr (.inr ⟨by omega,q3,rfl,rfl⟩)))
  ·rw[if_neg h3]
   exact mk { n with c:=n.c+1 } rfl rfl rfl ofa (i+1) (.inr (.inr (.inl ⟨by omega,by omega,q3,q4,by show n.c+1=_;omega⟩)))
 ·omega
theorem z76(h1:∀o∈os,b<=o/\o<=1)(h2:b=1\/b∈os):os.foldl min 1=b:=by
 have key:∀(os:List Nat) (a:Nat),(∀o∈os,b<=o/\o<=1)->b<=a->(a=b\/b∈os)->os.foldl min a=b:=by
  intro os
  induction os with
  | nil =>
    intro a _ _ h
    rcases h with h | h
    ·exact h
    ·cases h
  | cons o os ih =>
    intro a h1 ha h
    rw[List.foldl_cons]
    have ho:=h1 o (by simp)
    refine ih (min a o) (fun x hx=>h1 x (by simp[hx])) (by omega) ?_
    rcases h with h | h
    ·exact .inl (by omega)
    ·rcases List.mem_cons.1 h with h | h
     ·exact .inl (by omega)
     ·exact .inr h
 by_cases hb:b=1
 ·exact key os 1 h1 (by omega) (.inl hb.symm)
 ·rcases h2 with h2 | h2
  ·exact absurd h2 hb
  ·exact key os 1 h1 (by have:=(h1 b h2).2;omega) (.inr h2)
structure zk2(f:Hd)(l:List Nat)(w:Nat)(ss:List Nd):Prop where
 fr:Fr f l
 lt:w < ss.length
 less:∀j (h:j < ss.length),j≠w->ss[j].has=true->Fr ss[j].f ss[j].l/\z0X f < z0X ss[j].f
 two:∃j,∃h:j < ss.length,j≠w/\z3h f ss[j]
def zfR(f:Hd)(l:List Nat)(w:Nat)(ss ns:List Nd)(i:Nat):Prop :=
 ns.length=ss.length/\∀j (h1:j < ss.length) (h2:j < ns.length),(j=w->Own f l ss[j] i ns[j])/\(j≠w->Ct f l ss[j] i ns[j])
theorem zhl{f:Hd}{l:List Nat}(R:zk2 f l w ss)(C:zfR f l w ss ns i)(hi:i < (zn f l).length+13):z3e ns=prW f l i:=by
 obtain⟨hlen,C⟩:=C
 have mem:∀j (h:j < ns.length),ns[j].out∈ns.map Nd.out:=fun j h=>List.mem_map.2 ⟨_,List.getElem_mem h,rfl⟩
 refine z76 (fun o ho => ?_) ?_
 ·obtain⟨n,hn,rfl⟩:=List.mem_map.1 ho
  obtain⟨j,hj,rfl⟩:=List.getElem_of_mem hn
  obtain⟨c1,c2⟩:=C j (by omega) hj
  by_cases hw:j=w
  ·obtain⟨a,b,_⟩:=z59 R.fr hi (c1 hw)
   exact⟨b,a⟩
  ·have S:=z5R R.fr (R.less j (by omega) hw) hi (c2 hw)
   exact⟨S.oW,S.o1⟩
 ·by_cases hs:i=(zn f l).length+1
  ·obtain⟨j,hj,hw,hq⟩:=R.two
   have S:=z5R R.fr (R.less j hj hw) hi ((C j hj (by omega)).2 hw)
   have e:=S.slot hs hq
   refine .inr ?_
   rw[hs,z7t R.fr,<- e]
   exact mem j (by omega)
  ·obtain⟨_,_,e,_⟩:=z59 R.fr hi ((C w R.lt (by rw[hlen];exact R.lt)).1 rfl)
   refine .inr ?_
   rw[<- e hs]
   exact mem w (by rw[hlen];exact R.lt)
theorem zeL{f:Hd}{l:List Nat}(R:zk2 f l w ss)(C:zfR f l w ss ns i)(hi:i < (zn f l).length+13):zfR f l w ss (ns.map fun n=>(n.step (prW f l i)).1) (i+1):=by
 obtain⟨hlen,C⟩:=C
 refine⟨by rw[List.length_map];exact hlen,fun j h1 h2 => ?_⟩
 rw[List.length_map]at h2
 obtain⟨c1,c2⟩:=C j h1 h2
 rw[List.getElem_map]
 exact⟨fun hw=>(z59 R.fr hi (c1 hw)).2.2.2.1,fun hw=>(z5R R.fr (R.less j h1 hw) hi (c2 hw)).next⟩
theorem ziD {f:Hd} {l:List Nat} (R:zk2 f l w ss) (C:zfR f l w ss ns i) (hi:i < (zn f l).length+13) (j:Nat) (h1:j < ss.length) (h2:j < ns.length) :
    (j=w->(ns[j].step (prW f l i)).2=if i+1=(zn f l).length+10 then⟨1,0,f,l⟩else z02) /\
    (j≠w->i+1=(zn f l).length+9->z3h f ss[j]->(ns[j].step (prW f l i)).2=⟨2,0,f,l⟩) /\
    (j≠w->¬(i+1=(zn f l).length+9/\z3h f ss[j])->(ns[j].step (prW f l i)).2.k=0\/(ns[j].step (prW f l i)).2.k=3):=by
 obtain⟨c1,c2⟩:=C.2 j h1 h2
 exact⟨fun hw=>(z59 R.fr hi (c1 hw)).2.2.2.2,fun hw a b=>(z5R R.fr (R.less j h1 hw) hi (c2 hw)).got a b,fun hw a=>(z5R R.fr (R.less j h1 hw) hi (c2 hw)).no a⟩
theorem zcD{f:Hd}{l:List Nat}(h:∀j (hj:j < ss.length),ss[j].ph=1/\ss[j].c=0/\ss[j].fa=Fa.zero)(hw:∀hj:w < ss.length,ss[w].has=true/\ss[w].f=f/\ss[w].l=l):zfR f l w ss ss 0:=by
 refine⟨rfl,fun j h1 _ => ?_⟩
 obtain⟨a1,a2,a3⟩:=h j h1
 refine⟨fun e => ?_,fun _ => .idle ⟨rfl,rfl,rfl,rfl,a3⟩ rfl a1 a2⟩
 subst e
 obtain⟨b1,b2,b3⟩:=hw h1
 exact⟨rfl,b2,b3,a3,.inl ⟨rfl,b1,a1,a2⟩⟩
theorem zfW {f:Hd} {l:List Nat} (R:zk2 f l w ss) (C:zfR f l w ss ns ((zn f l).length+13)) (j:Nat) (h1:j < ss.length) (h2:j < ns.length) :
    ns[j].ph=1/\ns[j].c=0/\ns[j].fa=Fa.zero/\ns[j].kn=ss[j].kn/\(j=w->ns[j].has=false)/\(j≠w->ns[j].has=ss[j].has/\ns[j].f=ss[j].f/\ns[j].l=ss[j].l):=by
 obtain⟨c1,c2⟩:=C.2 j h1 h2
 by_cases hw:j=w
 ·obtain⟨o1,_,_,o4,o5⟩:=c1 hw
  rcases o5 with ⟨e,_⟩ | ⟨_,e,_⟩ | ⟨_,e,_⟩ | ⟨_,e1,e2,e3⟩
  ·omega
  ·omega
  ·omega
  ·exact⟨e2,e3,o4,o1,fun _=>e1,fun h=>absurd hw h⟩
 ·have key:∀(K:zbZ ss[j] ns[j]),ns[j].ph=1->ns[j].c=0->ns[j].ph=1/\ns[j].c=0/\ns[j].fa=Fa.zero/\ns[j].kn=ss[j].kn/\(j=w->ns[j].has=false)/\(j≠w->ns[j].has=ss[j].has/\ns[j].f=ss[j].f/\ns[j].l=ss[j].l) :=
   fun K p c=>⟨p,c,K.fa,K.kn,fun h=>absurd h hw,fun _=>⟨K.has,K.f,K.l⟩⟩
  rcases c2 hw with ⟨K,e,p,c⟩ | ⟨K,h0,p,hh,c,x,a⟩ | ⟨K,q,h0,h1,p,c,x⟩ | ⟨K,q,e,p⟩ | ⟨K,q,h0,h1,p,c⟩ | ⟨K,e,p,c⟩ | ⟨K,q,q3,h0,h1,p,c,x,e⟩ | ⟨K,q,q3,h0,h1,p,c⟩ | ⟨K,q,q3,e,p,c⟩ | ⟨K,q,q3,h0,h1,p,c⟩
  ·omega
  ·exfalso
   obtain⟨hg,hkey⟩:=R.less j h1 hw (by rw[<- K.has];exact hh)
   have ar:=R.fr.arb
   rcases zby R.fr.ok hg.ok R.fr.wd.1 hg.wd.1 with ⟨e,_⟩ | ⟨d,d1,d2,d3,⟨_,d4⟩ | ⟨e,_⟩⟩
   ·omega
   ·have:=a d (by omega)
    omega
   ·omega
  ·omega
  ·omega
  ·omega
  ·exact key K p c
  ·omega
  ·omega
  ·omega
  ·omega
def fsD(fs:List (Hd × List Nat))(j:Nat):Hd × List Nat:=fs.getD j (noF,[])
def frK(fs:List (Hd × List Nat))(o:List Nat)(k:Nat):Hd × List Nat:=fsD fs (o.getD k 0)
def frL(fs:List (Hd × List Nat))(o:List Nat)(k:Nat):Nat:=(zn (frK fs o k).1 (frK fs o k).2).length
structure z6e(kns:List Bool)(fs:List (Hd × List Nat))(o:List Nat):Prop where
 le:fs.length<=kns.length
 fr:∀j,j < fs.length->Fr (fsD fs j).1 (fsD fs j).2
 ol:o.length=fs.length
 olt:∀k,k < fs.length->o.getD k 0 < fs.length
 all:∀j,j < fs.length->j∈o
 nod:o.Nodup
 less:∀a b,a < b->b < fs.length->z0X (frK fs o a).1 < z0X (frK fs o b).1
 two:∀k,k < fs.length->∃j,j < kns.length/\j≠o.getD k 0/\((frK fs o k).1.K=3->kns.getD j false=true)
structure z24(kns:List Bool)(fs:List (Hd × List Nat))(done:List Nat)(ss:List Nd):Prop where
 len:ss.length=kns.length
 st:∀j (h:j < ss.length),ss[j].ph=1/\ss[j].c=0/\ss[j].fa=Fa.zero/\ss[j].kn=kns.getD j false
 yes:∀j (h:j < ss.length),j < fs.length->j∉done->ss[j].has=true/\ss[j].f=(fsD fs j).1/\ss[j].l=(fsD fs j).2
 no:∀j (h:j < ss.length),fs.length<=j\/j∈done->ss[j].has=false
theorem z2U(h:k < o.length):o.getD k 0=o[k]:=by simp[List.getD,h]
theorem zjz(hb:b < k)(hl:b < o.length):o.getD b 0∈o.take k:=by
 rw[z2U hl]
 exact List.mem_iff_getElem.2 ⟨b,by rw[List.length_take];omega,by rw[List.getElem_take]⟩
theorem zjr(hn:o.Nodup)(hl:k < o.length):o.getD k 0∉o.take k:=fun h=>by
 obtain⟨i,hi,h1⟩:=List.getElem_of_mem h
 rw[List.length_take]at hi
 rw[List.getElem_take,z2U hl]at h1
 have:=(List.getElem_inj hn).1 h1
 omega
theorem zay(hl:k < o.length):o.take (k+1)=o.take k++[o.getD k 0]:=by
 rw[List.take_add_one]
 simp[List.getD,hl]
theorem z8D{fs:List (Hd × List Nat)}(C:z6e kns fs o)(hk:k < fs.length)(I:z24 kns fs (o.take k) ss):zk2 (frK fs o k).1 (frK fs o k).2 (o.getD k 0) ss:=by
 have hol:=C.ol
 have hle:=C.le
 have hlen:=I.len
 refine⟨C.fr _ (C.olt k hk),by have:=C.olt k hk;omega,fun j h hj hh => ?_,?_⟩
 ·have hjf:j < fs.length:=by
   by_cases hjf:j < fs.length
   ·exact hjf
   ·rw[I.no j h (.inl (by omega))]at hh
    cases hh
  have hjt:j∉o.take k:=fun hm=>by
   rw[I.no j h (.inr hm)]at hh
   cases hh
  obtain⟨_,e2,e3⟩:=I.yes j h hjf hjt
  rw[e2,e3]
  refine⟨C.fr j hjf,?_⟩
  obtain⟨b,hb,hbj⟩:=List.getElem_of_mem (C.all j hjf)
  have hbj':o.getD b 0=j:=by rw[z2U hb];exact hbj
  have hkb:k < b:=by
   rcases Nat.lt_trichotomy b k with e | e | e
   ·exact absurd (hbj' ▸ zjz e hb) hjt
   ·subst e
    exact absurd hbj'.symm hj
   ·exact e
  have:=C.less k b hkb (by omega)
  unfold frK at this
  rw[hbj']at this
  exact this
 ·obtain⟨j,h1,h2,h3⟩:=C.two k hk
  refine⟨j,by omega,h2,fun e => ?_⟩
  rw[(I.st j (by omega)).2.2.2]
  exact h3 e
theorem zeX{fs:List (Hd × List Nat)}(C:z6e kns fs o)(hk:k < fs.length)(I:z24 kns fs (o.take k) ss):zfR (frK fs o k).1 (frK fs o k).2 (o.getD k 0) ss ss 0:=by
 refine zcD (fun j hj => ?_) (fun hj=>I.yes _ hj (C.olt k hk) (zjr C.nod (by rw[C.ol];exact hk)))
 obtain⟨a1,a2,a3,_⟩:=I.st j hj
 exact⟨a1,a2,a3⟩
theorem ze6{fs:List (Hd × List Nat)}(C:z6e kns fs o)(hk:k < fs.length)(I:z24 kns fs (o.take k) ss)(F:zfR (frK fs o k).1 (frK fs o k).2 (o.getD k 0) ss ns (frL fs o k+13)):z24 kns fs (o.take (k+1)) ns:=by
 have R:=z8D C hk I
 have hlen:=F.1
 have hkl:k < o.length:=by rw[C.ol];exact hk
 have key:=fun j (h:j < ns.length)=>zfW R F j (by omega) h
 refine⟨by rw[hlen];exact I.len,fun j h => ?_,fun j h hj hd => ?_,fun j h hd => ?_⟩
 ·obtain⟨a1,a2,a3,a4,_⟩:=key j h
  exact⟨a1,a2,a3,a4.trans (I.st j (by omega)).2.2.2⟩
 ·rw[zay hkl]at hd
  have h1:j∉o.take k:=fun hm=>hd (List.mem_append.2 (.inl hm))
  have h2:j≠o.getD k 0:=fun e=>hd (List.mem_append.2 (.inr (by rw[e];simp)))
  obtain⟨_,_,_,_,_,a6⟩:=key j h
  obtain⟨b1,b2,b3⟩:=a6 h2
  obtain⟨c1,c2,c3⟩:=I.yes j (by omega) hj h1
  exact⟨b1.trans c1,b2.trans c2,b3.trans c3⟩
 ·obtain⟨_,_,_,_,a5,a6⟩:=key j h
  by_cases hw:j=o.getD k 0
  ·exact a5 hw
  ·rw[(a6 hw).1]
   refine I.no j (by omega) (hd.imp_right fun hm => ?_)
   rw[zay hkl]at hm
   rcases List.mem_append.1 hm with hm | hm
   ·exact hm
   ·exact absurd (List.mem_singleton.1 hm) hw
def zfO(e:Ev):Bool := !(e.k==0) && !(e.k==3)
theorem z5t{e:Ev}(h:e.k=0\/e.k=3):zfO e=false:=by
 unfold zfO
 rcases h with h | h<;>rw[h]<;>rfl
def z5J(es:List Ev):List (Nat × Ev):=((List.range es.length).filter fun j=>zfO (es.getD j z02)).map fun j=>(j,es.getD j z02)
theorem z5P(h:∀j,j < es.length->(es.getD j z02).k=0\/(es.getD j z02).k=3):z5J es=[]:=by
 unfold z5J
 rw[List.map_eq_nil_iff,List.filter_eq_nil_iff]
 intro j hj
 rw[z5t (h j (List.mem_range.1 hj))]
 simp
theorem z8b{n:Nat}(h:w < n):(List.range n).filter (fun j=>j==w)=[w]:=by
 induction n with
 | zero=>omega
 | succ n ih =>
   rw[List.range_succ,List.filter_append]
   by_cases hw:w < n
   ·rw[ih hw,List.filter_cons,if_neg (by simp;omega)]
    rfl
   ·have e:w=n:=by omega
    subst e
    rw[List.filter_eq_nil_iff.2 (fun j hj=>by have:=List.mem_range.1 hj;simp;omega)]
    simp
theorem zgY(hw:w < es.length)(h1:zfO (es.getD w z02)=true)(h:∀j,j < es.length->j≠w->(es.getD j z02).k=0\/(es.getD j z02).k=3):z5J es=[(w,es.getD w z02)]:=by
 unfold z5J
 have e:(List.range es.length).filter (fun j=>zfO (es.getD j z02))=(List.range es.length).filter (fun j=>j==w):=by
  refine List.filter_congr (fun j hj => ?_)
  by_cases hjw:j=w
  ·subst hjw
   rw[h1]
   simp
  ·rw[show(j==w)=false by simp[hjw]]
   exact z5t (h j (List.mem_range.1 hj) hjw)
 rw[e,z8b hw]
 rfl
def z4D(kns:List Bool)(fs:List (Hd × List Nat))(o:List Nat)(k j:Nat):Bool := !(j==o.getD k 0)&&(!decide ((frK fs o k).1.K=3)||kns.getD j false)
def ziE(fs:List (Hd × List Nat))(o:List Nat)(k:Nat):Ev:=⟨2,0,(frK fs o k).1,(frK fs o k).2⟩
def z4u(fs:List (Hd × List Nat))(o:List Nat)(k:Nat):Ev:=⟨1,0,(frK fs o k).1,(frK fs o k).2⟩
def z4C(kns:List Bool)(fs:List (Hd × List Nat))(o:List Nat)(k:Nat):List (Nat × Ev):=((List.range kns.length).filter (z4D kns fs o k)).map fun j=>(j,ziE fs o k)
theorem zdQ {fs:List (Hd × List Nat)} (hl:es.length=kns.length) (h1:∀j,j < kns.length->z4D kns fs o k j=true->es.getD j z02=ziE fs o k)
    (h2:∀j,j < kns.length->z4D kns fs o k j=false->(es.getD j z02).k=0\/(es.getD j z02).k=3):z5J es=z4C kns fs o k:=by
 unfold z5J z4C
 rw[hl]
 have e:(List.range kns.length).filter (fun j=>zfO (es.getD j z02))=(List.range kns.length).filter (z4D kns fs o k):=by
  refine List.filter_congr (fun j hj => ?_)
  have hj:=List.mem_range.1 hj
  cases hb:z4D kns fs o k j with
  | true=>rw[h1 j hj hb];rfl
  | false=>exact z5t (h2 j hj hb)
 rw[e]
 refine List.map_congr_left (fun j hj => ?_)
 obtain⟨a,b⟩:=List.mem_filter.1 hj
 rw[h1 j (List.mem_range.1 a) b]
def z0Z(fs:List (Hd × List Nat))(o:List Nat):Nat->Nat
 | 0=>11
 | k+1=>z0Z fs o k+(frL fs o k+13)
def zcG(fs:List (Hd × List Nat))(o:List Nat):Nat->List Nat
 | 0=>ones 11
 | k+1=>zcG fs o k++(onW (frK fs o k).1 (frK fs o k).2++ones 3)
def z3N(kns:List Bool)(fs:List (Hd × List Nat))(o:List Nat):Nat->List (Nat × Ev)
 | 0=>[]
 | k+1=>z3N kns fs o k++(z4C kns fs o k++[(o.getD k 0,z4u fs o k)])
structure zdY(kns:List Bool)(fs:List (Hd × List Nat))(t:Nat)(ss:List Nd):Prop where
 len:ss.length=kns.length
 st:∀j (h:j < ss.length),ss[j].ph=0/\ss[j].c=t/\ss[j].fa=Fa.zero/\ss[j].kn=kns.getD j false
 yes:∀j (h:j < ss.length),j < fs.length->ss[j].has=true/\ss[j].f=(fsD fs j).1/\ss[j].l=(fsD fs j).2
 no:∀j (h:j < ss.length),fs.length<=j->ss[j].has=false
inductive At (kns:List Bool) (fs:List (Hd × List Nat)) (o:List Nat) (t:Nat) (ns:List Nd) (line:List Nat) (out:List (Nat × Ev)):Prop where
 | join (h:t < 11) (J:zdY kns fs t ns) (hl:line=ones t) (ho:out=[])
 | race (k i:Nat) (ss:List Nd) (hk:k < fs.length) (hi:i < frL fs o k+13) (ht:t=z0Z fs o k+i) (I:z24 kns fs (o.take k) ss) (F:zfR (frK fs o k).1 (frK fs o k).2 (o.getD k 0) ss ns i)
     (hl:line=zcG fs o k++(onW (frK fs o k).1 (frK fs o k).2++ones 3).take i)
     (ho:out=z3N kns fs o k++((if frL fs o k+9<=i then z4C kns fs o k else [])++(if frL fs o k+10<=i then [(o.getD k 0,z4u fs o k)]else [])))
 | rest (ht:z0Z fs o fs.length<=t) (I:z24 kns fs o ns) (hl:line=zcG fs o fs.length++ones (t - z0Z fs o fs.length)) (ho:out=z3N kns fs o fs.length)
theorem ziZ(f:Hd)(l:List Nat)(hi:i < (zn f l).length+13):(onW f l++ones 3).take (i+1)=(onW f l++ones 3).take i++[prW f l i]:=by
 rw[List.take_add_one]
 congr 1
 have hlen:i < (onW f l++ones 3).length:=by rw[List.length_append,z31];simp[ones];omega
 rw[List.getElem?_eq_getElem hlen]
 simp only[Option.toList_some]
 congr 1
 unfold prW
 by_cases h1:i < (zn f l).length+10
 ·rw[if_pos h1,List.getElem_append_left (by rw[z31];exact h1)]
  simp[List.getD,show i < (onW f l).length by rw[z31];exact h1]
 ·rw[if_neg h1,List.getElem_append_right (by rw[z31];omega)]
  exact List.getElem_replicate _
theorem zdi(f:Hd)(l:List Nat):(onW f l++ones 3).take ((zn f l).length+13)=onW f l++ones 3:=List.take_of_length_le (by rw[List.length_append,z31];simp[ones])
theorem zfj{fs:List (Hd × List Nat)}(C:z6e kns fs o)(hk:k<=fs.length)(I:z24 kns fs (o.take k) ss):At kns fs o (z0Z fs o k) ss (zcG fs o k) (z3N kns fs o k):=by
 by_cases h:k < fs.length
 ·exact .race k 0 ss h (by omega) rfl I (zeX C h I) (by rw[List.take_zero,List.append_nil]) (by rw[if_neg (by omega),if_neg (by omega)];simp)
 ·have e:k=fs.length:=by omega
  subst e
  rw[List.take_of_length_le (by rw[C.ol];omega)]at I
  exact .rest (Nat.le_refl _) I (by rw[Nat.sub_self];simp[ones]) rfl
theorem z8l(n:Nat):ones n++[1]=ones (n+1):=by simp[ones,List.replicate_succ']
theorem z5r(ns:List Nd)(b:Nat)(h:j < ns.length):(ns.map fun n=>(n.step b).2).getD j z02=(ns[j].step b).2:=by simp[List.getD,h]
theorem zis {fs:List (Hd × List Nat)} (C:z6e kns fs o) {t:Nat} {line:List Nat} {out:List (Nat × Ev)} (A:At kns fs o t ns line out) :
    z3e ns<=1/\At kns fs o (t+1) (ns.map fun n=>(n.step (z3e ns)).1) (line++[z3e ns]) (out++z5J (ns.map fun n=>(n.step (z3e ns)).2)):=by
 have hol:=C.ol
 rcases A with ⟨h,J,rfl,rfl⟩ | ⟨k,i,ss,hk,hi,rfl,I,F,rfl,rfl⟩ | ⟨ht,I,rfl,rfl⟩
 ·have hs:∀j (h1:j < ns.length),ns[j].out=1/\ns[j].step 1=(if ns[j].c+1=11 then ns[j].to 1 else { ns[j]with c:=ns[j].c+1 },z02):=fun j h1=>zbo _ (J.st j h1).1
  have hb:z3e ns=1:=by
   refine z76 (fun x hx => ?_) (.inl rfl)
   obtain⟨n,hn,rfl⟩:=List.mem_map.1 hx
   obtain⟨j,hj,rfl⟩:=List.getElem_of_mem hn
   rw[(hs j hj).1]
   exact⟨Nat.le_refl _,Nat.le_refl _⟩
  rw[hb]
  refine⟨Nat.le_refl _,?_⟩
  have ht:z5J (ns.map fun n=>(n.step 1).2)=[]:=z5P (fun j hj=>by
   rw[List.length_map]at hj
   rw[z5r ns 1 hj,(hs j hj).2]
   exact .inl rfl)
  rw[ht,List.append_nil,z8l]
  have hst:=fun j (h1:j < ns.length)=>J.st j h1
  by_cases h11:t+1=11
  ·have I:z24 kns fs (o.take 0) (ns.map fun n=>(n.step 1).1):=by
    refine⟨by rw[List.length_map];exact J.len,fun j h1 => ?_,fun j h1 h2 _ => ?_,fun j h1 h2 => ?_⟩
    all_goals rw[List.length_map]at h1
    all_goals rw[List.getElem_map,(hs j h1).2,if_pos (by rw[(hst j h1).2.1];exact h11)]
    ·exact⟨rfl,rfl,(hst j h1).2.2.1,(hst j h1).2.2.2⟩
    ·exact J.yes j h1 h2
    ·refine J.no j h1 (h2.resolve_right ?_)
     simp
   have:=zfj C (Nat.zero_le _) I
   rw[h11]
   exact this
  ·refine .join (by omega) ⟨by rw[List.length_map];exact J.len,fun j h1 => ?_,fun j h1 h2 => ?_,fun j h1 h2 => ?_⟩ rfl rfl
   all_goals rw[List.length_map]at h1
   all_goals rw[List.getElem_map,(hs j h1).2,if_neg (by rw[(hst j h1).2.1];exact h11)]
   ·exact⟨(hst j h1).1,by show ns[j].c+1=_;rw[(hst j h1).2.1],(hst j h1).2.2.1,(hst j h1).2.2.2⟩
   ·exact J.yes j h1 h2
   ·exact J.no j h1 h2
 ·have R:=z8D C hk I
  have hi':i < (zn (frK fs o k).1 (frK fs o k).2).length+13:=hi
  have hb:=zhl R F hi'
  have hn:=zeL R F hi'
  have hle:=zdV R.fr i hi'
  have hlen:=F.1
  have hkn:=I.len
  have hw:=C.olt k hk
  have hcl:=C.le
  rw[hb]
  refine⟨hle,?_⟩
  have hev:=fun j (h1:j < ns.length)=>ziD R F hi' j (by omega) h1
  -- what is told
  have htold:z5J (ns.map fun n=>(n.step (prW (frK fs o k).1 (frK fs o k).2 i)).2)=if i+1=frL fs o k+9 then z4C kns fs o k else if i+1=frL fs o k+10 then [(o.getD k 0,z4u fs o k)]else []:=by
   by_cases h9:i+1=frL fs o k+9
   ·rw[if_pos h9]
    refine zdQ (by rw[List.length_map];omega) (fun j hj hg => ?_) (fun j hj hg => ?_)
    ·have hj':j < ns.length:=by omega
     rw[z5r ns _ hj']
     unfold z4D at hg
     rw[Bool.and_eq_true]at hg
     have hjw:j≠o.getD k 0:=by simpa using hg.1
     refine(hev j hj').2.1 hjw h9 (fun h3 => ?_)
     rw[(I.st j (by omega)).2.2.2]
     have:=hg.2
     rw[h3]at this
     simpa using this
    ·have hj':j < ns.length:=by omega
     rw[z5r ns _ hj']
     by_cases hjw:j=o.getD k 0
     ·rw[(hev j hj').1 hjw,if_neg (by unfold frL at h9;omega)]
      exact .inl rfl
     ·refine(hev j hj').2.2 hjw (fun hh => ?_)
      have q:=hh.2
      unfold z3h at q
      rw[(I.st j (by omega)).2.2.2]at q
      unfold z4D at hg
      rw[beq_eq_false_iff_ne.2 hjw]at hg
      by_cases h3:(frK fs o k).1.K=3
      ·rw[q h3]at hg
       simp at hg
      ·simp[h3]at hg
   rw[if_neg h9]
   by_cases h10:i+1=frL fs o k+10
   ·rw[if_pos h10]
    have hwn:o.getD k 0 < ns.length:=by omega
    have e1:(ns.map fun n=>(n.step (prW (frK fs o k).1 (frK fs o k).2 i)).2).getD (o.getD k 0) z02=z4u fs o k:=by
     rw[z5r ns _ hwn,(hev _ hwn).1 rfl]
     exact if_pos h10
    rw[<- e1]
    refine zgY (by rw[List.length_map];exact hwn) (by rw[e1];rfl) (fun j hj hjw => ?_)
    rw[List.length_map]at hj
    rw[z5r ns _ hj]
    exact(hev j hj).2.2 hjw (fun hh=>h9 hh.1)
   ·rw[if_neg h10]
    refine z5P (fun j hj => ?_)
    rw[List.length_map]at hj
    rw[z5r ns _ hj]
    by_cases hjw:j=o.getD k 0
    ·rw[(hev j hj).1 hjw,if_neg (show ¬i+1=(zn (frK fs o k).1 (frK fs o k).2).length+10 from h10)]
     exact .inl rfl
    ·exact(hev j hj).2.2 hjw (fun hh=>h9 hh.1)
  rw[htold,List.append_assoc,<- ziZ _ _ hi']
  have hout:z3N kns fs o k++((if frL fs o k+9<=i then z4C kns fs o k else [])++(if frL fs o k+10<=i then [(o.getD k 0,z4u fs o k)]else []))++(if i+1=frL fs o k+9 then z4C kns fs o k else if i+1=frL fs o k+10 then [(o.getD k 0,z4u fs o k)]else []) =
      z3N kns fs o k++((if frL fs o k+9<=i+1 then z4C kns fs o k else [])++(if frL fs o k+10<=i+1 then [(o.getD k 0,z4u fs o k)]else [])):=by
   rcases(by omega:i+1 < frL fs o k+9\/i+1=frL fs o k+9\/i+1=frL fs o k+10\/frL fs o k+10<=i)with e | e | e | e
   ·rw[if_neg (by omega),if_neg (by omega),if_neg (by omega),if_neg (by omega),if_neg (by omega),if_neg (by omega)]
    simp
   ·rw[if_neg (by omega),if_neg (by omega),if_pos e,if_pos (by omega),if_neg (by omega)]
    simp
   ·rw[if_pos (by omega),if_neg (by omega),if_neg (by omega),if_pos e,if_pos (by omega),if_pos (by omega)]
    simp
   ·rw[if_pos (by omega),if_pos (by omega),if_neg (by omega),if_neg (by omega),if_pos (by omega),if_pos (by omega)]
    simp
  rw[hout]
  by_cases hend:i+1 < frL fs o k+13
  ·exact .race k (i+1) ss hk hend (by omega) I hn rfl rfl
  ·have e:i+1=frL fs o k+13:=by omega
   rw[e]at hn
   have I':=ze6 C hk I hn
   have:=zfj C (k:=k+1) (by omega) I'
   rw[if_pos (by omega),if_pos (by omega)]
   rw[show i+1=(zn (frK fs o k).1 (frK fs o k).2).length+13 from e,zdi,show z0Z fs o k+i+1=z0Z fs o (k+1) by show _=z0Z fs o k+(frL fs o k+13);omega]
   exact this
 ·have hs:∀j (h1:j < ns.length),ns[j].out=1/\ns[j].step 1=({ ns[j]with snd:=false },z02):=fun j h1=>zbe _ (I.st j h1).1 (I.no j h1 (by
   by_cases hj:j < fs.length
   ·exact .inr (C.all j hj)
   ·exact .inl (by omega)))
  have hb:z3e ns=1:=by
   refine z76 (fun x hx => ?_) (.inl rfl)
   obtain⟨n,hn,rfl⟩:=List.mem_map.1 hx
   obtain⟨j,hj,rfl⟩:=List.getElem_of_mem hn
   rw[(hs j hj).1]
   exact⟨Nat.le_refl _,Nat.le_refl _⟩
  rw[hb]
  refine⟨Nat.le_refl _,?_⟩
  have hto:z5J (ns.map fun n=>(n.step 1).2)=[]:=z5P (fun j hj=>by
   rw[List.length_map]at hj
   rw[z5r ns 1 hj,(hs j hj).2]
   exact .inl rfl)
  rw[hto,List.append_nil,List.append_assoc,z8l]
  refine .rest (by omega) ⟨by rw[List.length_map];exact I.len,fun j h1 => ?_,fun j h1 h2 h3 => ?_,fun j h1 h2 => ?_⟩ (by rw[show t+1 - z0Z fs o fs.length=t - z0Z fs o fs.length+1 by omega]) rfl
  all_goals rw[List.length_map]at h1
  all_goals rw[List.getElem_map,(hs j h1).2]
  ·exact I.st j h1
  ·exact I.yes j h1 h2 h3
  ·exact I.no j h1 h2
theorem zga{l:List Bool}(h:1<=(l.filter id).length):∃j,j < l.length/\l.getD j false=true:=by
 induction l with
 | nil=>simp at h
 | cons b t ih =>
   cases b with
   | true=>exact⟨0,by simp,rfl⟩
   | false =>
     obtain⟨j,h1,h2⟩:=ih h
     exact⟨j+1,by simpa using h1,by simpa using h2⟩
theorem zhN{l:List Bool}(h:2<=(l.filter id).length)(w:Nat):∃j,j < l.length/\j≠w/\l.getD j false=true:=by
 induction l generalizing w with
 | nil=>simp at h
 | cons b t ih =>
   cases b with
   | true =>
     by_cases hw:w=0
     ·obtain⟨j,h1,h2⟩:=zga (l:=t) (by simp only[List.filter_cons,id_eq,if_true,List.length_cons]at h;omega)
      exact⟨j+1,by simpa using h1,by omega,by simpa using h2⟩
     ·exact⟨0,by simp,fun e=>hw e.symm,rfl⟩
   | false =>
     obtain⟨j,h1,h2,h3⟩:=ih h (if w=0 then t.length else w - 1)
     refine⟨j+1,by simpa using h1,fun e=>h2 ?_,by simpa using h3⟩
     rw[if_neg (by omega)]
     omega
def z0E(fs:List (Hd × List Nat)):List Nat:=fs.map fun p=>z0X p.1
theorem z9f(fs:List (Hd × List Nat))(h:j < fs.length):(z0E fs).getD j 0=z0X (fsD fs j).1:=by simp[z0E,fsD,List.getD,h]
theorem ziG {fs:List (Hd × List Nat)} (hle:fs.length<=kns.length) (h2:2<=kns.length) (hfr:∀j,j < fs.length->Fr (fsD fs j).1 (fsD fs j).2)
    (hap:∀a b,a < b->b < fs.length->z0X (fsD fs a).1≠z0X (fsD fs b).1) (hx:∀j,j < fs.length->(fsD fs j).1.K=3->2<=(kns.filter id).length):z6e kns fs (rk (z0E fs)):=by
 have hkl:(z0E fs).length=fs.length:=by simp[z0E]
 have hol:(rk (z0E fs)).length=fs.length:=by rw[zeZ,hkl]
 have hlt:∀k,k < fs.length->(rk (z0E fs)).getD k 0 < fs.length:=fun k hk=>by
  rw[z2U (by omega)]
  have:=zlH (z0E fs) _ (List.getElem_mem (show k < (rk (z0E fs)).length by omega))
  omega
 refine⟨hle,hfr,hol,hlt,fun j hj => ?_,zbj _,fun a b hab hb => ?_,fun k hk => ?_⟩
 ·exact(z70 (z0E fs)).mem_iff.2 (List.mem_range.2 (by omega))
 ·have hs:=List.pairwise_iff_getElem.1 (zdM (z0E fs)) a b (by omega) (by omega) hab
  have ha1:=hlt a (by omega)
  have hb1:=hlt b hb
  have hne:(rk (z0E fs)).getD a 0≠(rk (z0E fs)).getD b 0:=fun e=>by
   rw[z2U (by omega),z2U (by omega)]at e
   have:=(List.getElem_inj (zbj (z0E fs))).1 e
   omega
  rw[<- z2U (show a < (rk (z0E fs)).length by omega),<- z2U (show b < (rk (z0E fs)).length by omega),z9f fs ha1,z9f fs hb1]at hs
  unfold leP at hs
  simp only at hs
  unfold frK
  rcases(by omega:(rk (z0E fs)).getD a 0 < (rk (z0E fs)).getD b 0\/(rk (z0E fs)).getD b 0 < (rk (z0E fs)).getD a 0)with h | h
  ·have:=hap _ _ h hb1
   omega
  ·have:=hap _ _ h ha1
   omega
 ·by_cases h3:(frK fs (rk (z0E fs)) k).1.K=3
  ·obtain⟨j,j1,j2,j3⟩:=zhN (hx _ (hlt k hk) h3) ((rk (z0E fs)).getD k 0)
   exact⟨j,j1,j2,fun _=>j3⟩
  ·exact⟨if(rk (z0E fs)).getD k 0=0 then 1 else 0,by split<;>omega,by split<;>omega,fun e=>absurd e h3⟩
end Go.Proofs.YtplbmlpdefpplaaGreatDoor
