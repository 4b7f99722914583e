
/- Nodes that nobody turns, none of them sending: what a bit does to each, by how long the last 0 is ago (layer 13). No program here. No conditions but few errors so far. -/
import Derived.Test.YtkjjfnmeogpdbaaGreatDoorHlA
import Derived.Test.YtkjjfnmeogpdbaaGreatDoorGv
namespace Go.Proofs.YtkjjfnmeogpdbaaGreatDoor
set_option linter.unusedVariables false
set_option linter.unusedSimpArgs false
open Go.RowKit
theorem fin_high{kn:Bool}(x:List Nat):∀s,scS kn x = .fin s->2<=s.k:=by
 refine zB (P:=fun x=>∀s,scS kn x = .fin s->2<=s.k) (fun s h=>by cases h) (fun x b ih s h => ?_) x
 rw[scS,z0h,<- scS]at h
 generalize scS kn x=p at *
 cases p with
 | fin u=>exact ih s h
 | dyn x =>
   have h:(if full x then _ else _)=_:=h
   split at h
   ·split at h
    ·have:=bad_k h;omega
    ·cases h
   ·rcases afterJ_fin h with e | e<;>omega
 | fx a y =>
   have h:(if _ then _ else _)=_:=h
   split at h
   ·split at h<;>cases h
   ·have:=bad_k h;omega
 | xs a y =>
   have h:(if _ then _ else _)=_:=h
   split at h
   ·split at h<;>cases h
   ·have:=bad_k h;omega
 | xd a y =>
   have h:(if _ then _ else _)=_:=h
   split at h
   ·split at h<;>cases h
   ·have:=bad_k h;omega
 | xe a y t =>
   have h:(if _ then _ else _)=_:=h
   split at h
   ·split at h<;>cases h
   ·have:=bad_k h;omega
 | tail ok f l t =>
   have h:(if _ then _ else _)=_:=h
   split at h
   ·have:=bad_k h;omega
   split at h
   ·have:=bad_k h;omega
   split at h
   ·cases h;exact Nat.le_refl _
   ·cases h
theorem live_of{kn:Bool}{x:List Nat}(h:(zW (scS kn x)).k < 2):liveP (scS kn x):=live_k h (fun s e=>fin_high x s e)
theorem end_of{kn:Bool}{x:List Nat}(h:2<=(zW (scS kn x)).k):∃s,scS kn x = .fin s/\zW (scS kn x)=s:=by
 cases hp:scS kn x with
 | fin s=>exact⟨s,rfl,rfl⟩
 | tail ok f l t =>
   rw[hp]at h
   unfold zW at h
   by_cases hc:t.length=1/\ok=true
   ·simp only[if_pos hc]at h;omega
   ·simp only[if_neg hc]at h;omega
 | dyn x=>rw[hp]at h;exact absurd h (by show ¬2<=0;omega)
 | fx a y=>rw[hp]at h;exact absurd h (by show ¬2<=0;omega)
 | xs a y=>rw[hp]at h;exact absurd h (by show ¬2<=0;omega)
 | xd a y=>rw[hp]at h;exact absurd h (by show ¬2<=0;omega)
 | xe a y t=>rw[hp]at h;exact absurd h (by show ¬2<=0;omega)
structure Few(t:Nat)(n:Nd):Prop where
 o:n.fa.O=false
 tt:0<=n.fa.T/\n.fa.T<=8
 rr:0<=n.fa.R
 r5:n.ph=5->7*n.fa.R+(n.c:Int)<=(t:Int)+6/\n.pas=false
 r:n.ph≠5->7*n.fa.R<=(t:Int)
structure Sit(t:Nat)(n:Nd):Prop where
 ok:n.Ok
 kn:n.kn=true
 few:Few t n
theorem few_to{t:Nat}{n m:Nd}(F:Few t n)(hf:m.fa=n.fa)(hn:n.ph≠5\/n.c=5)(hm:m.ph≠5):Few (t+1) m:=by
 obtain⟨f1,f2,f3,f4,f5⟩:=F
 refine⟨by rw[hf];exact f1,by rw[hf];exact f2,by rw[hf];exact f3,fun e=>absurd e hm,fun _ => ?_⟩
 rw[hf]
 rcases hn with hn | hn
 ·have:=f5 hn;omega
 ·by_cases h5:n.ph=5
  ·have:=(f4 h5).1;omega
  ·have:=f5 h5;omega
theorem few_act{t:Nat}{n:Nd}(F:Few t n)(ht:t<=800):z2L n.fa=0/\n.fa.R<=120:=by
 obtain⟨f1,f2,f3,f4,f5⟩:=F
 have:n.fa.R<=120:=by
  by_cases h5:n.ph=5
  ·have:=(f4 h5).1;omega
  ·have:=f5 h5;omega
 refine⟨?_,this⟩
 unfold z2L
 rw[f1,if_neg (by simp),if_neg (by omega)]
theorem heard_few {t:Nat} {n:Nd} (kn:n.kn=true) (hp:n.ph=3) (hO:n.fa.O=false) (hT:0<=n.fa.T/\n.fa.T<=8) (hR:0<=n.fa.R/\7*n.fa.R<=(t:Int)) (ht:t<=800) (kind:Nat) :
    (n.heard kind).1.kn=true/\(n.heard kind).1.x=n.x/\Few (t+1) (n.heard kind).1 /\
    ((n.heard kind).1=n/\(zW (scS true n.x)).k < 2\/(n.heard kind).1.ph=4/\(zW (scS true n.x)).k=2\/(n.heard kind).1.ph=5/\(n.heard kind).1.c=0/\(zW (scS true n.x)).k=3):=by
 have hs:n.sta=zW (scS true n.x):=by unfold Nd.sta;rw[kn]
 have h4:=(zfU n.x).2.1
 have hk:=z4Z true n.x
 unfold Nd.heard
 rw[hs]
 by_cases k2:(zW (scS true n.x)).k=2
 ·rw[if_pos k2]
  have e:z14 n.fa 2=⟨n.fa.T,if 127 < n.fa.R then 120 else max 0 (n.fa.R - 1),false⟩:=by
   unfold z14
   rw[hO]
   rfl
  refine⟨kn,rfl,⟨?_,?_,?_,fun q=>(by cases q),fun _ => ?_⟩,.inr (.inl ⟨rfl,k2⟩)⟩
  all_goals show _
  ·show(z14 n.fa 2).O=false
   rw[e]
  ·show 0<=(z14 n.fa 2).T/\(z14 n.fa 2).T<=8
   rw[e]
   exact hT
  ·show 0<=(z14 n.fa 2).R
   rw[e]
   show 0<=(if 127 < n.fa.R then 120 else max 0 (n.fa.R - 1):Int)
   split<;>omega
  ·show 7*(z14 n.fa 2).R<=_
   rw[e]
   show 7*(if 127 < n.fa.R then 120 else max 0 (n.fa.R - 1):Int)<=((t+1:Nat):Int)
   split<;>omega
 rw[if_neg k2]
 by_cases k3:(zW (scS true n.x)).k=3
 ·rw[if_pos k3]
  have e:z14 n.fa 4=⟨n.fa.T,min 255 (n.fa.R+1),false⟩:=by
   unfold z14
   rw[hO]
   rfl
  unfold Nd.wrong
  rw[e]
  have ha:z2L ⟨n.fa.T,min 255 (n.fa.R+1),false⟩=0:=by
   unfold z2L
   rw[if_neg (by simp),if_neg (by simp only;omega)]
  refine⟨kn,rfl,⟨rfl,hT,?_,fun _=>⟨?_,?_⟩,fun q=>absurd rfl q⟩,.inr (.inr ⟨rfl,rfl,k3⟩)⟩
  ·show 0<=min 255 (n.fa.R+1)
   omega
  ·show 7*(min 255 (n.fa.R+1))+((0:Nat):Int)<=_
   omega
  ·show(z2L _==1)=false
   rw[ha]
   rfl
 rw[if_neg k3,if_neg h4]
 refine⟨kn,rfl,⟨hO,hT,hR.1,fun q => ?_,fun _=>by show 7*n.fa.R<=_;omega⟩,.inl ⟨rfl,by omega⟩⟩
 have q:n.ph=5:=q
 omega
inductive Q (z m:Nat) (n:Nd):Nat->Prop
 | idle (h:n.ph=1) (hz:11<=z):Q z m n 0
 | recv (h:n.ph=3) (hz:zOk (scS true n.x) z):Q z m n (vP (scS true n.x))
 | fresh (h:n.ph=3) (h0:0 < m) (hx:n.x=List.replicate m 0):Q z m n 0
 | last (h:n.ph=4) (hz:z=7):Q z m n 0
 | flag (h:n.ph=5) (hz:n.c=0/\z<=10\/z=0):Q z m n 0
 | over (h:n.ph=6) (hz:z=0):Q z m n 0
 | delim (h:n.ph=7) (hz:n.c=z) (h8:z < 8):Q z m n 0
 | pause (h:n.ph=8) (hz:n.c+8=z) (h11:z < 11):Q z m n 0
def nxM(z m:Nat):Nat:=if m=0 then(if z=10 then 1 else 0)else if m < 5 then m+1 else 0
theorem st3{n:Nd}(h:n.ph=3)(b:Nat):n.step b=Nd.heard { n with x:=n.x++[b] } 0/\n.out=if n.sta.k=1 then 0 else 1:=by
 constructor
 ·unfold Nd.step
  rw[if_neg (by omega),if_neg (by omega),if_neg (by omega),if_pos h]
 ·unfold Nd.out
  rw[if_neg (by omega),if_neg (by omega),if_pos h]
theorem st4{n:Nd}(h:n.ph=4)(b:Nat):n.step b=(n.to (if b=0 then 6 else 8),z02)/\n.out=1:=by
 constructor
 ·unfold Nd.step
  rw[if_neg (by omega),if_neg (by omega),if_neg (by omega),if_neg (by omega),if_pos h]
 ·unfold Nd.out
  rw[if_neg (by omega),if_neg (by omega),if_neg (by omega),if_neg (by omega),if_neg (by omega)]
theorem st56{n:Nd}(h:n.ph=5\/n.ph=6)(b:Nat):n.step b=(if n.c+1=6 then n.to 7 else { n with c:=n.c+1 },z02):=by
 unfold Nd.step
 rw[if_neg (by omega),if_neg (by omega),if_neg (by omega),if_neg (by omega),if_neg (by omega),if_pos h]
theorem ou5{n:Nd}(h:n.ph=5)(hp:n.pas=false):n.out=0:=by
 unfold Nd.out
 rw[if_neg (by omega),if_neg (by omega),if_neg (by omega),if_pos h,hp]
 rfl
theorem ou6{n:Nd}(h:n.ph=6):n.out=0:=by
 unfold Nd.out
 rw[if_neg (by omega),if_neg (by omega),if_neg (by omega),if_neg (by omega),if_pos h]
theorem st7{n:Nd}(h:n.ph=7)(b:Nat):n.step b=(n.cnt b 8 8,z02)/\n.out=1:=by
 constructor
 ·unfold Nd.step
  rw[if_neg (by omega),if_neg (by omega),if_neg (by omega),if_neg (by omega),if_neg (by omega),if_neg (by omega),if_pos h]
 ·unfold Nd.out
  rw[if_neg (by omega),if_neg (by omega),if_neg (by omega),if_neg (by omega),if_neg (by omega)]
theorem st8{n:Nd}(h:n.ph=8)(b:Nat):n.step b=(n.pause b,z02)/\n.out=1:=by
 constructor
 ·unfold Nd.step
  rw[if_neg (by omega),if_neg (by omega),if_neg (by omega),if_neg (by omega),if_neg (by omega),if_neg (by omega),if_neg (by omega),if_pos h]
 ·unfold Nd.out
  rw[if_neg (by omega),if_neg (by omega),if_neg (by omega),if_neg (by omega),if_neg (by omega)]
theorem st1{n:Nd}(h:n.ph=1)(hh:n.has=false)(b:Nat):n.step b=(if b=0 then Nd.begin { n with snd:=false } else { n with snd:=false },z02)/\n.out=1:=by
 constructor
 ·unfold Nd.step
  rw[if_neg (by omega),if_pos h,hh]
  rfl
 ·unfold Nd.out
  rw[if_pos h,hh]
  rfl
theorem row_next(x:List Nat)(b:Nat):scS true (x++[b])=z09 true (scS true x) b:=by rw[scS,z0h,<- scS]
theorem few_same{t:Nat}{n m:Nd}(F:Few t n)(hf:m.fa=n.fa)(hp:n.ph≠5)(hm:m.ph≠5):Few (t+1) m:=few_to F hf (.inl hp) hm
theorem q_one {t z v:Nat} {n:Nd} (hq:Q z 0 n v) (S:Sit t n) (ht:t<=800) (hz:z < 11) (ho:n.out=1) :
    ∃v',Q (z+1) 0 (n.step 1).1 v'/\v'<=v/\((n.step 1).1.ph=5->v' < v)/\(n.step 1).1.ph≠6/\Few (t+1) (n.step 1).1:=by
 obtain⟨ok,kn,F⟩:=S
 have hcn:=ok.cn
 cases hq with
 | idle h h11=>omega
 | fresh h h0 hx=>omega
 | recv h hzk =>
   obtain⟨e1,e2⟩:=st3 h 1
   have hlive:liveP (scS true n.x):=live_of (by have:=(ok.p3 h).2.2;rwa[kn]at this)
   have hk:(zW (scS true n.x)).k≠1:=fun e=>by
    rw[e2,Nd.sta,kn,if_pos e]at ho
    omega
   obtain⟨z1,z2⟩:=z_one (kn:=true) hzk hlive hk
   rw[<- row_next]at z1 z2
   have hv:=vP_live hlive
   have hle:=(vP_step (kn:=true) (scS true n.x) 1).1
   rw[<- row_next]at hle
   rw[e1]
   obtain⟨_,g2,g3,g4⟩:=heard_few (t:=t) (n:={ n with x:=n.x++[1] }) kn h F.o F.tt ⟨F.rr,F.r (by omega)⟩ ht 0
   rcases g4 with ⟨a1,a2⟩ | ⟨a1,a2⟩ | ⟨a1,a2,a3⟩
   ·refine⟨_,.recv (by rw[a1];exact h) (by rw[a1];exact z1),by rw[a1];exact hle,fun q => ?_,?_,g3⟩
    ·rw[a1]at q;exact absurd (show n.ph=5 from q) (by omega)
    ·rw[a1];show n.ph≠6;omega
   ·obtain⟨s,s1,s2⟩:=end_of (kn:=true) (x:=n.x++[1]) (by rw[a2];omega)
    have:=z2 s s1 (by rw[<- s2];exact a2)
    exact⟨0,.last a1 (by omega),by omega,fun q=>(by omega),by omega,g3⟩
   ·have:=(zOk_le hzk hlive).1
    exact⟨0,.flag a1 (.inl ⟨a2,by omega⟩),by omega,fun _=>(by omega),by omega,g3⟩
 | last h h7 =>
   rw[(st4 h 1).1]
   have:=hcn (by omega)
   exact⟨0,.pause rfl (by show 0+8=z+1;omega) (by omega),Nat.le_refl _,fun q=>(by cases q),(by show(8:Nat)≠6;omega),few_same F rfl (by omega) (by show(8:Nat)≠5;omega)⟩
 | flag h _=>rw[ou5 h (F.r5 h).2]at ho;omega
 | over h _=>rw[ou6 h]at ho;omega
 | delim h hc h8 =>
   rw[(st7 h 1).1]
   show ∃v',Q (z+1) 0 (n.cnt 1 8 8) v'/\_<=_/\((n.cnt 1 8 8).ph=5->_)/\(n.cnt 1 8 8).ph≠6/\Few (t+1) (n.cnt 1 8 8)
   unfold Nd.cnt
   rw[if_neg (by omega)]
   by_cases h7:n.c+1=8
   ·rw[if_pos h7]
    exact⟨0,.pause rfl (by show 0+8=z+1;omega) (by omega),Nat.le_refl _,fun q=>(by cases q),(by show(8:Nat)≠6;omega),few_same F rfl (by omega) (by show(8:Nat)≠5;omega)⟩
   ·rw[if_neg h7]
    exact⟨0,.delim h (by show n.c+1=z+1;omega) (by omega),Nat.le_refl _,fun q=>(by have q:n.ph=5:=q;omega),(by show n.ph≠6;omega),few_same F rfl (by omega) (by show n.ph≠5;omega)⟩
 | pause h hc h11 =>
   rw[(st8 h 1).1]
   show ∃v',Q (z+1) 0 (n.pause 1) v'/\_<=_/\((n.pause 1).ph=5->_)/\(n.pause 1).ph≠6/\Few (t+1) (n.pause 1)
   unfold Nd.pause
   rw[if_neg (by omega)]
   by_cases h3:n.c+1=3
   ·rw[if_pos h3,if_neg (by rw[(few_act F ht).1];omega)]
    exact⟨0,.idle rfl (by omega),Nat.le_refl _,fun q=>(by cases q),(by show(1:Nat)≠6;omega),few_same F rfl (by omega) (by show(1:Nat)≠5;omega)⟩
   ·rw[if_neg h3]
    exact⟨0,.pause h (by show n.c+1+8=z+1;omega) (by omega),Nat.le_refl _,fun q=>(by have q:n.ph=5:=q;omega),(by show n.ph≠6;omega),few_same F rfl (by omega) (by show n.ph≠5;omega)⟩
theorem q_zero {t z m v:Nat} {n:Nd} (hq:Q z m n v) (S:Sit t n) (ht:t<=800) (hz:z < 11) (hm:0 < m->z=0/\m<=5) :
    ∃v',Q 0 (nxM z m) (n.step 0).1 v'/\v'<=v/\((n.step 0).1.ph=5->v' < v\/(n.ph=5/\(n.step 0).1.c=n.c+1)\/m=5)/\((n.step 0).1.ph=6->(n.ph=6/\(n.step 0).1.c=n.c+1)\/7<=z) /\
     (n.out=0->n.ph=5\/n.ph=6\/(v' < v/\z<=6))/\(n.ph=5->n.c < 5->(n.step 0).1.ph=5/\(n.step 0).1.c=n.c+1)/\Few (t+1) (n.step 0).1:=by
 obtain⟨ok,kn,F⟩:=S
 have hcn:=ok.cn
 cases hq with
 | idle h h11=>omega
 | fresh h h0 hx =>
   obtain⟨e1,e2⟩:=st3 h 0
   obtain⟨hz0,hm5⟩:=hm h0
   have hout:n.out=1:=by
    rw[e2,Nd.sta,kn,hx,(zeros_six true).2 m h0 hm5]
    rfl
   have hxx:n.x++[0]=List.replicate (m+1) 0:=by rw[hx,<- List.replicate_succ']
   rw[e1]
   obtain⟨_,g2,g3,g4⟩:=heard_few (t:=t) (n:={ n with x:=n.x++[0] }) kn h F.o F.tt ⟨F.rr,F.r (by omega)⟩ ht 0
   have hp5:n.ph=5->n.c < 5->(Nd.heard { n with x:=n.x++[0] } 0).1.ph=5/\(Nd.heard { n with x:=n.x++[0] } 0).1.c=n.c+1:=fun q=>by omega
   have ho0:∀P:Prop,n.out=0->P:=fun P q=>by omega
   unfold nxM
   rw[if_neg (by omega)]
   by_cases h5:m < 5
   ·rw[if_pos h5]
    have hs:scS true (n.x++[0]) = .dyn (List.replicate (m+1) 0):=by rw[hxx];exact(zeros_six true).2 (m+1) (by omega) (by omega)
    rcases g4 with ⟨a1,a2⟩ | ⟨a1,a2⟩ | ⟨a1,a2,a3⟩
    ·refine⟨0,.fresh (by rw[a1];exact h) (by omega) (by rw[a1];exact hxx),Nat.le_refl _,fun q => ?_,fun q => ?_,ho0 _,hp5,g3⟩
     ·rw[a1]at q;exact absurd (show n.ph=5 from q) (by omega)
     ·rw[a1]at q;exact absurd (show n.ph=6 from q) (by omega)
    ·have a2:(zW (scS true (n.x++[0]))).k=2:=a2
     rw[hs]at a2
     cases a2
    ·have a3:(zW (scS true (n.x++[0]))).k=3:=a3
     rw[hs]at a3
     cases a3
   ·rw[if_neg h5]
    have hm6:m=5:=by omega
    subst hm6
    have hs:scS true (n.x++[0]) = .fin (z1j 4):=by rw[hxx];exact(zeros_six true).1
    rcases g4 with ⟨a1,a2⟩ | ⟨a1,a2⟩ | ⟨a1,a2,a3⟩
    ·have a2:(zW (scS true (n.x++[0]))).k < 2:=a2
     rw[hs]at a2
     exact absurd a2 (by decide)
    ·have a2:(zW (scS true (n.x++[0]))).k=2:=a2
     rw[hs]at a2
     exact absurd a2 (by decide)
    ·exact⟨0,.flag a1 (.inr rfl),Nat.le_refl _,fun _ => .inr (.inr rfl),fun q=>(by omega),ho0 _,hp5,g3⟩
 | recv h hzk =>
   obtain⟨e1,e2⟩:=st3 h 0
   have hlive:liveP (scS true n.x):=live_of (by have:=(ok.p3 h).2.2;rwa[kn]at this)
   obtain⟨z1,z2⟩:=z_zero (kn:=true) hlive
   rw[<- row_next]at z1 z2
   have hv:=vP_live hlive
   obtain⟨hle,hlt⟩:=vP_step (kn:=true) (scS true n.x) 0
   rw[<- row_next]at hle hlt
   have h6:=(zOk_le hzk hlive).2
   have hslot:n.out=0->(zW (scS true n.x)).k=1:=fun q=>by
    rw[e2,Nd.sta,kn]at q
    by_cases hk:(zW (scS true n.x)).k=1
    ·exact hk
    ·rw[if_neg hk]at q;omega
   rw[e1]
   obtain⟨_,g2,g3,g4⟩:=heard_few (t:=t) (n:={ n with x:=n.x++[0] }) kn h F.o F.tt ⟨F.rr,F.r (by omega)⟩ ht 0
   rcases g4 with ⟨a1,a2⟩ | ⟨a1,a2⟩ | ⟨a1,a2,a3⟩
   ·refine⟨_,.recv (by rw[a1];exact h) (by rw[a1];exact z1),by rw[a1];exact hle,fun q => ?_,fun q => ?_,fun q => .inr (.inr ⟨by rw[a1];exact hlt (hslot q) hlive,h6 (hslot q)⟩),fun q=>(by omega),g3⟩
    ·rw[a1]at q;exact absurd (show n.ph=5 from q) (by omega)
    ·rw[a1]at q;exact absurd (show n.ph=6 from q) (by omega)
   ·obtain⟨s,s1,s2⟩:=end_of (kn:=true) (x:=n.x++[0]) (by rw[a2];omega)
    exact absurd (by rw[<- s2];exact a2) (z2 s s1)
   ·exact⟨0,.flag a1 (.inr rfl),by omega,fun _ => .inl (by omega),fun q=>(by omega),fun q => .inr (.inr ⟨by omega,h6 (hslot q)⟩),fun q=>(by omega),g3⟩
 | last h h7 =>
   obtain⟨e1,e2⟩:=st4 h 0
   rw[e1,e2]
   exact⟨0,.over rfl rfl,Nat.le_refl _,fun q=>(by cases q),fun _ => .inr (by omega),fun q=>(by omega),fun q=>(by omega),few_same F rfl (by omega) (by show(6:Nat)≠5;omega)⟩
 | flag h hzc =>
   rw[st56 (.inl h)]
   have hc:=hcn (by omega)
   rw[h]at hc
   unfold z0T at hc
   obtain⟨f1,f2,f3,f4,f5⟩:=F
   show ∃v',Q 0 _ (if n.c+1=6 then n.to 7 else { n with c:=n.c+1 }) v'/\_<=_/\((if n.c+1=6 then n.to 7 else { n with c:=n.c+1 }:Nd).ph=5->_\/(_/\(if n.c+1=6 then n.to 7 else { n with c:=n.c+1 }:Nd).c=_)\/_)/\((if n.c+1=6 then n.to 7 else { n with c:=n.c+1 }:Nd).ph=6->(_/\(if n.c+1=6 then n.to 7 else { n with c:=n.c+1 }:Nd).c=_)\/_)/\_/\(_->_->(if n.c+1=6 then n.to 7 else { n with c:=n.c+1 }:Nd).ph=5/\(if n.c+1=6 then n.to 7 else { n with c:=n.c+1 }:Nd).c=_)/\Few (t+1) (if n.c+1=6 then n.to 7 else { n with c:=n.c+1 })
   by_cases h6:n.c+1=6
   ·rw[if_pos h6]
    exact⟨0,.delim rfl rfl (by omega),Nat.le_refl _,fun q=>(by cases q),fun q=>(by cases q),fun _ => .inl h,fun _ q=>(by omega),few_to ⟨f1,f2,f3,f4,f5⟩ rfl (.inr (by omega)) (by show(7:Nat)≠5;omega)⟩
   ·rw[if_neg h6]
    refine⟨0,.flag h (.inr rfl),Nat.le_refl _,fun _ => .inr (.inl ⟨h,rfl⟩),fun q=>(by have q:n.ph=6:=q;omega),fun _ => .inl h,fun _ _=>⟨h,rfl⟩,⟨f1,f2,f3,fun _=>⟨?_,(f4 h).2⟩,fun q=>absurd h q⟩⟩
    have:=(f4 h).1
    show 7*n.fa.R+((n.c+1:Nat):Int)<=_
    omega
 | over h hz0 =>
   rw[st56 (.inr h)]
   have hc:=hcn (by omega)
   rw[h]at hc
   unfold z0T at hc
   show ∃v',Q 0 _ (if n.c+1=6 then n.to 7 else { n with c:=n.c+1 }) v'/\_<=_/\((if n.c+1=6 then n.to 7 else { n with c:=n.c+1 }:Nd).ph=5->_\/(_/\(if n.c+1=6 then n.to 7 else { n with c:=n.c+1 }:Nd).c=_)\/_)/\((if n.c+1=6 then n.to 7 else { n with c:=n.c+1 }:Nd).ph=6->(_/\(if n.c+1=6 then n.to 7 else { n with c:=n.c+1 }:Nd).c=_)\/_)/\_/\(_->_->(if n.c+1=6 then n.to 7 else { n with c:=n.c+1 }:Nd).ph=5/\(if n.c+1=6 then n.to 7 else { n with c:=n.c+1 }:Nd).c=_)/\Few (t+1) (if n.c+1=6 then n.to 7 else { n with c:=n.c+1 })
   by_cases h6:n.c+1=6
   ·rw[if_pos h6]
    exact⟨0,.delim rfl rfl (by omega),Nat.le_refl _,fun q=>(by cases q),fun q=>(by cases q),fun _ => .inr (.inl h),fun q=>(by omega),few_same F rfl (by omega) (by show(7:Nat)≠5;omega)⟩
   ·rw[if_neg h6]
    exact⟨0,.over h rfl,Nat.le_refl _,fun q=>(by have q:n.ph=5:=q;omega),fun _ => .inl ⟨h,rfl⟩,fun _ => .inr (.inl h),fun q=>(by omega),few_same F rfl (by omega) (by show n.ph≠5;omega)⟩
 | delim h hc h8 =>
   obtain⟨e1,e2⟩:=st7 h 0
   rw[e1,e2]
   exact⟨0,.delim h rfl (by omega),Nat.le_refl _,fun q=>(by have q:n.ph=5:=q;omega),fun q=>(by have q:n.ph=6:=q;omega),fun q=>(by omega),fun q=>(by omega),few_same F rfl (by omega) (by show n.ph≠5;omega)⟩
 | pause h hc h11 =>
   obtain⟨e1,e2⟩:=st8 h 0
   rw[e1,e2]
   have hm0:m=0:=by
    by_cases hm0:0 < m
    ·have:=(hm hm0).1;omega
    ·omega
   show ∃v',Q 0 _ (n.pause 0) v'/\_<=_/\((n.pause 0).ph=5->_\/(_/\(n.pause 0).c=_)\/_)/\((n.pause 0).ph=6->(_/\(n.pause 0).c=_)\/_)/\_/\(_->_->(n.pause 0).ph=5/\(n.pause 0).c=_)/\Few (t+1) (n.pause 0)
   unfold Nd.pause
   rw[if_pos rfl]
   by_cases h2:n.c=2
   ·rw[if_pos h2]
    have e:nxM z m=1:=by unfold nxM;rw[if_pos hm0,if_pos (by omega)]
    rw[e]
    exact⟨0,.fresh rfl (by omega) rfl,Nat.le_refl _,fun q=>(by cases q),fun q=>(by cases q),fun q=>(by omega),fun q=>(by omega),few_same F rfl (by omega) (by show(3:Nat)≠5;omega)⟩
   ·rw[if_neg h2]
    exact⟨0,.over rfl rfl,Nat.le_refl _,fun q=>(by cases q),fun _ => .inr (by omega),fun q=>(by omega),fun q=>(by omega),few_same F rfl (by omega) (by show(6:Nat)≠5;omega)⟩
end Go.Proofs.YtkjjfnmeogpdbaaGreatDoor
