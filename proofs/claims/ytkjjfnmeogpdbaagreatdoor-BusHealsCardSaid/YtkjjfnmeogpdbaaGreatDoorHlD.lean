
/- One of three nodes sends, the others hear: whatever was turned at one step, it comes across in the end (layer 13). No program here. No conditions but the fields' own widths. -/
import Derived.Test.YtkjjfnmeogpdbaaGreatDoorHlC
import Derived.Test.YtkjjfnmeogpdbaaGreatDoorGv
namespace Go.Proofs.YtkjjfnmeogpdbaaGreatDoor
set_option linter.unusedVariables false
set_option linter.unusedSimpArgs false
open Go.RowKit
def Rd(n:Nd):Prop:=(n.ph=1/\n.has=false)\/(3<=n.ph/\n.ph<=8)
theorem rd_step{t b:Nat}{n:Nd}(S:Sit t n)(hr:Rd n)(hh:n.has=false)(ht:t<=800)(hb:b<=1):Few (t+1) (n.step b).1/\Rd (n.step b).1/\(n.step b).1.has=false:=by
 obtain⟨ok,kn,F⟩:=S
 have hcn:=ok.cn
 have hno:(n.step b).1.has=false:=by
  cases h:(n.step b).1.has with
  | false=>rfl
  | true=>have:=(kf_step ok hb h).1;rw[hh]at this;cases this
 have nd:∀m:Nd,m.fa=n.fa->(n.ph≠5\/n.c=5)->m.ph≠5->Few (t+1) m:=fun m h1 h2 h3=>few_to F h1 h2 h3
 suffices h:Few (t+1) (n.step b).1/\((n.step b).1.ph=1\/(3<=(n.step b).1.ph/\(n.step b).1.ph<=8)) from⟨h.1,h.2.imp_left (fun q=>⟨q,hno⟩),hno⟩
 rcases hr with ⟨h1,_⟩ | ⟨h3,h8⟩
 ·rw[(st1 h1 hh b).1]
  by_cases hb0:b=0
  ·show Few _ (if b=0 then _ else _)/\((if b=0 then _ else _:Nd).ph=1\/_)
   rw[if_pos hb0]
   exact⟨nd _ rfl (.inl (by omega)) (by show(3:Nat)≠5;omega),.inr ⟨by show(3:Nat)<=3;omega,by show(3:Nat)<=8;omega⟩⟩
  ·show Few _ (if b=0 then _ else _)/\((if b=0 then _ else _:Nd).ph=1\/_)
   rw[if_neg hb0]
   exact⟨nd _ rfl (.inl (by omega)) (by show n.ph≠5;omega),.inl h1⟩
 rcases(by omega:n.ph=3\/n.ph=4\/n.ph=5\/n.ph=6\/n.ph=7\/n.ph=8)with h | h | h | h | h | h
 ·rw[(st3 h b).1]
  obtain⟨_,_,g3,g4⟩:=heard_few (t:=t) (n:={ n with x:=n.x++[b] }) kn h F.o F.tt ⟨F.rr,F.r (by omega)⟩ ht 0
  refine⟨g3,?_⟩
  rcases g4 with ⟨a,_⟩ | ⟨a,_⟩ | ⟨a,_⟩
  ·rw[a];exact .inr ⟨h3,h8⟩
  ·rw[a];omega
  ·rw[a];omega
 ·rw[(st4 h b).1]
  refine⟨nd _ rfl (.inl (by omega)) ?_,.inr ?_⟩
  ·show(if b=0 then 6 else 8:Nat)≠5
   split<;>omega
  ·show 3<=(if b=0 then 6 else 8:Nat)/\(if b=0 then 6 else 8:Nat)<=8
   split<;>omega
 ·rw[st56 (.inl h)]
  have hc:=hcn (by omega)
  rw[h]at hc
  unfold z0T at hc
  by_cases h6:n.c+1=6
  ·rw[if_pos h6]
   exact⟨nd _ rfl (.inr (by omega)) (by show(7:Nat)≠5;omega),.inr ⟨by show(3:Nat)<=7;omega,by show(7:Nat)<=8;omega⟩⟩
  ·rw[if_neg h6]
   obtain⟨f1,f2,f3,f4,f5⟩:=F
   refine⟨⟨f1,f2,f3,fun _=>⟨?_,(f4 h).2⟩,fun q=>absurd h q⟩,.inr ⟨h3,h8⟩⟩
   have:=(f4 h).1
   show 7*n.fa.R+((n.c+1:Nat):Int)<=_
   omega
 ·rw[st56 (.inr h)]
  by_cases h6:n.c+1=6
  ·rw[if_pos h6]
   exact⟨nd _ rfl (.inl (by omega)) (by show(7:Nat)≠5;omega),.inr ⟨by show(3:Nat)<=7;omega,by show(7:Nat)<=8;omega⟩⟩
  ·rw[if_neg h6]
   exact⟨nd _ rfl (.inl (by omega)) (by show n.ph≠5;omega),.inr ⟨h3,h8⟩⟩
 ·rw[(st7 h b).1]
  show Few _ (n.cnt b 8 8)/\((n.cnt b 8 8).ph=1\/3<=(n.cnt b 8 8).ph/\(n.cnt b 8 8).ph<=8)
  unfold Nd.cnt
  by_cases hb0:b=0
  ·rw[if_pos hb0]
   exact⟨nd _ rfl (.inl (by omega)) (by show n.ph≠5;omega),.inr ⟨h3,h8⟩⟩
  rw[if_neg hb0]
  by_cases h6:n.c+1=8
  ·rw[if_pos h6]
   exact⟨nd _ rfl (.inl (by omega)) (by show(8:Nat)≠5;omega),.inr ⟨by show(3:Nat)<=8;omega,by show(8:Nat)<=8;omega⟩⟩
  ·rw[if_neg h6]
   exact⟨nd _ rfl (.inl (by omega)) (by show n.ph≠5;omega),.inr ⟨h3,h8⟩⟩
 ·rw[(st8 h b).1]
  show Few _ (n.pause b)/\((n.pause b).ph=1\/3<=(n.pause b).ph/\(n.pause b).ph<=8)
  unfold Nd.pause
  by_cases hb0:b=0
  ·rw[if_pos hb0]
   by_cases h2:n.c=2
   ·rw[if_pos h2]
    exact⟨nd _ rfl (.inl (by omega)) (by show(3:Nat)≠5;omega),.inr ⟨by show(3:Nat)<=3;omega,by show(3:Nat)<=8;omega⟩⟩
   ·rw[if_neg h2]
    exact⟨nd _ rfl (.inl (by omega)) (by show(6:Nat)≠5;omega),.inr ⟨by show(3:Nat)<=6;omega,by show(6:Nat)<=8;omega⟩⟩
  rw[if_neg hb0]
  by_cases h6:n.c+1=3
  ·rw[if_pos h6,if_neg (by rw[(few_act F ht).1];omega)]
   exact⟨nd _ rfl (.inl (by omega)) (by show(1:Nat)≠5;omega),.inl rfl⟩
  ·rw[if_neg h6]
   exact⟨nd _ rfl (.inl (by omega)) (by show n.ph≠5;omega),.inr ⟨h3,h8⟩⟩
theorem q_start{t:Nat}{n:Nd}(S:Sit t n)(hr:Rd n)(ht:t<=800):∃v,v<=2/\Q 0 0 (n.step 0).1 v/\Few (t+1) (n.step 0).1:=by
 have ok:=S.ok
 have hcn:=ok.cn
 -- all but Idle and Receive: as if ones had been there
 have via:∀z,Q z 0 n 0->z < 11->nxM z 0=0->∃v,v<=2/\Q 0 0 (n.step 0).1 v/\Few (t+1) (n.step 0).1:=fun z q hz hm=>by
  obtain⟨v',q',l,_,_,_,_,w⟩:=q_zero q S ht hz (fun h=>by omega)
  rw[hm]at q'
  exact⟨v',by omega,q',w⟩
 obtain⟨_,kn,F⟩:=S
 have rec0:∀m:Nd,m.ph=3->m.x=[0]->m.fa=n.fa->n.ph≠5->∃v,v<=2/\Q 0 0 m v/\Few (t+1) m:=fun m h1 h2 h3 h4 =>
  ⟨_,vP_le _,.recv h1 (by rw[h2];exact⟨by omega,fun q=>by omega⟩),few_to F h3 (.inl h4) (by omega)⟩
 rcases hr with ⟨h1,hh⟩ | ⟨h3,h8⟩
 ·rw[(st1 h1 hh 0).1]
  exact rec0 _ rfl rfl rfl (by omega)
 rcases(by omega:n.ph=3\/n.ph=4\/n.ph=5\/n.ph=6\/n.ph=7\/n.ph=8)with h | h | h | h | h | h
 ·have hlive:liveP (scS true n.x):=live_of (by have:=(ok.p3 h).2.2;rwa[kn]at this)
  obtain⟨z1,z2⟩:=z_zero (kn:=true) hlive
  rw[<- row_next]at z1 z2
  rw[(st3 h 0).1]
  obtain⟨_,g2,g3,g4⟩:=heard_few (t:=t) (n:={ n with x:=n.x++[0] }) kn h F.o F.tt ⟨F.rr,F.r (by omega)⟩ ht 0
  rcases g4 with ⟨a1,a2⟩ | ⟨a1,a2⟩ | ⟨a1,a2,a3⟩
  ·exact⟨_,vP_le _,.recv (by rw[a1];exact h) (by rw[a1];exact z1),g3⟩
  ·obtain⟨s,s1,s2⟩:=end_of (kn:=true) (x:=n.x++[0]) (by rw[a2];omega)
   exact absurd (by rw[<- s2];exact a2) (z2 s s1)
  ·exact⟨0,by omega,.flag a1 (.inr rfl),g3⟩
 ·exact via 7 (.last h rfl) (by omega) rfl
 ·exact via 0 (.flag h (.inr rfl)) (by omega) rfl
 ·exact via 0 (.over h rfl) (by omega) rfl
 ·have hc:=hcn (by omega)
  rw[h]at hc
  unfold z0T at hc
  have e:nxM n.c 0=0:=by unfold nxM;rw[if_pos rfl,if_neg (by omega)]
  exact via n.c (.delim h rfl (by omega)) (by omega) e
 ·by_cases h2:n.c=2
  ·rw[(st8 h 0).1]
   show ∃v,v<=2/\Q 0 0 (n.pause 0) v/\Few (t+1) (n.pause 0)
   unfold Nd.pause
   rw[if_pos rfl,if_pos h2]
   exact rec0 _ rfl rfl rfl (by omega)
  ·have hc:=hcn (by omega)
   rw[h]at hc
   unfold z0T at hc
   have e:nxM (n.c+8) 0=0:=by unfold nxM;rw[if_pos rfl,if_neg (by omega)]
   exact via (n.c+8) (.pause h rfl (by omega)) (by omega) e
theorem bu_mk{t va vb vc:Nat}{a b c:Nd}(sa:Sit t a)(sb:Sit t b)(sc:Sit t c)(qa:Q 0 0 a va)(qb:Q 0 0 b vb)(qc:Q 0 0 c vc):Bu t 0 0 (va+vb+vc) 24 a b c :=
 ⟨sa,sb,sc,⟨va,vb,vc,qa,qb,qc,rfl⟩,fun q=>(by omega),by omega,rm_top _,rm_top _,rm_top _⟩
theorem send_few {t b:Nat} {m:Nd} (kn:m.kn=true) (hp:m.ph=2) (hO:m.fa.O=false) (hT:m.fa.T=0) (hR:0<=m.fa.R/\7*m.fa.R<=(t:Int)) (ht:t<=800) (hb:b<=1) (hl:m.c < z2J m.f m.l->liveP (scS true m.x)) :
    Few (t+1) (m.send b).1/\((m.send b).1.has=false\/((m.send b).1.ph=2/\(m.send b).1.fa=m.fa/\(m.send b).1.c=m.c+1/\(m.send b).1.f=m.f/\(m.send b).1.l=m.l)\/(m.send b).1.ph=5\/(b=0/\m.c < z2J m.f m.l/\(wF m.f m.l).getD m.c 0=1/\∃v,v<=2/\Q 0 0 (m.send b).1 v)):=by
 have goOn:∀n:Nd,n.ph=2->n.fa=m.fa->n.c=m.c->n.f=m.f->n.l=m.l->Few (t+1) n.goOn.1/\(n.goOn.1.has=false\/(n.goOn.1.ph=2/\n.goOn.1.fa=m.fa/\n.goOn.1.c=m.c+1/\n.goOn.1.f=m.f/\n.goOn.1.l=m.l)):=fun n h1 h2 h3 h4 h5=>by
  unfold Nd.goOn
  split
  ·refine⟨⟨?_,?_,?_,fun q => ?_,fun _ => ?_⟩,.inr ⟨h1,h2,by show n.c+1=_;rw[h3],h4,h5⟩⟩
   ·show n.fa.O=false
    rw[h2];exact hO
   ·show 0<=n.fa.T/\n.fa.T<=8
    rw[h2];omega
   ·show 0<=n.fa.R
    rw[h2];exact hR.1
   ·have q:n.ph=5:=q
    omega
   ·show 7*n.fa.R<=_
    rw[h2];omega
  ·have e:z14 n.fa 1=⟨max 0 (m.fa.T - 1),m.fa.R,false⟩:=by
    rw[h2]
    unfold z14
    rw[hO]
    rfl
   refine⟨⟨?_,?_,?_,fun q=>(by cases q),fun _ => ?_⟩,.inl rfl⟩
   ·show(z14 n.fa 1).O=false
    rw[e]
   ·show 0<=(z14 n.fa 1).T/\(z14 n.fa 1).T<=8
    rw[e]
    show 0<=max 0 (m.fa.T - 1)/\max 0 (m.fa.T - 1)<=8
    omega
   ·show 0<=(z14 n.fa 1).R
    rw[e];exact hR.1
   ·show 7*(z14 n.fa 1).R<=_
    rw[e]
    show 7*m.fa.R<=_
    omega
 have bad:∀(n:Nd) (ev:Int) (er:Nat),n.fa=m.fa->(ev=3\/ev=5)->Few (t+1) (n.wrong ev er).1/\(n.wrong ev er).1.ph=5:=fun n ev er h2 hev=>by
  have hact:z2L m.fa=0:=by
   unfold z2L
   rw[hO,if_neg (by simp),if_neg (by omega)]
  have e:z14 n.fa ev=⟨m.fa.T+8,m.fa.R,false⟩:=by
   rw[h2]
   unfold z14
   rw[hO,hact,hT]
   rcases hev with rfl | rfl<;>rfl
  unfold Nd.wrong
  rw[e]
  have ha:z2L ⟨m.fa.T+8,m.fa.R,false⟩=0:=by
   unfold z2L
   rw[if_neg (by simp),if_neg (by simp only;omega)]
  refine⟨⟨rfl,?_,hR.1,fun _=>⟨?_,?_⟩,fun q=>absurd rfl q⟩,rfl⟩
  ·show 0<=m.fa.T+8/\m.fa.T+8<=8
   omega
  ·show 7*m.fa.R+((0:Nat):Int)<=_
   omega
  ·show(z2L _==1)=false
   rw[ha]
   rfl
 unfold Nd.send
 by_cases hs:m.c=z2P m.f m.l
 ·rw[if_pos hs]
  by_cases h1:b=1
  ·rw[if_pos h1]
   obtain⟨e1,e2⟩:=bad { m with x:=m.x++[b] } 5 9 rfl (.inr rfl)
   exact⟨e1,.inr (.inr (.inl e2))⟩
  ·rw[if_neg h1]
   obtain⟨e1,e2⟩:=goOn { m with x:=m.x++[b] } hp rfl rfl rfl rfl
   exact⟨e1,e2.imp_right .inl⟩
 rw[if_neg hs]
 by_cases hw:b=(wF m.f m.l).getD m.c 0
 ·rw[if_pos hw]
  obtain⟨e1,e2⟩:=goOn { m with x:=m.x++[b] } hp rfl rfl rfl rfl
  exact⟨e1,e2.imp_right .inl⟩
 rw[if_neg hw]
 by_cases ha:(wF m.f m.l).getD m.c 0=1/\m.c < z2J m.f m.l
 ·rw[if_pos ha]
  have hb0:b=0:=by omega
  subst hb0
  have hlive:=hl ha.2
  obtain⟨z1,z2⟩:=z_zero (kn:=true) hlive
  rw[<- row_next]at z1 z2
  obtain⟨_,g2,g3,g4⟩:=heard_few (t:=t) (n:={ m with x:=m.x++[0],ph:=3,c:=0,snd:=false }) kn rfl hO (by show 0<=m.fa.T/\m.fa.T<=8;omega) hR ht 3
  refine⟨g3,?_⟩
  rcases g4 with ⟨a1,a2⟩ | ⟨a1,a2⟩ | ⟨a1,a2,a3⟩
  ·exact .inr (.inr (.inr ⟨rfl,ha.2,ha.1,_,vP_le _,.recv (by rw[a1]) (by rw[a1];exact z1)⟩))
  ·obtain⟨s,s1,s2⟩:=end_of (kn:=true) (x:=m.x++[0]) (by have a2:(zW (scS true (m.x++[0]))).k=2:=a2;omega)
   exact absurd (by rw[<- s2];exact a2) (z2 s s1)
  ·exact .inr (.inr (.inl a1))
 ·rw[if_neg ha]
  obtain⟨e1,e2⟩:=bad { m with x:=m.x++[b] } 3 5 rfl (.inl rfl)
  exact⟨e1,.inr (.inr (.inl e2))⟩
theorem live_on{f:Hd}{l:List Nat}(h:Fr f l){j:Nat}(hj:j<=(zn f l).length):liveP (scS true ((onW f l).take j)) :=
 live_of (by rw[(h.sta (kn:=true) (fun _=>rfl)).1 j (by omega) (by omega)];decide)
theorem send_ph{n:Nd}(h:n.ph=2)(b:Nat):n.step b=n.send b:=by
 unfold Nd.step
 rw[if_neg (by omega),if_neg (by omega),if_pos h]
theorem flag_run {t:Nat} {a b c:Nd} (sa:Sit t a) (sb:Sit t b) (sc:Sit t c) (h5:a.ph=5) (rb:Rd b) (rc:Rd c) (ht:t<=800) :
    ∃a' b' c' V,runH 1 [a,b,c]=[a',b',c']/\Bu (t+1) 0 0 V 24 a' b' c'/\V<=6/\Kf a a'/\Kf b b'/\Kf c c':=by
 have ho:=ou5 h5 (sa.few.r5 h5).2
 have hw:z3e [a,b,c]=0:=by
  rcases bus3 a b c (zic sa.ok) (zic sb.ok) (zic sc.ok)with ⟨_,e,_⟩ | ⟨e,_⟩
  ·omega
  ·exact e
 obtain⟨va,la,qa,fa⟩:=q_start sa (.inr ⟨by omega,by omega⟩) ht
 obtain⟨vb,lb,qb,fb⟩:=q_start sb rb ht
 obtain⟨vc,lc,qc,fc⟩:=q_start sc rc ht
 refine⟨_,_,_,_,?_,bu_mk (sit_next sa (by omega) fa) (sit_next sb (by omega) fb) (sit_next sc (by omega) fc) qa qb qc,by omega,kf_step sa.ok (by omega),kf_step sb.ok (by omega),kf_step sc.ok (by omega)⟩
 show z2I [a,b,c] 0=_
 rw[next3,hw]
theorem send_run:∀(p t:Nat) (a b c:Nd),Sit t a->Sit t b->Sit t c->a.ph=2->a.fa.T=0->Rd b->Rd c->b.has=false->c.has=false->(zn a.f a.l).length+10<=a.c+p->t+p<=790 ->
    ∃k,k<=p+1/\((((runH k [a,b,c]).getD 0 dN).has=false)\/∃a' b' c' V,runH k [a,b,c]=[a',b',c']/\Bu (t+k) 0 0 V 24 a' b' c'/\V<=6/\Kf a a'/\Kf b b'/\Kf c c'):=by
 intro p
 induction p with
 | zero =>
   intro t a b c sa _ _ h2 _ _ _ _ _ hp _
   have:=(sa.ok.p2 h2).2.1
   omega
 | succ p ih =>
   intro t a b c sa sb sc h2 hT rb rc nb nc hp ht
   obtain⟨ha,hc,hx⟩:=sa.ok.p2 h2
   have hfr:=(sa.ok.fr ha).1
   have harb:=hfr.arb
   have hw:=zdT [a,b,c]
   have h1:runH 1 [a,b,c]=[(a.step (z3e [a,b,c])).1,(b.step (z3e [a,b,c])).1,(c.step (z3e [a,b,c])).1]:=next3 a b c
   obtain⟨fa,ca⟩:=send_few (b:=z3e [a,b,c]) sa.kn h2 sa.few.o hT ⟨sa.few.rr,sa.few.r (by omega)⟩ (by omega) hw (fun q=>by rw[hx];exact live_on hfr (by omega))
   rw[<- send_ph h2]at fa ca
   obtain⟨fb,rb',nb'⟩:=rd_step sb rb nb (by omega) hw
   obtain⟨fc,rc',nc'⟩:=rd_step sc rc nc (by omega) hw
   have ta:=sit_next sa hw fa
   have tb:=sit_next sb hw fb
   have tc:=sit_next sc hw fc
   have kb:=kf_step sb.ok hw
   have kc:=kf_step sc.ok hw
   have ka:=kf_step sa.ok hw
   rcases ca with e | ⟨e1,e2,e3,e4,e5⟩ | e | ⟨e1,e2,e3,va,la,qa⟩
   ·exact⟨1,by omega,.inl (by rw[h1];exact e)⟩
   ·obtain⟨k,hk,h⟩:=ih (t+1) _ _ _ ta tb tc e1 (by rw[e2];exact hT) rb' rc' nb' nc' (by rw[e4,e5,e3];omega) (by omega)
    refine⟨1+k,by omega,?_⟩
    rw[runZ_add,h1]
    refine h.imp_right (fun⟨a',b',c',V,g1,g2,g3,g4,g5,g6⟩=>⟨a',b',c',V,g1,?_,g3,ka.trans g4,kb.trans g5,kc.trans g6⟩)
    rw[show t+(1+k)=t+1+k by omega]
    exact g2
   ·obtain⟨a',b',c',V,g1,g2,g3,g4,g5,g6⟩:=flag_run ta tb tc e rb' rc' (by omega)
    refine⟨1+1,by omega,.inr ⟨a',b',c',V,?_,g2,g3,ka.trans g4,kb.trans g5,kc.trans g6⟩⟩
    rw[runZ_add,h1]
    exact g1
   ·obtain⟨vb,lb,qb,_⟩:=q_start sb rb (by omega)
    obtain⟨vc,lc,qc,_⟩:=q_start sc rc (by omega)
    rw[e1]at h1 ta tb tc ka kb kc qa
    exact⟨1,by omega,.inr ⟨_,_,_,_,h1,bu_mk ta tb tc qa qb qc,by omega,ka,kb,kc⟩⟩
end Go.Proofs.YtkjjfnmeogpdbaaGreatDoor
