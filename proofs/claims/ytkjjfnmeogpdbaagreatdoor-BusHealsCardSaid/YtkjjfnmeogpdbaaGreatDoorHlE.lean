
/- Three nodes that know every frame, the first one with a frame: whatever is turned at one step, it comes across in the end (layer 13). No program here. No conditions but the fields' own widths. -/
import Derived.Test.YtkjjfnmeogpdbaaGreatDoorHlT
namespace Go.Proofs.YtkjjfnmeogpdbaaGreatDoor
set_option linter.unusedVariables false
set_option linter.unusedSimpArgs false
open Go.RowKit
def rcvN(f:Hd)(l:List Nat)(n:Nd)(i:Nat):Nd :=
 if i < (zn f l).length+9 then Nd.atR { n with snd:=false } ((onW f l).take i)else { n with ph:=4,c:=0,x:=(onW f l).take i,fa:=z14 n.fa 2,snd:=false }
theorem rcvN_out{f:Hd}{l:List Nat}(h:Fr f l){n:Nd}(hk:n.kn=true){i:Nat}(h0:0 < i)(hi:i < (zn f l).length+10):(rcvN f l n i).out=if i=(zn f l).length+1 then 0 else 1:=by
 unfold rcvN
 by_cases h9:i < (zn f l).length+9
 ·rw[if_pos h9]
  exact(zb7 (n:={ n with snd:=false }) h (fun _=>hk) h0 h9).1
 ·rw[if_neg h9,if_neg (by omega)]
  exact(st4 (n:={ n with ph:=4,c:=0,x:=(onW f l).take i,fa:=z14 n.fa 2,snd:=false }) rfl 0).2
theorem rcvN_step{f:Hd}{l:List Nat}(h:Fr f l){n:Nd}(hk:n.kn=true){i:Nat}(h0:0 < i)(hi:i < (zn f l).length+9):((rcvN f l n i).step ((onW f l).getD i 0)).1=rcvN f l n (i+1):=by
 unfold rcvN
 rw[if_pos hi,(zb7 (n:={ n with snd:=false }) h (fun _=>hk) h0 hi).2]
 by_cases h9:i+1 < (zn f l).length+9
 ·rw[if_pos h9,if_pos h9]
 ·rw[if_neg h9,if_neg h9]
theorem idle_send {a b c:Nd} (h:Fr a.f a.l) (ha:a.ph=1) (hh:a.has=true) (hb:b.ph=1/\b.has=false/\b.kn=true) (hc:c.ph=1/\c.has=false/\c.kn=true) :
    ((runH ((zn a.f a.l).length+10) [a,b,c]).getD 0 dN).has=false:=by
 have hl:=h.raw_len
 have run:∀i,1<=i->i < (zn a.f a.l).length+10->runH i [a,b,c]=[a.atS i,rcvN a.f a.l b i,rcvN a.f a.l c i]:=by
  intro i
  induction i with
  | zero=>intro q;omega
  | succ i ih =>
    intro _ hi
    by_cases h0:i=0
    ·subst h0
     have e1:=z5K h ha hh
     have e2:=z9a a.f a.l h hb.1 hb.2.1
     have e3:=z9a a.f a.l h hc.1 hc.2.1
     have hw:z3e [a,b,c]=0:=by
      show min (min (min 1 a.out) b.out) c.out=0
      rw[e1.1]
      omega
     show z2I [a,b,c] 0=_
     rw[next3,hw,e1.2,e2.2,e3.2]
     unfold rcvN
     rw[if_pos (by omega),if_pos (by omega)]
    ·rw[runZ_add i 1,ih (by omega) (by omega)]
     have e1:=zgE h (i:=i) (by omega)
     have e2:=rcvN_out h hb.2.2 (i:=i) (by omega) (by omega)
     have e3:=rcvN_out h hc.2.2 (i:=i) (by omega) (by omega)
     have hbb:=zjk h (i:=i) (by omega)
     have hr:=h.bits i (by omega)
     have hrb:=h.raw_bit i
     have hw:z3e [a.atS i,rcvN a.f a.l b i,rcvN a.f a.l c i]=(onW a.f a.l).getD i 0:=by
      show min (min (min 1 (a.atS i).out) (rcvN a.f a.l b i).out) (rcvN a.f a.l c i).out=_
      rw[e1.1,e2,e3,<- hbb,hr.1]
      split<;>split<;>omega
     show z2I [a.atS i,rcvN a.f a.l b i,rcvN a.f a.l c i] 0=_
     rw[next3,hw,e1.2,if_pos (by omega),rcvN_step h hb.2.2 (by omega) (by omega),rcvN_step h hc.2.2 (by omega) (by omega)]
 rw[show(zn a.f a.l).length+10=((zn a.f a.l).length+9)+1 by omega,runZ_add,run _ (by omega) (by omega)]
 have e1:=zgE h (i:=(zn a.f a.l).length+9) (by omega)
 have e2:=rcvN_out h hb.2.2 (i:=(zn a.f a.l).length+9) (by omega) (by omega)
 have e3:=rcvN_out h hc.2.2 (i:=(zn a.f a.l).length+9) (by omega) (by omega)
 have hr:=h.bits ((zn a.f a.l).length+9) (by omega)
 have hw:z3e [a.atS ((zn a.f a.l).length+9),rcvN a.f a.l b ((zn a.f a.l).length+9),rcvN a.f a.l c ((zn a.f a.l).length+9)]=(onW a.f a.l).getD ((zn a.f a.l).length+9) 0:=by
  show min (min (min 1 (a.atS ((zn a.f a.l).length+9)).out) (rcvN a.f a.l b ((zn a.f a.l).length+9)).out) (rcvN a.f a.l c ((zn a.f a.l).length+9)).out=_
  rw[e1.1,e2,e3,hr.1,hr.2,if_neg (by omega),if_neg (by omega),if_neg (by omega)]
  rfl
 show((z2I [a.atS ((zn a.f a.l).length+9),rcvN a.f a.l b ((zn a.f a.l).length+9),rcvN a.f a.l c ((zn a.f a.l).length+9)] 0).getD 0 dN).has=false
 rw[next3,hw,e1.2,if_neg (by omega)]
 rfl
theorem bu_send{t V:Nat}{a b c:Nd}(B:Bu t 0 0 V 24 a b c)(hV:V<=6)(ht:t<=600)(nb:b.has=false)(nc:c.has=false):∃k,k<=(zn a.f a.l).length+10+174/\((runH k [a,b,c]).getD 0 dN).has=false:=by
 obtain⟨k,hk,a',b',c',e1,⟨sa,sb,sc⟩,⟨pa,pb,pc⟩,ka,kb,kc⟩:=bu_run (25*V+24) t 0 0 V 24 a b c B (by omega) (Nat.le_refl _) (by omega)
 cases hh:a'.has with
 | false=>exact⟨k,by omega,by rw[e1];exact hh⟩
 | true =>
   obtain⟨_,e2,e3⟩:=ka hh
   have no:∀n n':Nd,Kf n n'->n.has=false->n'.has=false:=fun n n' h1 h2=>by
    cases q:n'.has with
    | false=>rfl
    | true=>rw[(h1 q).1]at h2;cases h2
   have:=idle_send (sa.ok.fr hh).1 pa hh ⟨pb,no _ _ kb nb,sb.kn⟩ ⟨pc,no _ _ kc nc,sc.kn⟩
   refine⟨k+((zn a'.f a'.l).length+10),by rw[e2,e3];omega,?_⟩
   rw[runZ_add,e1]
   exact this
def triL(f:Hd)(l:List Nat)(k:Nat):List Nd:=[duA f l k,duB f l k,duB f l k]
def healL(f:Hd)(l:List Nat)(k0 tm:Nat):Nat->List Nd
 | 0=>triL f l 0
 | k+1=>z2I (healL f l k0 tm k) (if k=k0 then tm else 0)
theorem tri_bus{f:Hd}{l:List Nat}(h:Fr f l)(k:Nat):z3e (triL f l k)=duW f l k:=by
 obtain⟨h1,h2,h3⟩:=du_bus h k
 show min (min (min 1 (duA f l k).out) (duB f l k).out) (duB f l k).out=_
 omega
theorem heal_low{f:Hd}{l:List Nat}(h:Fr f l)(k0 tm:Nat):∀k,k<=k0->healL f l k0 tm k=triL f l k:=by
 intro k
 induction k with
 | zero=>intro _;rfl
 | succ k ih =>
   intro hk
   show z2I (healL f l k0 tm k) (if k=k0 then tm else 0)=_
   rw[ih (by omega),if_neg (by omega),zbP,tri_bus h]
   show [((duA f l k).step (duW f l k)).1,((duB f l k).step (duW f l k)).1,((duB f l k).step (duW f l k)).1]=_
   rw[duA_step h,duB_step h]
   rfl
theorem heal_add(f:Hd)(l:List Nat)(k0 tm:Nat){j:Nat}(hj:k0 < j):∀i,healL f l k0 tm (j+i)=runH i (healL f l k0 tm j):=by
 intro i
 induction i with
 | zero=>rfl
 | succ i ih =>
   show z2I (healL f l k0 tm (j+i)) (if j+i=k0 then tm else 0)=_
   rw[ih,if_neg (by omega),runZ_add]
   rfl
theorem heal_len(f:Hd)(l:List Nat)(k0 tm k:Nat):(healL f l k0 tm k).length=3:=by
 induction k with
 | zero=>rfl
 | succ k ih =>
   show(z2I _ _).length=3
   rw[z30,ih]
theorem heal_ok{f:Hd}{l:List Nat}(h:Fr f l)(k0 tm k:Nat):z26 (healL f l k0 tm k):=by
 induction k with
 | zero =>
   intro j hj
   rcases(by simp[healL,triL]at hj;omega:j=0\/j=1\/j=2)with rfl | rfl | rfl
   ·exact duA_ok h 0
   ·exact duB_ok h 0
   ·exact duB_ok h 0
 | succ k ih=>exact ih.next _
theorem heal_short(f:Hd)(l:List Nat)(k0 tm k:Nat):∀j,j < (healL f l k0 tm k).length->((healL f l k0 tm k).getD j dN).x.length<=k:=by
 induction k with
 | zero =>
   intro j hj
   rcases(by simp[healL,triL]at hj;omega:j=0\/j=1\/j=2)with rfl | rfl | rfl
   ·exact Nat.le_refl 0
   ·exact Nat.le_refl 0
   ·exact Nat.le_refl 0
 | succ k ih =>
   intro j hj
   have hj:j < (z2I (healL f l k0 tm k) (if k=k0 then tm else 0)).length:=hj
   rw[z30]at hj
   show((z2I (healL f l k0 tm k) (if k=k0 then tm else 0)).getD j dN).x.length<=_
   rw[z5h _ _ hj]
   have:=zaR ((healL f l k0 tm k).getD j dN) (z5z (z3e (healL f l k0 tm k)) (if k=k0 then tm else 0) j)
   have:=ih j hj
   omega
def hasH(f:Hd)(l:List Nat)(k0 tm k:Nat):Bool:=((healL f l k0 tm k).getD 0 dN).has
theorem heal_has {f:Hd} {l:List Nat} (h:Fr f l) (k0 tm k:Nat) :
    hasH f l k0 tm (k+1)=(hasH f l k0 tm k && !(((z51 (healL f l k0 tm k) (if k=k0 then tm else 0)).getD 0 z02).k==1))/\(((z51 (healL f l k0 tm k) (if k=k0 then tm else 0)).getD 0 z02).k=1->hasH f l k0 tm k=true):=by
 have hl:=heal_len f l k0 tm k
 have so:=z9P (heal_ok h k0 tm k 0 (by omega)) (zf9 (t:=if k=k0 then tm else 0) (j:=0) (zdT (healL f l k0 tm k)))
 unfold hasH
 show((z2I (healL f l k0 tm k) (if k=k0 then tm else 0)).getD 0 dN).has=_/\_
 rw[z5h _ _ (by omega),evsT_get _ _ (by omega)]
 exact⟨so.has,fun q=>(so.sent q).2.2⟩
theorem heal_gone{f:Hd}{l:List Nat}(h:Fr f l)(k0 tm:Nat){j:Nat}(hj:hasH f l k0 tm j=false):∀i,hasH f l k0 tm (j+i)=false:=by
 intro i
 induction i with
 | zero=>exact hj
 | succ i ih =>
   have:=(heal_has h k0 tm (j+i)).1
   rw[show j+(i+1)=j+i+1 by omega,this,ih]
   rfl
theorem tail_go{kn ok:Bool}{f:Hd}{l:List Nat}:∀(y t:List Nat),(∃s,goS kn (.tail ok f l t) y = .fin s)\/∃t',goS kn (.tail ok f l t) y = .tail ok f l t'/\t'.length=t.length+y.length:=by
 intro y
 induction y with
 | nil=>intro t;exact .inr ⟨t,rfl,rfl⟩
 | cons b y ih =>
   intro t
   rw[zhM]
   simp only[z09]
   split
   ·exact .inl ⟨_,zd6 _ _ _⟩
   split
   ·exact .inl ⟨_,zd6 _ _ _⟩
   split
   ·exact .inl ⟨_,zd6 _ _ _⟩
   ·refine(ih (t++[b])).imp_right (fun⟨t',e1,e2⟩=>⟨t',e1,?_⟩)
    rw[e2,List.length_append,List.length_singleton,List.length_cons]
    omega
theorem nt_take{f:Hd}{l:List Nat}(h:Fr f l){j:Nat}(hj:j < (zn f l).length):ntP (scS true ((onW f l).take j)):=by
 have hlive:=live_on h (j:=j) (by omega)
 have e:(onW f l).take j=(zn f l).take j:=by
  unfold onW
  rw[List.take_append_of_le_length (by omega)]
 rw[e]at hlive ⊢
 have h6:scS true (zn f l) = .tail true f l []:=by
  obtain⟨_,_,_,_,_,h6,_⟩:=z7Z h.ok h.wd h.b
  exact h6
 have hs:=zaw true (zn f l) j
 rw[h6]at hs
 cases hp:scS true ((zn f l).take j) with
 | fin s=>rw[hp]at hlive;exact hlive.elim
 | tail ok g m t =>
   rw[hp]at hs
   rcases tail_go (kn:=true) (ok:=ok) (f:=g) (l:=m) ((zn f l).drop j) t with ⟨s,e⟩ | ⟨t',e1,e2⟩
   ·rw[e]at hs;cases hs
   ·rw[e1]at hs
    cases hs
    rw[List.length_drop]at e2
    simp at e2
    omega
 | _=>trivial
theorem q_turn{t b:Nat}{n:Nd}(S:Sit t n)(h:n.ph=3)(hn:ntP (scS true n.x))(ht:t<=800):∃v,v<=2/\Q 0 0 (n.step b).1 v:=by
 obtain⟨ok,kn,F⟩:=S
 obtain⟨z1,z2⟩:=z_any (kn:=true) hn b
 rw[<- row_next]at z1 z2
 rw[(st3 h b).1]
 obtain⟨_,g2,g3,g4⟩:=heard_few (t:=t) (n:={ n with x:=n.x++[b] }) kn h F.o F.tt ⟨F.rr,F.r (by omega)⟩ ht 0
 rcases g4 with ⟨a1,a2⟩ | ⟨a1,a2⟩ | ⟨a1,a2,a3⟩
 ·exact⟨_,vP_le _,.recv (by rw[a1];exact h) (by rw[a1];exact z1)⟩
 ·obtain⟨s,s1,s2⟩:=end_of (kn:=true) (x:=n.x++[b]) (by rw[a2];omega)
  exact absurd (by rw[<- s2];exact a2) (z2 s s1)
 ·exact⟨0,by omega,.flag a1 (.inr rfl)⟩
theorem st1s{n:Nd}(h:n.ph=1)(hh:n.has=true)(b:Nat):n.step b=Nd.send { n with x:=[],snd:=true,ph:=2,c:=0 } b:=by
 unfold Nd.step
 rw[if_neg (by omega),if_pos h,if_pos hh]
theorem zero_few(t:Nat){n:Nd}(h:n.fa=Fa.zero)(h5:n.ph≠5):Few t n :=
 ⟨by rw[h];rfl,by rw[h];decide,by rw[h];decide,fun q=>absurd q h5,fun _=>by rw[h];show 7*0<=(t:Int);omega⟩
theorem heal_all{f:Hd}{l:List Nat}(h:Fr f l)(h16:(zn f l).length<=400){j:Nat}(hj:j < (zn f l).length+10)(tm:Nat):∃k,k<=2*((zn f l).length+10)+200/\hasH f l (11+j) tm k=false:=by
 have hl:=h.raw_len
 -- the nodes ahead of it
 have eA:duA f l (11+j)=prA f l j:=by
  unfold duA
  rw[if_neg (by omega),if_pos (by omega),show 11+j - 11=j by omega]
 have eB:duB f l (11+j)=prB f l j:=by
  unfold duB
  rw[if_neg (by omega),if_pos (by omega),show 11+j - 11=j by omega]
 have hlow:=heal_low h (11+j) tm (11+j) (Nat.le_refl _)
 unfold triL at hlow
 rw[eA,eB]at hlow
 have okA:=prA_ok h j (by omega)
 have okB:=prB_ok h j (by omega)
 have hw:=zdT [prA f l j,prB f l j,prB f l j]
 have hs:∀i,z5z (z3e [prA f l j,prB f l j,prB f l j]) tm i<=1:=fun i=>zf9 hw
 -- the sender
 obtain⟨m,m1,m2,m3,m4,m5,m6,m7,m8⟩:∃m:Nd,(∀b,(prA f l j).step b=m.send b)/\m.kn=true/\m.ph=2/\m.fa=Fa.zero/\m.c=j/\m.x=(onW f l).take j/\m.f=f/\m.l=l:=by
  unfold prA
  by_cases h0:j=0
  ·subst h0
   rw[if_pos rfl]
   exact⟨_,fun b=>st1s (n:={ Nd.joined true with has:=true,f:=f,l:=l }) rfl rfl b,rfl,rfl,rfl,rfl,rfl,rfl,rfl⟩
  ·rw[if_neg h0,if_pos hj]
   exact⟨_,fun b=>send_ph rfl b,rfl,rfl,rfl,rfl,rfl,rfl,rfl⟩
 have sitB:Sit (11+j) (prB f l j):=by
  refine⟨okB,?_,zero_few _ ?_ ?_⟩
  all_goals unfold prB
  all_goals (repeat' split)
  all_goals first | rfl | (show(3:Nat)≠5;omega) | (show(1:Nat)≠5;omega) | (show(4:Nat)≠5;omega) | (show(8:Nat)≠5;omega)
 have rdB:Rd (prB f l j)/\(prB f l j).has=false:=by
  unfold prB
  rw[show(if j < (zn f l).length+13 then({ Nd.joined true with ph:=8,c:=j - ((zn f l).length+10),x:=(onW f l).take ((zn f l).length+9) }:Nd)else { Nd.joined true with x:=(onW f l).take ((zn f l).length+9) })={ Nd.joined true with ph:=8,c:=j - ((zn f l).length+10),x:=(onW f l).take ((zn f l).length+9) } from if_pos (by omega)]
  split
  ·exact⟨.inl ⟨rfl,rfl⟩,rfl⟩
  split
  ·exact⟨.inr ⟨by show(3:Nat)<=3;omega,by show(3:Nat)<=8;omega⟩,rfl⟩
  split
  ·exact⟨.inr ⟨by show(3:Nat)<=4;omega,by show(4:Nat)<=8;omega⟩,rfl⟩
  ·exact⟨.inr ⟨by show(3:Nat)<=8;omega,by show(8:Nat)<=8;omega⟩,rfl⟩
 have harb:=h.arb
 -- behind it
 have h1:healL f l (11+j) tm (12+j)=[((prA f l j).step (z5z (z3e [prA f l j,prB f l j,prB f l j]) tm 0)).1,((prB f l j).step (z5z (z3e [prA f l j,prB f l j,prB f l j]) tm 1)).1,((prB f l j).step (z5z (z3e [prA f l j,prB f l j,prB f l j]) tm 2)).1]:=by
  rw[show 12+j=(11+j)+1 by omega]
  show z2I (healL f l (11+j) tm (11+j)) (if 11+j=11+j then tm else 0)=_
  rw[hlow,if_pos rfl]
  rfl
 have s0:=hs 0
 have s1:=hs 1
 have s2:=hs 2
 generalize z5z (z3e [prA f l j,prB f l j,prB f l j]) tm 0=ba at h1 s0
 generalize z5z (z3e [prA f l j,prB f l j,prB f l j]) tm 1=bb at h1 s1
 generalize z5z (z3e [prA f l j,prB f l j,prB f l j]) tm 2=bc at h1 s2
 obtain⟨fb,rb,nb⟩:=rd_step sitB rdB.1 rdB.2 (by omega) s1
 obtain⟨fc,rc,nc⟩:=rd_step sitB rdB.1 rdB.2 (by omega) s2
 have tb:=sit_next sitB s1 fb
 have tc:=sit_next sitB s2 fc
 obtain⟨fa,ca⟩:=send_few (t:=11+j) (b:=ba) m2 m3 (by rw[m4];rfl) (by rw[m4];rfl) (by rw[m4];exact⟨by decide,by show 7*0<=((11+j:Nat):Int);omega⟩) (by omega) s0 (fun q=>by rw[m6];rw[m5,m7,m8]at q;exact live_on h (by omega))
 rw[m7,m8,m5]at ca
 rw[<- m1]at fa ca
 have ta:Sit (11+j+1) ((prA f l j).step ba).1:=by
  have so:=z9P okA s0
  refine⟨so.ok,?_,fa⟩
  rw[so.kn]
  unfold prA
  (repeat' split)<;>rfl
 have kf:=kf_step okA s0
 have hpf:(prA f l j).f=f/\(prA f l j).l=l:=by
  unfold prA
  (repeat' split)<;>exact⟨rfl,rfl⟩
 have fin:∀k,k<=2*((zn f l).length+10)+188 - j->((runH k [((prA f l j).step ba).1,((prB f l j).step bb).1,((prB f l j).step bc).1]).getD 0 dN).has=false->∃k,k<=2*((zn f l).length+10)+200/\hasH f l (11+j) tm k=false:=fun k hk e =>
  ⟨12+j+k,by omega,by unfold hasH;rw[heal_add _ _ _ _ (by omega),h1];exact e⟩
 have quiet:∀k a' b' c' V,k+j<=(zn f l).length+13->runH k [((prA f l j).step ba).1,((prB f l j).step bb).1,((prB f l j).step bc).1]=[a',b',c']->Bu (11+j+1+k) 0 0 V 24 a' b' c'->V<=6->Kf ((prA f l j).step ba).1 a'->Kf ((prB f l j).step bb).1 b'->Kf ((prB f l j).step bc).1 c'->∃k,k<=2*((zn f l).length+10)+200/\hasH f l (11+j) tm k=false:=fun k a' b' c' V hk e B hV k1 k2 k3=>by
  have no:∀n n':Nd,Kf n n'->n.has=false->n'.has=false:=fun n n' h1 h2=>by
   cases q:n'.has with
   | false=>rfl
   | true=>rw[(h1 q).1]at h2;cases h2
  cases hh:a'.has with
  | false=>exact fin k (by omega) (by rw[e];exact hh)
  | true =>
    obtain⟨q1,q2,q3⟩:=(kf.trans k1) hh
    obtain⟨k',hk',e'⟩:=bu_send B hV (by omega) (no _ _ k2 nb) (no _ _ k3 nc)
    rw[q2,q3,hpf.1,hpf.2]at hk'
    exact fin (k+k') (by omega) (by rw[runZ_add,e];exact e')
 rcases ca with e | ⟨e1,e2,e3,e4,e5⟩ | e | ⟨e1,e2,e3,va,la,qa⟩
 ·exact fin 0 (by omega) e
 ·obtain⟨k,hk,hr⟩:=send_run ((zn f l).length+10 - (j+1)) (11+j+1) _ _ _ ta tb tc e1 (by rw[e2,m4];rfl) rb rc nb nc (by rw[e4,e5,e3];omega) (by omega)
  rcases hr with e | ⟨a',b',c',V,g1,g2,g3,g4,g5,g6⟩
  ·exact fin k (by omega) e
  ·exact quiet k a' b' c' V (by omega) g1 g2 g3 g4 g5 g6
 ·obtain⟨a',b',c',V,g1,g2,g3,g4,g5,g6⟩:=flag_run ta tb tc e rb rc (by omega)
  exact quiet 1 a' b' c' V (by omega) g1 g2 g3 g4 g5 g6
 ·have hj0:0 < j:=by
   by_cases h0:j=0
   ·subst h0
    have:=(h.bits 0 (by omega)).1
    rw[if_pos (by omega),h.sof]at this
    omega
   ·omega
  have hB:(prB f l j).ph=3/\(prB f l j).x=(onW f l).take j:=by
   unfold prB
   rw[if_neg (by omega),if_pos (by omega)]
   exact⟨rfl,rfl⟩
  have hnt:ntP (scS true (prB f l j).x):=by rw[hB.2];exact nt_take h (by omega)
  obtain⟨vb,lb,qb⟩:=q_turn (b:=bb) sitB hB.1 hnt (by omega)
  obtain⟨vc,lc,qc⟩:=q_turn (b:=bc) sitB hB.1 hnt (by omega)
  exact quiet 0 _ _ _ _ (by omega) rfl (bu_mk ta tb tc qa qb qc) (by omega) (Kf.rfl' _) (Kf.rfl' _) (Kf.rfl' _)
end Go.Proofs.YtkjjfnmeogpdbaaGreatDoor
