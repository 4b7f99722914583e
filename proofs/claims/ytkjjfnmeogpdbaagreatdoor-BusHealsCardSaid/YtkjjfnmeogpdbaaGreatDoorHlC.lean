
/- Three nodes on a wire that nobody turns, none of them sending: in the end all are at Idle at once (layer 13). No program here. No conditions but few errors so far. -/
import Derived.Test.YtkjjfnmeogpdbaaGreatDoorHlB
import Derived.Test.YtkjjfnmeogpdbaaGreatDoorGv
namespace Go.Proofs.YtkjjfnmeogpdbaaGreatDoor
set_option linter.unusedVariables false
set_option linter.unusedSimpArgs false
open Go.RowKit
theorem q_six{z m v:Nat}{n:Nd}(q:Q z m n v)(h:n.ph=6):z=0:=by
 cases q<;>first | omega | assumption
theorem q_five{z m v:Nat}{n:Nd}(q:Q z m n v)(h:n.ph=5):n.c=0\/z=0:=by
 cases q<;>first | omega | (rename_i hz;rcases hz with hz | hz<;>omega)
structure Rm(z r:Nat)(n:Nd):Prop where
 a:n.ph=5->0 < z->24<=r
 b:n.ph=5->z=0->17<=r+n.c
 c:n.ph=6->17<=r+n.c
def Fl(m:Nat)(n:Nd):Prop:=n.ph=5/\n.c=m
structure Bu(t z m V r:Nat)(a b c:Nd):Prop where
 sa:Sit t a
 sb:Sit t b
 sc:Sit t c
 q:∃va vb vc,Q z m a va/\Q z m b vb/\Q z m c vc/\va+vb+vc=V
 hm:0 < m->z=0/\m<=5/\23<=r+m/\(Fl m a\/Fl m b\/Fl m c)
 rz:11<=r+z
 ra:Rm z r a
 rb:Rm z r b
 rc:Rm z r c
theorem drv{t z m v v' r:Nat}{n:Nd}(q:Q z m n v)(S:Sit t n)(R:Rm z r n)(h:n.ph=5\/n.ph=6\/(v' < v/\z<=6)):(v' < v/\z<=6)\/(12<=r/\(0 < z->24<=r/\n.ph=5/\n.c=0)):=by
 have hcn:=S.ok.cn
 rcases h with h | h | h
 ·have hc:=hcn (by omega)
  rw[h]at hc
  unfold z0T at hc
  have:=q_five q h
  by_cases hz:z=0
  ·have:=R.b h hz
   exact .inr ⟨by omega,fun q=>by omega⟩
  ·have:=R.a h (by omega)
   exact .inr ⟨by omega,fun _=>⟨this,h,by omega⟩⟩
 ·have hc:=hcn (by omega)
  rw[h]at hc
  unfold z0T at hc
  have:=q_six q h
  have:=R.c h
  exact .inr ⟨by omega,fun q=>by omega⟩
 ·exact .inl h
theorem rm_top(n:Nd):Rm 0 24 n:=⟨fun _ q=>by omega,fun _ _=>by omega,fun _=>by omega⟩
theorem rm_next{z m v v' r:Nat}{n n':Nd}(R:Rm z r n)(hv:¬v' < v)(hr:12<=r)(h7:7<=z->24<=r)(h5:m=5->18<=r)(g5:n'.ph=5->v' < v\/(n.ph=5/\n'.c=n.c+1)\/m=5)(g6:n'.ph=6->(n.ph=6/\n'.c=n.c+1)\/7<=z):Rm 0 (r - 1) n':=by
 refine⟨fun _ q=>by omega,fun h _ => ?_,fun h => ?_⟩
 ·rcases g5 h with e | ⟨e1,e2⟩ | e
  ·exact absurd e hv
  ·by_cases hz:z=0
   ·have:=R.b e1 hz;omega
   ·have:=R.a e1 (by omega);omega
  ·have:=h5 e;omega
 ·rcases g6 h with ⟨e1,e2⟩ | e
  ·have:=R.c e1;omega
  ·have:=h7 e;omega
theorem sit_next{t b:Nat}{n:Nd}(S:Sit t n)(hb:b<=1)(F:Few (t+1) (n.step b).1):Sit (t+1) (n.step b).1:=by
 have so:=z9P S.ok hb
 exact⟨so.ok,by rw[so.kn];exact S.kn,F⟩
theorem bus3(a b c:Nd)(ha:a.out<=1)(hb:b.out<=1)(hc:c.out<=1):(z3e [a,b,c]=1/\a.out=1/\b.out=1/\c.out=1)\/(z3e [a,b,c]=0/\(a.out=0\/b.out=0\/c.out=0)):=by
 have e:z3e [a,b,c]=min (min (min 1 a.out) b.out) c.out:=rfl
 omega
theorem bu_step {t z m V r:Nat} {a b c:Nd} (B:Bu t z m V r a b c) (hz:z < 11) (ht:t<=800) :
    ∃z' m' V' r',Bu (t+1) z' m' V' r' (a.step (z3e [a,b,c])).1 (b.step (z3e [a,b,c])).1 (c.step (z3e [a,b,c])).1/\25*V'+r' < 25*V+r/\z'<=11:=by
 obtain⟨sa,sb,sc,⟨va,vb,vc,qa,qb,qc,hV⟩,hm,rz,ra,rb,rc⟩:=B
 rcases bus3 a b c (zic sa.ok) (zic sb.ok) (zic sc.ok)with ⟨hw,oa,ob,oc⟩ | ⟨hw,od⟩
 ·rw[hw]
  have hm0:m=0:=by
   by_cases h0:0 < m
   ·obtain⟨_,_,_,h | h | h⟩:=hm h0
    ·have:=ou5 h.1 (sa.few.r5 h.1).2;omega
    ·have:=ou5 h.1 (sb.few.r5 h.1).2;omega
    ·have:=ou5 h.1 (sc.few.r5 h.1).2;omega
   ·omega
  subst hm0
  obtain⟨va',qa',la,fa,xa,wa⟩:=q_one qa sa ht hz oa
  obtain⟨vb',qb',lb,fb,xb,wb⟩:=q_one qb sb ht hz ob
  obtain⟨vc',qc',lc,fc,xc,wc⟩:=q_one qc sc ht hz oc
  have ta:=sit_next sa (Nat.le_refl 1) wa
  have tb:=sit_next sb (Nat.le_refl 1) wb
  have tc:=sit_next sc (Nat.le_refl 1) wc
  by_cases hf:(a.step 1).1.ph=5\/(b.step 1).1.ph=5\/(c.step 1).1.ph=5
  ·have hlt:va'+vb'+vc' < V:=by
    rcases hf with h | h | h
    ·have:=fa h;omega
    ·have:=fb h;omega
    ·have:=fc h;omega
   have hR:∀n:Nd,Rm (z+1) 24 n:=fun n=>⟨fun _ _=>Nat.le_refl _,fun _ q=>(by omega),fun _=>(by omega)⟩
   exact⟨z+1,0,va'+vb'+vc',24,⟨ta,tb,tc,⟨va',vb',vc',qa',qb',qc',rfl⟩,fun q=>(by omega),by omega,hR _,hR _,hR _⟩,by omega,by omega⟩
  ·have hR:∀n:Nd,n.ph≠5->n.ph≠6->Rm (z+1) (10 - z) n:=fun n h5 h6=>⟨fun q=>absurd q h5,fun q=>absurd q h5,fun q=>absurd q h6⟩
   exact⟨z+1,0,va'+vb'+vc',10 - z,⟨ta,tb,tc,⟨va',vb',vc',qa',qb',qc',rfl⟩,fun q=>(by omega),by omega,hR _ (fun q=>hf (.inl q)) xa,hR _ (fun q=>hf (.inr (.inl q))) xb,hR _ (fun q=>hf (.inr (.inr q))) xc⟩,by omega,by omega⟩
 ·rw[hw]
  have hm2:0 < m->z=0/\m<=5:=fun h=>⟨(hm h).1,(hm h).2.1⟩
  obtain⟨va',qa',la,a5,a6,da,ka,wa⟩:=q_zero qa sa ht hz hm2
  obtain⟨vb',qb',lb,b5,b6,db,kb,wb⟩:=q_zero qb sb ht hz hm2
  obtain⟨vc',qc',lc,c5,c6,dc,kc,wc⟩:=q_zero qc sc ht hz hm2
  have ta:=sit_next sa (Nat.zero_le 1) wa
  have tb:=sit_next sb (Nat.zero_le 1) wb
  have tc:=sit_next sc (Nat.zero_le 1) wc
  -- who drives
  have hD:(va'+vb'+vc' < V/\z<=6)\/(12<=r/\(0 < z->24<=r/\(Fl 1 (a.step 0).1\/Fl 1 (b.step 0).1\/Fl 1 (c.step 0).1))):=by
   rcases od with o | o | o
   ·rcases drv qa sa ra (da o)with ⟨e1,e2⟩ | ⟨e1,e2⟩
    ·exact .inl ⟨by omega,e2⟩
    ·refine .inr ⟨e1,fun q => ?_⟩
     obtain⟨u1,u2,u3⟩:=e2 q
     have:=ka u2 (by omega)
     exact⟨u1,.inl ⟨this.1,by omega⟩⟩
   ·rcases drv qb sb rb (db o)with ⟨e1,e2⟩ | ⟨e1,e2⟩
    ·exact .inl ⟨by omega,e2⟩
    ·refine .inr ⟨e1,fun q => ?_⟩
     obtain⟨u1,u2,u3⟩:=e2 q
     have:=kb u2 (by omega)
     exact⟨u1,.inr (.inl ⟨this.1,by omega⟩)⟩
   ·rcases drv qc sc rc (dc o)with ⟨e1,e2⟩ | ⟨e1,e2⟩
    ·exact .inl ⟨by omega,e2⟩
    ·refine .inr ⟨e1,fun q => ?_⟩
     obtain⟨u1,u2,u3⟩:=e2 q
     have:=kc u2 (by omega)
     exact⟨u1,.inr (.inr ⟨this.1,by omega⟩)⟩
  -- one that was fresh has its flag beside it
  have hF:0 < nxM z m->nxM z m<=5/\(Fl (nxM z m) (a.step 0).1\/Fl (nxM z m) (b.step 0).1\/Fl (nxM z m) (c.step 0).1)/\((0 < m/\nxM z m=m+1)\/(z=10/\nxM z m=1)):=fun h=>by
   unfold nxM at h ⊢
   by_cases m0:m=0
   ·rw[if_pos m0]at h ⊢
    by_cases z10:z=10
    ·rw[if_pos z10]
     rcases hD with e | ⟨_,e⟩
     ·omega
     ·exact⟨by omega,(e (by omega)).2,.inr ⟨z10,rfl⟩⟩
    ·rw[if_neg z10]at h;omega
   ·rw[if_neg m0]at h ⊢
    by_cases m5:m < 5
    ·rw[if_pos m5]
     obtain⟨_,_,_,g⟩:=hm (by omega)
     refine⟨by omega,?_,.inl ⟨by omega,rfl⟩⟩
     rcases g with g | g | g
     ·have:=ka g.1 (by have:=g.2;omega)
      exact .inl ⟨this.1,by have:=g.2;omega⟩
     ·have:=kb g.1 (by have:=g.2;omega)
      exact .inr (.inl ⟨this.1,by have:=g.2;omega⟩)
     ·have:=kc g.1 (by have:=g.2;omega)
      exact .inr (.inr ⟨this.1,by have:=g.2;omega⟩)
    ·rw[if_neg m5]at h;omega
  by_cases hlt:va'+vb'+vc' < V
  ·exact⟨0,nxM z m,va'+vb'+vc',24,⟨ta,tb,tc,⟨va',vb',vc',qa',qb',qc',rfl⟩,fun q=>⟨rfl,(hF q).1,by omega,(hF q).2.1⟩,by omega,rm_top _,rm_top _,rm_top _⟩,by omega,by omega⟩
  ·obtain⟨hr,h24⟩:=hD.resolve_left (fun q=>hlt q.1)
   have h5:m=5->18<=r:=fun q=>by have:=(hm (by omega)).2.2.1;omega
   have h7:7<=z->24<=r:=fun q=>(h24 (by omega)).1
   refine⟨0,nxM z m,va'+vb'+vc',r - 1,⟨ta,tb,tc,⟨va',vb',vc',qa',qb',qc',rfl⟩,fun q=>⟨rfl,(hF q).1,?_,(hF q).2.1⟩,by omega,rm_next (v:=va) (v':=va') ra (by omega) hr h7 h5 a5 a6,rm_next (v:=vb) (v':=vb') rb (by omega) hr h7 h5 b5 b6,rm_next (v:=vc) (v':=vc') rc (by omega) hr h7 h5 c5 c6⟩,by omega,by omega⟩
   rcases(hF q).2.2 with ⟨e1,e2⟩ | ⟨e1,e2⟩
   ·have:=(hm e1).2.2.1
    omega
   ·have:=(h24 (by omega)).1
    omega
def runH:Nat->List Nd->List Nd
 | 0,ns=>ns
 | k+1,ns=>runH k (z2I ns 0)
theorem runZ_add(i k:Nat)(ns:List Nd):runH (i+k) ns=runH k (runH i ns):=by
 induction i generalizing ns with
 | zero=>rw[Nat.zero_add];rfl
 | succ i ih=>rw[Nat.succ_add];exact ih _
theorem next3(a b c:Nd):z2I [a,b,c] 0=[(a.step (z3e [a,b,c])).1,(b.step (z3e [a,b,c])).1,(c.step (z3e [a,b,c])).1]:=by
 rw[zbP]
 rfl
def Kf(n n':Nd):Prop:=n'.has=true->n.has=true/\n'.f=n.f/\n'.l=n.l
theorem Kf.rfl'(n:Nd):Kf n n:=fun h=>⟨h,rfl,rfl⟩
theorem Kf.trans{a b c:Nd}(h:Kf a b)(g:Kf b c):Kf a c:=fun q=>by
 obtain⟨e1,e2,e3⟩:=g q
 obtain⟨f1,f2,f3⟩:=h e1
 exact⟨f1,e2.trans f2,e3.trans f3⟩
theorem kf_step{n:Nd}(h:n.Ok){b:Nat}(hb:b<=1):Kf n (n.step b).1:=fun q=>by
 have so:=z9P h hb
 have hh:=so.has
 rw[q]at hh
 refine⟨?_,so.fl q⟩
 cases hn:n.has with
 | true=>rfl
 | false=>rw[hn]at hh;cases hh
theorem q_end{m v t:Nat}{n:Nd}(q:Q 11 m n v)(S:Sit t n)(hm:m=0):n.ph=1:=by
 cases q with
 | idle h _=>exact h
 | recv h hz =>
   have:=(zOk_le hz (live_of (by have:=(S.ok.p3 h).2.2;rwa[S.kn]at this))).1
   omega
 | fresh h h0=>omega
 | last h hz=>omega
 | flag h hz=>omega
 | over h hz=>omega
 | delim h hz h8=>omega
 | pause h hz h11=>omega
theorem bu_run:∀(p t z m V r:Nat) (a b c:Nd),Bu t z m V r a b c->z<=11->25*V+r<=p->t+p<=800 ->
    ∃k,k<=p/\∃a' b' c',runH k [a,b,c]=[a',b',c']/\(Sit (t+k) a'/\Sit (t+k) b'/\Sit (t+k) c')/\(a'.ph=1/\b'.ph=1/\c'.ph=1)/\Kf a a'/\Kf b b'/\Kf c c':=by
 intro p
 induction p with
 | zero =>
   intro t z m V r a b c B hz hp ht
   have:=B.rz
   have hm:m=0:=by
    by_cases h0:0 < m
    ·have:=(B.hm h0).1;omega
    ·omega
   obtain⟨va,vb,vc,qa,qb,qc,_⟩:=B.q
   obtain rfl:z=11:=by omega
   exact⟨0,Nat.le_refl _,a,b,c,rfl,⟨B.sa,B.sb,B.sc⟩,⟨q_end qa B.sa hm,q_end qb B.sb hm,q_end qc B.sc hm⟩,Kf.rfl' _,Kf.rfl' _,Kf.rfl' _⟩
 | succ p ih =>
   intro t z m V r a b c B hz hp ht
   by_cases h11:z=11
   ·have hm:m=0:=by
     by_cases h0:0 < m
     ·have:=(B.hm h0).1;omega
     ·omega
    obtain⟨va,vb,vc,qa,qb,qc,_⟩:=B.q
    subst h11
    exact⟨0,Nat.zero_le _,a,b,c,rfl,⟨B.sa,B.sb,B.sc⟩,⟨q_end qa B.sa hm,q_end qb B.sb hm,q_end qc B.sc hm⟩,Kf.rfl' _,Kf.rfl' _,Kf.rfl' _⟩
   ·obtain⟨z',m',V',r',B',hlt,hz'⟩:=bu_step B (by omega) (by omega)
    have hw:=zdT [a,b,c]
    obtain⟨k,hk,a',b',c',e1,e2,e3,e4,e5,e6⟩:=ih (t+1) z' m' V' r' _ _ _ B' hz' (by omega) (by omega)
    refine⟨k+1,by omega,a',b',c',?_,?_,e3,(kf_step B.sa.ok hw).trans e4,(kf_step B.sb.ok hw).trans e5,(kf_step B.sc.ok hw).trans e6⟩
    ·show runH k (z2I [a,b,c] 0)=_
     rw[next3]
     exact e1
    ·rw[show t+(k+1)=t+1+k by omega]
     exact e2
end Go.Proofs.YtkjjfnmeogpdbaaGreatDoor
