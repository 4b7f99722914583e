
/- A row of raw bits (layer 9) behind whose last 0 come ones: how many there can be, by where the row is. No program here. No conditions. -/
import Derived.Test.YtkjjfnmeogpdbaaGreatDoorGv
namespace Go.Proofs.YtkjjfnmeogpdbaaGreatDoor
set_option linter.unusedVariables false
set_option linter.unusedSimpArgs false
open Go.RowKit
def zOk:Ph->Nat->Prop
 | .dyn x,z=>z<=5/\(0 < z->zl x=1/\z<=(zq x).2)
 | .fx h y,z=>(0 < z->(fgS 4 true (zl h) y).prev=1)/\((fgS 4 true (zl h) y).due=true->z<=5)/\((fgS 4 true (zl h) y).due=false->z<=(fgS 4 true (zl h) y).out.length%4+1)
 | .xs _ y,z=>z<=5+y.length/\(2<=y.length->z=0)
 | .xd _ y,z=>(0 < z->(fgS 8 false 1 y).prev=1)/\((fgS 8 false 1 y).due=true->z<=9)/\((fgS 8 false 1 y).due=false->z<=(fgS 8 false 1 y).out.length%8+1)
 | .xe _ _ y,z=>z<=9/\(0 < y.length->z+1<=y.length)
 | .tail ok _ _ t,z=>(t.length < 2->z<=5+t.length)/\(2<=t.length->t.length<=8/\(ok=true->z+2=t.length)/\(ok=false->t.length=2/\z<=7))
 | .fin _,_=>True
def vP:Ph->Nat
 | .tail _ _ _ t=>if 2<=t.length then 1 else 2
 | .fin _=>0
 | _=>2
def liveP:Ph->Prop
 | .fin _=>False
 | _=>True
theorem zOk_le{p:Ph}{z:Nat}(h:zOk p z)(hl:liveP p):z<=9/\((zW p).k=1->z<=6):=by
 cases p with
 | dyn x=>exact⟨by have:=h.1;omega,fun e=>by cases e⟩
 | fx a y =>
   obtain⟨_,h2,h3⟩:=h
   refine⟨?_,fun e=>by cases e⟩
   cases hd:(fgS 4 true (zl a) y).due with
   | true=>have:=h2 hd;omega
   | false=>have:=h3 hd;have:=Nat.mod_lt (fgS 4 true (zl a) y).out.length (show 4 > 0 by omega);omega
 | xs a y =>
   obtain⟨h1,h2⟩:=h
   refine⟨?_,fun e=>by cases e⟩
   by_cases hy:2<=y.length
   ·have:=h2 hy;omega
   ·omega
 | xd a y =>
   obtain⟨_,h2,h3⟩:=h
   refine⟨?_,fun e=>by cases e⟩
   cases hd:(fgS 8 false 1 y).due with
   | true=>exact h2 hd
   | false=>have:=h3 hd;have:=Nat.mod_lt (fgS 8 false 1 y).out.length (show 8 > 0 by omega);omega
 | xe a y t=>exact⟨h.1,fun e=>by cases e⟩
 | tail ok f l t =>
   obtain⟨h1,h2⟩:=h
   constructor
   ·by_cases ht:2<=t.length
    ·obtain⟨a,b,c⟩:=h2 ht
     cases ok with
     | true=>have:=b rfl;omega
     | false=>have:=c rfl;omega
    ·have:=h1 (by omega);omega
   ·intro e
    have:t.length=1:=by
     unfold zW at e
     by_cases hc:t.length=1/\ok=true
     ·exact hc.1
     ·simp only[if_neg hc]at e
      cases e
    have:=h1 (by omega)
    omega
 | fin s=>exact hl.elim
theorem runS_one(x:List Nat):(zq (x++[1])).2=if zl x=1 then(zq x).2+1 else 1:=by
 rw[z07]
 unfold z1I zl
 by_cases h:(zq x).1=1
 ·rw[if_pos h.symm,if_pos h]
 ·rw[if_neg (fun e=>h e.symm),if_neg h]
theorem fgS_one(E:Nat)(A:Bool)(p:Nat)(y:List Nat)(b:Nat):(fgS E A p (y++[b])).prev=b/\(fgS E A p (y++[b])).due=(!(fgS E A p y).due&&decide (((fgS E A p y).out++[b]).length%E=0))/\(fgS E A p (y++[b])).out=(if(fgS E A p y).due then(fgS E A p y).out else(fgS E A p y).out++[b])/\(fgS E A p (y++[b])).ok=((fgS E A p y).ok && !((fgS E A p y).due&&b==(fgS E A p y).prev)):=by
 rw[z0w]
 exact⟨rfl,rfl,rfl,rfl⟩
theorem fx_one {E:Nat} (hE:0 < E) {A:Bool} {p:Nat} {y:List Nat} {z:Nat} (h1:0 < z->(fgS E A p y).prev=1) (h2:(fgS E A p y).due=true->z<=E+1) (h3:(fgS E A p y).due=false->z<=(fgS E A p y).out.length%E+1) (hok:(fgS E A p (y++[1])).ok=true) :
    (fgS E A p (y++[1])).prev=1/\((fgS E A p (y++[1])).due=true->z+1<=E+1)/\((fgS E A p (y++[1])).due=false->z+1<=(fgS E A p (y++[1])).out.length%E+1)/\z+1<=E+1:=by
 obtain⟨e1,e2,e3,e4⟩:=fgS_one E A p y 1
 rw[e4]at hok
 rw[e1,e2,e3]
 generalize fgS E A p y=s at *
 have hlt:=Nat.mod_lt s.out.length hE
 cases hd:s.due with
 | true =>
   rw[hd]at hok
   have hz:z=0:=by
    by_cases hz:0 < z
    ·rw[h1 hz]at hok;simp at hok
    ·omega
   subst hz
   refine⟨rfl,fun q=>by simp at q,fun _=>by omega,by omega⟩
 | false =>
   have:=h3 hd
   have hm:(s.out++[1]).length%E=if s.out.length%E+1=E then 0 else s.out.length%E+1:=by
    rw[List.length_append,List.length_singleton,Nat.add_mod]
    by_cases hE1:E=1
    ·subst hE1;simp[Nat.mod_one]
    ·rw[Nat.mod_eq_of_lt (show 1 < E by omega)]
     by_cases hq:s.out.length%E+1=E
     ·rw[if_pos hq,hq,Nat.mod_self]
     ·rw[if_neg hq,Nat.mod_eq_of_lt (by omega)]
   refine⟨rfl,fun _=>by omega,fun q => ?_,by omega⟩
   simp only[Bool.not_false,Bool.true_and,decide_eq_false_iff_not]at q
   rw[if_neg (by simp)]
   rw[hm]at q ⊢
   by_cases hq:s.out.length%E+1=E
   ·rw[if_pos hq]at q;exact absurd rfl q
   ·rw[if_neg hq];omega
theorem afterJ_z{x l:List Nat}{z:Nat}(h5:z<=5)(hl:0 < z->zl x=1/\z<=(zq x).2)(j:Jd):zOk (z2T x l j) z:=by
 cases j with
 | on=>exact⟨h5,hl⟩
 | bad=>trivial
 | alien=>trivial
 | cl=>exact⟨fun _=>by simpa using h5,fun h=>by simp at h⟩
 | fd=>exact⟨fun hz=>(hl hz).1,fun _=>h5,fun h=>by cases h⟩
 | xl=>exact⟨by simpa using h5,fun h=>by simp at h⟩
theorem afterJ_fin{x l:List Nat}{j:Jd}{s:Sta}(h:z2T x l j = .fin s):s.k=3\/s.k=4:=by
 cases j<;>simp only[z2T,Ph.fin.injEq,reduceCtorEq]at h
 ·subst h;exact .inl rfl
 ·subst h;exact .inr rfl
theorem bad_k{e:Nat}{s:Sta}(h:Ph.fin (z1j e) = .fin s):s.k=3:=by
 cases h
 rfl
theorem z_one{kn:Bool}{p:Ph}{z:Nat}(h:zOk p z)(hl:liveP p)(hk:(zW p).k≠1):zOk (z09 kn p 1) (z+1)/\(∀s,z09 kn p 1 = .fin s->s.k=2->z=6):=by
 cases p with
 | fin s=>exact hl.elim
 | dyn x =>
   obtain⟨h1,h2⟩:=h
   have hr:=runS_one x
   have hlast:=z0I x 1
   simp only[z09]
   cases hf:full x with
   | true =>
     rw[if_pos rfl]
     by_cases hb:1=zl x
     ·rw[if_pos hb]
      exact⟨trivial,fun s e q=>by have:=bad_k e;omega⟩
     ·rw[if_neg hb]
      rw[if_neg (fun e=>hb e.symm)]at hr
      have hz:z=0:=by
       by_cases hz:0 < z
       ·exact absurd (h2 hz).1.symm hb
       ·omega
      subst hz
      exact⟨⟨by omega,fun _=>⟨hlast,by omega⟩⟩,fun s e=>by cases e⟩
   | false =>
     rw[if_neg (by simp)]
     have hlt:(zq x).2 < 5:=by
      unfold full at hf
      simpa using hf
     have hz:z+1<=5/\z+1<=(zq (x++[1])).2:=by
      rw[hr]
      by_cases hb:zl x=1
      ·rw[if_pos hb]
       by_cases hz:0 < z
       ·have:=(h2 hz).2;omega
       ·omega
      ·rw[if_neg hb]
       by_cases hz:0 < z
       ·exact absurd (h2 hz).1 hb
       ·omega
     exact⟨afterJ_z hz.1 (fun _=>⟨hlast,hz.2⟩) _,fun s e q=>by rcases afterJ_fin e with e | e<;>omega⟩
 | fx a y =>
   obtain⟨h1,h2,h3⟩:=h
   simp only[z09]
   cases hok:(fgS 4 true (zl a) (y++[1])).ok with
   | false=>exact⟨trivial,fun s e q=>by have:=bad_k e;omega⟩
   | true =>
     obtain⟨g1,g2,g3,g4⟩:=fx_one (by omega) h1 h2 h3 hok
     rw[if_pos rfl]
     split
     ·exact⟨⟨fun _=>by simpa using g4,fun q=>by simp at q⟩,fun s e=>by cases e⟩
     ·exact⟨⟨fun _=>g1,g2,g3⟩,fun s e=>by cases e⟩
 | xs a y =>
   obtain⟨h1,h2⟩:=h
   simp only[z09]
   by_cases hb:1=zy.getD y.length 0
   ·rw[if_pos hb]
    by_cases hy:y.length=3
    ·rw[if_pos hy]
     have:=h2 (by omega)
     subst this
     exact⟨⟨fun _=>rfl,fun _=>by omega,fun _=>Nat.le_refl 1⟩,fun s e=>by cases e⟩
    ·rw[if_neg hy]
     have h0:y.length=0:=by
      rcases(by omega:y.length=0\/y.length=1\/y.length=2\/4<=y.length)with q | q | q | q
      ·exact q
      ·rw[q]at hb;cases hb
      ·rw[q]at hb;cases hb
      ·simp[zy,List.getD,List.getElem?_eq_none (show [1,0,0,1].length<=y.length from q)]at hb
     exact⟨⟨by rw[List.length_append,List.length_singleton];omega,fun q=>by rw[List.length_append,List.length_singleton]at q;omega⟩,fun s e=>by cases e⟩
   ·rw[if_neg hb]
    exact⟨trivial,fun s e q=>by have:=bad_k e;omega⟩
 | xd a y =>
   obtain⟨h1,h2,h3⟩:=h
   simp only[z09]
   cases hok:(fgS 8 false 1 (y++[1])).ok with
   | false=>exact⟨trivial,fun s e q=>by have:=bad_k e;omega⟩
   | true =>
     obtain⟨g1,g2,g3,g4⟩:=fx_one (by omega) h1 h2 h3 hok
     rw[if_pos rfl]
     split
     ·exact⟨⟨g4,fun q=>by simp at q⟩,fun s e=>by cases e⟩
     ·exact⟨⟨fun _=>g1,g2,g3⟩,fun s e=>by cases e⟩
 | xe a y t =>
   obtain⟨h1,h2⟩:=h
   simp only[z09]
   by_cases hb:1=z0u.getD t.length 0
   ·rw[if_pos hb]
    have ht:t.length=1\/t.length=2:=by
     rcases(by omega:t.length=0\/t.length=1\/t.length=2\/t.length=3\/4<=t.length)with q | q | q | q | q
     ·rw[q]at hb;cases hb
     ·exact .inl q
     ·exact .inr q
     ·rw[q]at hb;cases hb
     ·simp[z0u,List.getD,List.getElem?_eq_none (show [0,1,1,0].length<=t.length from q)]at hb
    rw[if_neg (by omega)]
    have:=h2 (by omega)
    exact⟨⟨by omega,fun _=>by rw[List.length_append,List.length_singleton];omega⟩,fun s e=>by cases e⟩
   ·rw[if_neg hb]
    exact⟨trivial,fun s e q=>by have:=bad_k e;omega⟩
 | tail ok f l t =>
   obtain⟨h1,h2⟩:=h
   have hk':t.length=1->ok=false:=fun e=>by
    cases ok with
    | false=>rfl
    | true =>
      refine absurd ?_ hk
      show(if t.length=1/\true=true then _ else _:Sta).k=1
      rw[if_pos ⟨e,rfl⟩]
   simp only[z09]
   by_cases ha:t.length=2/\ok=false
   ·rw[if_pos ha]
    exact⟨trivial,fun s e q=>by have:=bad_k e;omega⟩
   rw[if_neg ha,if_neg (by omega)]
   by_cases h8:t.length=8
   ·rw[if_pos h8]
    refine⟨trivial,fun s e q => ?_⟩
    obtain⟨_,b,c⟩:=h2 (by omega)
    cases ok with
    | true=>have:=b rfl;omega
    | false=>have:=(c rfl).1;omega
   ·rw[if_neg h8]
    refine⟨⟨fun q => ?_,fun q => ?_⟩,fun s e=>by cases e⟩
    ·rw[List.length_append,List.length_singleton]at q ⊢
     have:=h1 (by omega)
     omega
    ·rw[List.length_append,List.length_singleton]at q ⊢
     by_cases ht:2<=t.length
     ·obtain⟨a,b,c⟩:=h2 ht
      refine⟨by omega,fun hok => ?_,fun hok => ?_⟩
      ·have:=b hok;omega
      ·have:=(c hok).1
       exact absurd ⟨this,hok⟩ ha
     ·have:=h1 (by omega)
      refine⟨by omega,fun hok => ?_,fun hok=>⟨by omega,by omega⟩⟩
      have:=hk' (by omega)
      rw[hok]at this
      cases this
def ntP:Ph->Prop
 | .tail _ _ _ _=>False
 | .fin _=>False
 | _=>True
theorem z_any{kn:Bool}{p:Ph}(hl:ntP p)(b:Nat):zOk (z09 kn p b) 0/\(∀s,z09 kn p b = .fin s->s.k≠2):=by
 cases p with
 | fin s=>exact hl.elim
 | tail ok f l t=>exact hl.elim
 | dyn x =>
   simp only[z09]
   split
   ·split
    ·exact⟨trivial,fun s e=>by have:=bad_k e;omega⟩
    ·exact⟨⟨by omega,fun q=>by omega⟩,fun s e=>by cases e⟩
   ·exact⟨afterJ_z (by omega) (fun q=>by omega) _,fun s e=>by rcases afterJ_fin e with e | e<;>omega⟩
 | fx a y =>
   simp only[z09]
   split
   ·split
    ·exact⟨⟨fun _=>by omega,fun q=>by simp at q⟩,fun s e=>by cases e⟩
    ·exact⟨⟨fun q=>by omega,fun _=>by omega,fun _=>by omega⟩,fun s e=>by cases e⟩
   ·exact⟨trivial,fun s e=>by have:=bad_k e;omega⟩
 | xs a y =>
   simp only[z09]
   split
   ·split
    ·exact⟨⟨fun q=>by omega,fun _=>by omega,fun _=>by omega⟩,fun s e=>by cases e⟩
    ·exact⟨⟨by omega,fun _=>rfl⟩,fun s e=>by cases e⟩
   ·exact⟨trivial,fun s e=>by have:=bad_k e;omega⟩
 | xd a y =>
   simp only[z09]
   split
   ·split
    ·exact⟨⟨by omega,fun q=>by simp at q⟩,fun s e=>by cases e⟩
    ·exact⟨⟨fun q=>by omega,fun _=>by omega,fun _=>by omega⟩,fun s e=>by cases e⟩
   ·exact⟨trivial,fun s e=>by have:=bad_k e;omega⟩
 | xe a y t =>
   simp only[z09]
   split
   ·split
    ·exact⟨⟨fun _=>by omega,fun q=>by simp at q⟩,fun s e=>by cases e⟩
    ·exact⟨⟨by omega,fun _=>by rw[List.length_append,List.length_singleton];omega⟩,fun s e=>by cases e⟩
   ·exact⟨trivial,fun s e=>by have:=bad_k e;omega⟩
theorem z_zero{kn:Bool}{p:Ph}(hl:liveP p):zOk (z09 kn p 0) 0/\(∀s,z09 kn p 0 = .fin s->s.k≠2):=by
 cases p with
 | fin s=>exact hl.elim
 | tail ok f l t =>
   simp only[z09]
   by_cases ha:t.length=2/\ok=false
   ·rw[if_pos ha]
    exact⟨trivial,fun s e=>by have:=bad_k e;omega⟩
   rw[if_neg ha]
   by_cases h1:t.length=1
   ·rw[if_neg (by omega),if_neg (by omega)]
    refine⟨⟨fun q => ?_,fun q => ?_⟩,fun s e=>by cases e⟩
    ·omega
    ·rw[List.length_append,List.length_singleton]
     exact⟨by omega,fun _=>by omega,fun _=>⟨by omega,by omega⟩⟩
   ·rw[if_pos ⟨h1,trivial⟩]
    exact⟨trivial,fun s e=>by have:=bad_k e;omega⟩
 | dyn x=>exact z_any (p := .dyn x) trivial 0
 | fx a y=>exact z_any (p := .fx a y) trivial 0
 | xs a y=>exact z_any (p := .xs a y) trivial 0
 | xd a y=>exact z_any (p := .xd a y) trivial 0
 | xe a y t=>exact z_any (p := .xe a y t) trivial 0
theorem vP_live{p:Ph}(h:liveP p):1<=vP p/\vP p<=2:=by
 cases p with
 | fin s=>exact h.elim
 | tail ok f l t=>by_cases h2:2<=t.length<;>simp[vP,h2]
 | _=>simp[vP]
theorem afterJ_v(x l:List Nat)(j:Jd):vP (z2T x l j)<=2:=by
 cases j with
 | cl=>unfold vP z2T;simp
 | _=>simp[z2T,vP]
theorem vP_le(p:Ph):vP p<=2:=by
 cases p with
 | tail ok f l t=>by_cases h2:2<=t.length<;>simp[vP,h2]
 | _=>simp[vP]
theorem vP_step{kn:Bool}(p:Ph)(b:Nat):vP (z09 kn p b)<=vP p/\((zW p).k=1->liveP p->vP (z09 kn p b) < vP p):=by
 cases p with
 | fin s=>exact⟨Nat.le_refl _,fun _ h=>h.elim⟩
 | tail ok f l t =>
   simp only[z09]
   have key:vP (if t.length=2/\ok=false then .fin (z1j 6)else if t.length≠1/\b=0 then .fin (z1j 5)else if t.length=8 then .fin ⟨2,0,f,l⟩else .tail ok f l (t++[b]))<=if 1<=t.length then 1 else 2:=by
    split
    ·exact Nat.zero_le _
    split
    ·exact Nat.zero_le _
    split
    ·exact Nat.zero_le _
    ·show(if 2<=(t++[b]).length then 1 else 2)<=_
     rw[List.length_append,List.length_singleton]
     split<;>split<;>omega
   have e:vP (.tail ok f l t)=if 2<=t.length then 1 else 2:=rfl
   rw[e]
   have ht:(zW (.tail ok f l t)).k=1->t.length=1:=fun hk=>by
    unfold zW at hk
    by_cases hc:t.length=1/\ok=true
    ·exact hc.1
    ·simp only[if_neg hc]at hk
     cases hk
   by_cases h2:2<=t.length
   ·rw[if_pos (show 1<=t.length by omega)]at key
    rw[if_pos h2]
    exact⟨key,fun hk _=>by have:=ht hk;omega⟩
   ·rw[if_neg h2]
    refine⟨Nat.le_trans key (by split<;>omega),fun hk _ => ?_⟩
    rw[if_pos (show 1<=t.length by have:=ht hk;omega)]at key
    exact Nat.lt_of_le_of_lt key (by omega)
 | dyn x=>exact⟨vP_le _,fun hk=>by cases hk⟩
 | fx a y=>exact⟨vP_le _,fun hk=>by cases hk⟩
 | xs a y=>exact⟨vP_le _,fun hk=>by cases hk⟩
 | xd a y=>exact⟨vP_le _,fun hk=>by cases hk⟩
 | xe a y t=>exact⟨vP_le _,fun hk=>by cases hk⟩
theorem live_k{p:Ph}(h:(zW p).k < 2)(hs:∀s,p = .fin s->2<=s.k):liveP p:=by
 cases p with
 | fin s=>have:=hs s rfl;exact absurd h (by show ¬s.k < 2;omega)
 | _=>trivial
theorem zeros_six(kn:Bool):scS kn [0,0,0,0,0,0] = .fin (z1j 4)/\∀m,1<=m->m<=5->scS kn (List.replicate m 0) = .dyn (List.replicate m 0):=by
 constructor
 ·rfl
 ·intro m h1 h2
  rcases(by omega:m=1\/m=2\/m=3\/m=4\/m=5)with rfl | rfl | rfl | rfl | rfl<;>rfl
end Go.Proofs.YtkjjfnmeogpdbaaGreatDoor
