/- Contracts of package scan, and more. Conditions: as each says. -/
import Derived.Test.YtplbmlpdefpplaaGreatDoorGd
import Derived.Test.YtplbmlpdefpplaaGreatDoorGm
set_option maxHeartbeats 6400000
set_option maxRecDepth 100000
namespace Go.Proofs.YtplbmlpdefpplaaGreatDoor
set_option linter.unusedVariables false
set_option linter.unusedSimpArgs false
open Go.RowKit
variable {kn:Bool} {x:List Nat} {R b:Nat} {F:Nat->Prop} {w:World}
def z0l(w:World)(v:Value)(kn:Bool)(x:List Nat)(F:Nat->Prop):Prop :=
 ∃R P D vn vd,v = .pointer (some ⟨R,0,none⟩)/\MS w R (goM kn x) vn vd P/\NxV w P R D (goM kn x).nx vn/\(∀b,F b↔Tm R vd b\/P b\/D b)/\(∀b,D b->¬Tm R vd b)/\(∀b,D b->b < w.heap.size)/\(∀b,D b->b≠1/\b≠0)/\(∀z∈x,z<=1)/\x.length<=65536
theorem z03{w':World}{v:Value}{G:Nat->Prop}(h:z0l w v kn x F)(hk:Kp G w w')(hn:∀k,F k->¬G k):z0l w' v kn x F:=by
 obtain⟨R,P,D,vn,vd,h1,h2,h3,h4,h5,h6,h8,h7,h9⟩:=h
 have hT:∀b,Tm R vd b->¬G b:=fun b hb=>hn b ((h4 b).2 (.inl hb))
 have hP:∀b,P b->¬G b:=fun b hb=>hn b ((h4 b).2 (.inr (.inl hb)))
 have hD:∀b,D b->¬G b:=fun b hb=>hn b ((h4 b).2 (.inr (.inr hb)))
 exact⟨R,P,D,vn,vd,h1,h2.keep hk hT hP,h3.keep (hk.sm hP) (hk.sm hD),h4,h5,fun b hb=>Nat.lt_of_lt_of_le (h6 b hb) hk.size,h8,h7,h9⟩
theorem z4i{v:Value}(h:z0l w v kn x F):∀k,F k->k < w.heap.size:=by
 obtain⟨R,P,D,vn,vd,h1,h2,h3,h4,h5,h6,h8,h7,h9⟩:=h
 intro k hk
 rcases(h4 k).1 hk with q | q | q
 ·exact h2.ltT k q
 ·exact h2.lt k q
 ·exact h6 k q
theorem Gd.bg{m:PM}(h:Gd kn x m)(hx:x.length<=70000):Bg m:=by
 have h1:=h.lo.a
 have h2:=h.lo.t
 have h3:=h.lo.i
 have h4:=h.lo.l
 have h5:=h.kk.lr
 have h6:=h.kk.lp
 exact⟨⟨by omega,by omega⟩,by omega,by omega,h.lo.e,h.kk.r,h.kk.p,by omega,by omega⟩
theorem Gd.next{m:PM}(h:Gd kn x m):m.raw = .stuffed\/m.raw = .spaced\/m.raw = .bare->m.nx ≠ .none:=by
 intro q
 rcases h.nn with ⟨_,e⟩ | ⟨_,e | e⟩
 ·rw[e]at q
  rcases q with q | q | q<;>cases q
 ·rw[e]at q
  rcases q with q | q | q<;>cases q
 ·exact e
theorem zfi (h:z0l w (.pointer (some ⟨R,0,none⟩)) kn x F) (hB:z0i w) (hb:b<=1) (hx:x.length < 65536) :
    Calls Tryz.prog 168 #[.pointer (some ⟨R,0,none⟩),.int .u8 b] w fun e w'=>e = .returned (.tuple #[])/\∃F',z0l w' (.pointer (some ⟨R,0,none⟩)) kn (x++[b]) F'/\Kp F w w'/\(∀k,F' k->F k\/w.heap.size<=k)/\z0i w':=by
 obtain⟨R',P,D,vn,vd,h1,h2,h3,h4,h5,h6,h8,h7,h9⟩:=h
 cases h1
 have gd:=zit kn h7 h9
 have hsz:=gd.seen
 refine(zdm R (goM kn x) vn vd P D b w h2 hB (gd.bg (by omega)) hb (by omega) h3 gd.next h5 h6).mono ?_
 rintro e w' ⟨rfl,P',D',vd',vn',t1,x1,y1⟩
 obtain⟨tb1,tb2⟩:=h2.tab hB
 have hB':z0i w':=hB.keep t1.kp (fun q=>by rcases q with q | q;exact tb1 q;exact(h8 _ q).1 rfl) (fun q=>by rcases q with q | q;exact tb2 q;exact(h8 _ q).2 rfl)
 obtain⟨D2,z1,z2,z3,z4,z4',z5,z6⟩:=x1.shrink t1.ms
 rw[<- zaX]at *
 refine⟨rfl,fun k=>Tm R vd' k\/P' k\/D2 k,⟨R,P',D2,vn',vd',rfl,t1.ms,z1,fun _=>Iff.rfl,z2,z6,z5 hB',?_,by simp;omega⟩,t1.kp.mono (fun k _ q => ?_),fun k hk => ?_,hB'⟩
 ·intro z hz
  rcases List.mem_append.1 hz with q | q
  ·exact h7 z q
  ·have:=List.mem_singleton.1 q;omega
 ·rcases q with q | q
  ·exact(h4 k).2 (.inl q)
  ·exact(h4 k).2 (.inr (.inr q))
 ·rcases hk with q | q | q
  ·rcases t1.hT k q with q | q
   ·exact .inl ((h4 k).2 (.inl q))
   ·exact .inr q
  ·rcases t1.hP k q with q | q | q
   ·exact .inl ((h4 k).2 (.inr (.inl q)))
   ·exact .inl ((h4 k).2 (.inl q))
   ·exact .inr q
  ·by_cases hn:(goM kn (x++[b])).nx = .none
   ·exact absurd q (z4' hn k)
   ·rcases(y1 k (z4 hn k q)).1 with q | q
    ·exact .inl ((h4 k).2 (.inr (.inr q)))
    ·exact .inr q
theorem zhQ(kn:Bool)(w:World)(hb:z0i w):Calls Tryz.prog 167 #[.bool kn] w fun e w'=>(∃v F,e = .returned v/\z0l w' v kn [] F/\∀k,F k->w.heap.size<=k)/\Nb w w':=by
 go_enter Tryz.func167,Tryz.ntmps167
 go_wp2
 go_ret
 refine⟨⟨_,fun b=>b=w.heap.size,rfl,⟨w.heap.size,fun _=>False,fun _=>False,.nilFunc,.slice none 0 0,rfl,⟨⟨.slice none 0 0,.slice none 0 0,.slice none 0 0,Blk.new w _ _,⟨none,0,rfl,Bs.nil _,by simp⟩,.inl ⟨rfl,rfl⟩,.inl ⟨rfl,rfl⟩⟩,z04.nil _,fun _=>rfl,fun _ h=>h.elim,fun _ h=>h.elim⟩,trivial,fun b => ?_,fun _ h=>h.elim,fun _ h=>h.elim,fun _ h=>h.elim,by simp,by simp⟩,?_⟩,Nb.rfl.al _⟩
 ·unfold Tm
  simp[Value.ownBlock]
 ·rintro k rfl
  exact Nat.le_refl _
def Sta.cs(s:Sta)(v:Value):Array Value:=#[.int .i64 s.k,.int .i64 s.e,.int .i64 s.f.K,.int .u32 s.f.I,.bool s.f.X,.bool s.f.R,.bool s.f.B,.bool s.f.E,.bool s.f.S,.int .u8 s.f.D,.int .u8 s.f.V,.int .u32 s.f.A,v]
theorem zff(v:Value)(kn:Bool)(x:List Nat)(F:Nat->Prop)(w:World)(h:z0l w v kn x F):Calls Tryz.prog 169 #[v] w fun e w'=>e = .returned (.int .i64 x.length)/\Nb w w':=by
 obtain⟨R,P,D,vn,vd,rfl,h2,h3,h4,h5,h6,h8,h7,h9⟩:=h
 have gd:=zit kn h7 h9
 obtain⟨vi,vR,vP,k1,_⟩:=h2.blk
 have c1:w.cell? ⟨R,1,none⟩=some (.int .i64 (goM kn x).seen):=k1.cell 1
 rw[gd.seen]at c1
 clear h2 h3 h4 h5 h6 h8 h7 h9 gd k1
 go_enter Tryz.func169,Tryz.ntmps169
 go_wp2
 go_ret
 exact⟨rfl,Nb.rfl⟩
theorem Blk.f13{u0 u1 u2 u3 u4 u5 u6 u7 u8 u9 u10 u11 u12:Value}{t:TypeId}(h:Blk w R #[u0,u1,u2,u3,u4,u5,u6,u7,u8,u9,u10,u11,u12] t):w.frozen? ⟨R,0,none⟩=false/\w.frozen? ⟨R,1,none⟩=false/\w.frozen? ⟨R,2,none⟩=false/\w.frozen? ⟨R,3,none⟩=false/\w.frozen? ⟨R,4,none⟩=false/\w.frozen? ⟨R,5,none⟩=false/\w.frozen? ⟨R,6,none⟩=false/\w.frozen? ⟨R,7,none⟩=false/\w.frozen? ⟨R,8,none⟩=false/\w.frozen? ⟨R,9,none⟩=false/\w.frozen? ⟨R,10,none⟩=false/\w.frozen? ⟨R,11,none⟩=false/\w.frozen? ⟨R,12,none⟩=false :=
 ⟨h.frozen 0,h.frozen 1,h.frozen 2,h.frozen 3,h.frozen 4,h.frozen 5,h.frozen 6,h.frozen 7,h.frozen 8,h.frozen 9,h.frozen 10,h.frozen 11,h.frozen 12⟩
def z2H(b:Nat):Nat->List Value->World->World
 | _,[],w=>w
 | o,v::vs,w=>z2H b (o+1) vs (w.setCell ⟨b,o,none⟩ v)
def zha:Nat->List Value->Array Value->Array Value
 | _,[],cs=>cs
 | o,v::vs,cs=>zha (o+1) vs (cs.setIfInBounds o v)
theorem z35(b:Nat):∀(o:Nat) (vs:List Value) (w:World),Kp (fun x=>x=b) w (z2H b o vs w)
 | _,[],_=>Kp.rfl
 | o,v::vs,w=>(Kp.set (F:=fun x=>x=b) (p:=⟨b,o,none⟩) rfl).tr (z35 b (o+1) vs _) (fun _ h => .inl h)
theorem z8r{t:TypeId}{cs:Array Value}(h:Blk w b cs t)(o:Nat)(vs:List Value):Blk (z2H b o vs w) b (zha o vs cs) t:=by
 induction vs generalizing o w cs with
 | nil=>exact h
 | cons v vs ih=>exact ih (h.set o v) (o+1)
theorem z6j (R:Nat) (kn:Bool) (x:List Nat) (F:Nat->Prop) (w:World) (h:z0l w (.pointer (some ⟨R,0,none⟩)) kn x F) :
    Calls Tryz.prog 113 #[.pointer (some ⟨R,0,none⟩)] w fun e w'=>(∃a c,e = .returned (.tuple #[z1V (zW (scS kn x)) (.slice a (zW (scS kn x)).l.length c),.int .i64 0])/\zf w w' (.slice a (zW (scS kn x)).l.length c) (zW (scS kn x)).l)/\Nb w w':=by
 obtain⟨R',P,D,vn,vd,h1,h2,h3,h4,h5,h6,h8,h7,h9⟩:=h
 cases h1
 have gd:=zit kn h7 h9
 obtain⟨vi,vR,vP,k1,k2,_⟩:=h2.blk
 have hR:=h2.ltR
 have hll:=gd.lo.s
 have gis:=gd.is
 obtain⟨a0,c0',rfl,hbs⟩:=k2
 have hb13:∀j,j < 13->w.cell? ⟨R,2+j,none⟩=(Sta.cs (goM kn x).is (.slice a0 (goM kn x).is.l.length c0'))[j]? := fun j hj=>by
  rw[k1.cell (2+j)]
  rcases(by omega:j=0\/j=1\/j=2\/j=3\/j=4\/j=5\/j=6\/j=7\/j=8\/j=9\/j=10\/j=11\/j=12)with rfl | rfl | rfl | rfl | rfl | rfl | rfl | rfl | rfl | rfl | rfl | rfl | rfl<;>rfl
 clear h2 h3 h4 h5 h6 h8 h7 k1
 rw[gis]at hbs hll hb13
 clear gis gd
 generalize zW (scS kn x)=s at *
 obtain⟨sk,se,⟨K,I,X,Rr,B,E,S,Dd,V,A⟩,sl⟩:=s
 simp only[z1V]
 obtain⟨hbs,-⟩:=hbs
 simp only[Sta.cs]at hbs hll hb13
 have n1:Nb w (w.alloc (.cells #[.int .i64 0,.int .i64 0,.int .i64 0,.int .u32 0,.bool false,.bool false,.bool false,.bool false,.bool false,.int .u8 0,.int .u8 0,.int .u32 0,.slice none 0 0] 173)):=Nb.rfl.al _
 have X0:=zH (Blk.new w #[.int .i64 0,.int .i64 0,.int .i64 0,.int .u32 0,.bool false,.bool false,.bool false,.bool false,.bool false,.int .u8 0,.int .u8 0,.int .u32 0,.slice none 0 0] 173)
 have CP:=zH (fun w' (n:Nb w w')=>zbq ⟨K,I,X,Rr,B,E,S,Dd,V,A⟩ a0 c0' sl w' (hbs.below n) (by omega))
 simp only[Hd.cs]at CP
 have c0:w.cell? ⟨R,2,none⟩=some (.int .i64 sk):=hb13 0 (by omega)
 have c1:w.cell? ⟨R,3,none⟩=some (.int .i64 se):=hb13 1 (by omega)
 have c2:w.cell? ⟨R,4,none⟩=some (.int .i64 K):=hb13 2 (by omega)
 have c3:w.cell? ⟨R,5,none⟩=some (.int .u32 I):=hb13 3 (by omega)
 have c4:w.cell? ⟨R,6,none⟩=some (.bool X):=hb13 4 (by omega)
 have c5:w.cell? ⟨R,7,none⟩=some (.bool Rr):=hb13 5 (by omega)
 have c6:w.cell? ⟨R,8,none⟩=some (.bool B):=hb13 6 (by omega)
 have c7:w.cell? ⟨R,9,none⟩=some (.bool E):=hb13 7 (by omega)
 have c8:w.cell? ⟨R,10,none⟩=some (.bool S):=hb13 8 (by omega)
 have c9:w.cell? ⟨R,11,none⟩=some (.int .u8 Dd):=hb13 9 (by omega)
 have c10:w.cell? ⟨R,12,none⟩=some (.int .u8 V):=hb13 10 (by omega)
 have c11:w.cell? ⟨R,13,none⟩=some (.int .u32 A):=hb13 11 (by omega)
 have c12:w.cell? ⟨R,14,none⟩=some (.slice a0 sl.length c0'):=hb13 12 (by omega)
 clear hb13 hbs n1
 go_enter Tryz.func113,Tryz.ntmps113
 go_wp2_with fail
 refine(CP.out _ ((Nb.rfl.al _).al _)).mono ?_
 rintro e w1 ⟨⟨a1,ca,rfl,hfr⟩,n1⟩
 have hf:=(X0.out.nb (Nb.rfl.al (.cells #[.int .i64 sk,.int .i64 se,.int .i64 K,.int .u32 I,.bool X,.bool Rr,.bool B,.bool E,.bool S,.int .u8 Dd,.int .u8 V,.int .u32 A,.slice a0 sl.length c0'] 173))).nb n1
 have hx:=(Blk.new (w.alloc (.cells #[.int .i64 0,.int .i64 0,.int .i64 0,.int .u32 0,.bool false,.bool false,.bool false,.bool false,.bool false,.int .u8 0,.int .u8 0,.int .u32 0,.slice none 0 0] 173)) #[.int .i64 sk,.int .i64 se,.int .i64 K,.int .u32 I,.bool X,.bool Rr,.bool B,.bool E,.bool S,.int .u8 Dd,.int .u8 V,.int .u32 A,.slice a0 sl.length c0'] 173).nb n1
 rw[World.size_alloc]at hx
 have M:=zH (((Nb.rfl.al _).al _).tr n1:Nb w w1)
 obtain⟨x0,x1,x2,x3,x4,x5,x6,x7,x8,x9,x10,x11,x12⟩:=hf.c13
 obtain⟨y0,y1,y2,y3,y4,y5,y6,y7,y8,y9,y10,y11,y12⟩:=hf.f13
 obtain⟨d0,d1,d2,d3,d4,d5,d6,d7,d8,d9,d10,d11,d12⟩:=hx.c13
 obtain⟨g0,g1,g2,g3,g4,g5,g6,g7,g8,g9,g10,g11,g12⟩:=hx.f13
 have FR:=zH hfr
 have HF:=zH hf
 have HX:=zH hx
 have kW:Kp (fun x=>x=w.heap.size\/x=w.heap.size+1) w1 (z2H w.heap.size 0 [.int .i64 sk,.int .i64 se,.int .i64 K,.int .u32 I,.bool X,.bool Rr,.bool B,.bool E,.bool S,.int .u8 Dd,.int .u8 V,.int .u32 A,.slice a1 sl.length ca] (z2H (w.heap.size+1) 2 [.int .i64 K,.int .u32 I,.bool X,.bool Rr,.bool B,.bool E,.bool S,.int .u8 Dd,.int .u8 V,.int .u32 A,.slice a1 sl.length ca] w1)) :=
  ((z35 _ _ _ _).mono (F':=fun x=>x=w.heap.size\/x=w.heap.size+1) (fun _ _ h => .inr h)).tr ((z35 _ _ _ _).mono (F':=fun x=>x=w.heap.size\/x=w.heap.size+1) (fun _ _ h => .inl h)) (fun _ h => .inl h)
 have bW:Blk (z2H w.heap.size 0 [.int .i64 sk,.int .i64 se,.int .i64 K,.int .u32 I,.bool X,.bool Rr,.bool B,.bool E,.bool S,.int .u8 Dd,.int .u8 V,.int .u32 A,.slice a1 sl.length ca] (z2H (w.heap.size+1) 2 [.int .i64 K,.int .u32 I,.bool X,.bool Rr,.bool B,.bool E,.bool S,.int .u8 Dd,.int .u8 V,.int .u32 A,.slice a1 sl.length ca] w1)) w.heap.size #[.int .i64 sk,.int .i64 se,.int .i64 K,.int .u32 I,.bool X,.bool Rr,.bool B,.bool E,.bool S,.int .u8 Dd,.int .u8 V,.int .u32 A,.slice a1 sl.length ca] 173:=by
  have:=z8r (hf.keep (z35 (w.heap.size+1) 2 [.int .i64 K,.int .u32 I,.bool X,.bool Rr,.bool B,.bool E,.bool S,.int .u8 Dd,.int .u8 V,.int .u32 A,.slice a1 sl.length ca] w1) (by omega)) 0 [.int .i64 sk,.int .i64 se,.int .i64 K,.int .u32 I,.bool X,.bool Rr,.bool B,.bool E,.bool S,.int .u8 Dd,.int .u8 V,.int .u32 A,.slice a1 sl.length ca]
  simpa [zha]using this
 have nW:=zH (M.out.trans (kW.toBelow M.out.size (fun k hk=>by omega)))
 have fW:zf w (z2H w.heap.size 0 [.int .i64 sk,.int .i64 se,.int .i64 K,.int .u32 I,.bool X,.bool Rr,.bool B,.bool E,.bool S,.int .u8 Dd,.int .u8 V,.int .u32 A,.slice a1 sl.length ca] (z2H (w.heap.size+1) 2 [.int .i64 K,.int .u32 I,.bool X,.bool Rr,.bool B,.bool E,.bool S,.int .u8 Dd,.int .u8 V,.int .u32 A,.slice a1 sl.length ca] w1)) (.slice a1 sl.length ca) sl:=⟨hfr.1.keep kW (fun g hg h=>by
     have:=hfr.2 g hg
     simp at this
     omega),fun g hg=>by
     have:=hfr.2 g hg
     simp at this
     omega⟩
 have BW:=zH bW
 have FW:=zH fW
 clear hf hx hfr n1 X0 CP c0 c1 c2 c3 c4 c5 c6 c7 c8 c9 c10 c11 c12 kW bW fW
 go_wp2
 change bodyPost _ _ _ _ _ (z2H w.heap.size 0 [.int .i64 sk,.int .i64 se,.int .i64 K,.int .u32 I,.bool X,.bool Rr,.bool B,.bool E,.bool S,.int .u8 Dd,.int .u8 V,.int .u32 A,.slice a1 sl.length ca] (z2H (w.heap.size+1) 2 [.int .i64 K,.int .u32 I,.bool X,.bool Rr,.bool B,.bool E,.bool S,.int .u8 Dd,.int .u8 V,.int .u32 A,.slice a1 sl.length ca] w1))
 generalize (z2H w.heap.size 0 [.int .i64 sk,.int .i64 se,.int .i64 K,.int .u32 I,.bool X,.bool Rr,.bool B,.bool E,.bool S,.int .u8 Dd,.int .u8 V,.int .u32 A,.slice a1 sl.length ca] (z2H (w.heap.size+1) 2 [.int .i64 K,.int .u32 I,.bool X,.bool Rr,.bool B,.bool E,.bool S,.int .u8 Dd,.int .u8 V,.int .u32 A,.slice a1 sl.length ca] w1))=W at *
 obtain⟨e0,e1,e2,e3,e4,e5,e6,e7,e8,e9,e10,e11,e12⟩:=BW.out.c13
 exact bodyPost_ret (v := .tuple #[.agg #[.int .i64 sk,.int .i64 se,.int .i64 K,.int .u32 I,.bool X,.bool Rr,.bool B,.bool E,.bool S,.int .u8 Dd,.int .u8 V,.int .u32 A,.slice a1 sl.length ca],.int .i64 0]) (by simp[results,Tryz.results113,go_sem,e0,e1,e2,e3,e4,e5,e6,e7,e8,e9,e10,e11,e12]) rfl ⟨⟨_,_,rfl,FW.out⟩,nW.out⟩
theorem z9v (v:Value) (kn:Bool) (x:List Nat) (F:Nat->Prop) (w:World) (h:z0l w v kn x F) (_hB:z0i w) :
    Calls Tryz.prog 113 #[v] w fun e w'=>zma (zW (scS kn x)) 0 e w'/\Nb w w':=by
 obtain⟨R,hv⟩:∃R,v = .pointer (some ⟨R,0,none⟩):=by
  obtain⟨R,_,_,_,_,h1,_⟩:=h
  exact⟨R,h1⟩
 subst hv
 refine(z6j R kn x F w h).mono ?_
 rintro e w' ⟨⟨a,c,rfl,f⟩,n⟩
 exact⟨⟨a,c,rfl,f.1.asBs.1⟩,n⟩
theorem zbs(v:Value)(kn:Bool)(x:List Nat)(F:Nat->Prop)(b:Nat)(w:World)(hm:z0l w v kn x F)(hb:b<=1)(hlen:x.length<=65000)(hB:z0i w):Calls Tryz.prog 139 #[v,.int .u8 b] w (zl4 z0l w v kn (x++[b]) F):=by
 obtain⟨R,hv⟩:∃R,v = .pointer (some ⟨R,0,none⟩):=by
  obtain⟨R,_,_,_,_,h1,_⟩:=hm
  exact⟨R,h1⟩
 subst hv
 have HM:=zH hm
 have HB:=zH hB
 have d:decide ((1:Int) < (b:Int))=false:=by simp;omega
 clear hm hB
 go_enter Tryz.func139,Tryz.ntmps139
 go_wp2_with fail
 have X0:=zH (Blk.new w #[.int .i64 0,.int .i64 0,.int .i64 0,.int .u32 0,.bool false,.bool false,.bool false,.bool false,.bool false,.int .u8 0,.int .u8 0,.int .u32 0,.slice none 0 0] 173)
 have n0:Nb w (w.alloc (.cells #[.int .i64 0,.int .i64 0,.int .i64 0,.int .u32 0,.bool false,.bool false,.bool false,.bool false,.bool false,.int .u8 0,.int .u8 0,.int .u32 0,.slice none 0 0] 173)):=Nb.rfl.al _
 have hm0:=z03 HM.out (Kp.ofNb (F:=fun _=>False) n0) (fun _ _ h=>h)
 refine(zfi hm0 (HB.out.below n0) hb (by omega)).mono ?_
 rintro e w1 ⟨rfl,F1,m1,k1,h1,b1⟩
 have N0:=zH n0
 have hs0:(w.alloc (.cells #[.int .i64 0,.int .i64 0,.int .i64 0,.int .u32 0,.bool false,.bool false,.bool false,.bool false,.bool false,.int .u8 0,.int .u8 0,.int .u32 0,.slice none 0 0] 173)).heap.size=w.heap.size+1:=by rw[World.size_alloc]
 have HS0:=zH hs0
 have hF:=zH (z4i HM.out)
 have X1:=zH (X0.out.keep k1 (fun h=>by have:=hF.out _ h;omega))
 have M1:=zH m1
 have K1:=zH k1
 have H1:=zH h1
 clear m1 k1 h1 b1 hm0 n0 hs0 X0
 go_wp2_with fail
 refine(z6j R kn (x++[b]) F1 w1 M1.out).mono ?_
 obtain⟨s,hs⟩:∃s,zW (scS kn (x++[b]))=s:=⟨_,rfl⟩
 rw[hs]
 have HS:=zH hs
 clear hs
 obtain⟨sk,se,⟨K,I,X,Rr,B,E,S,Dd,V,A⟩,sl⟩:=s
 simp only[z1V]
 rintro e w2 ⟨⟨a1,ca,rfl,fr⟩,n2⟩
 have hf:=X1.out.nb n2
 have hlt:=X1.out.lt
 have kW:Kp (fun x=>x=w.heap.size) w1 (z2H w.heap.size 0 [.int .i64 sk,.int .i64 se,.int .i64 K,.int .u32 I,.bool X,.bool Rr,.bool B,.bool E,.bool S,.int .u8 Dd,.int .u8 V,.int .u32 A,.slice a1 sl.length ca] w2):=(Kp.ofNb n2).tr (z35 _ _ _ _) (fun _ h => .inl h)
 have bW:Blk (z2H w.heap.size 0 [.int .i64 sk,.int .i64 se,.int .i64 K,.int .u32 I,.bool X,.bool Rr,.bool B,.bool E,.bool S,.int .u8 Dd,.int .u8 V,.int .u32 A,.slice a1 sl.length ca] w2) w.heap.size #[.int .i64 sk,.int .i64 se,.int .i64 K,.int .u32 I,.bool X,.bool Rr,.bool B,.bool E,.bool S,.int .u8 Dd,.int .u8 V,.int .u32 A,.slice a1 sl.length ca] 173:=by
  have:=z8r hf 0 [.int .i64 sk,.int .i64 se,.int .i64 K,.int .u32 I,.bool X,.bool Rr,.bool B,.bool E,.bool S,.int .u8 Dd,.int .u8 V,.int .u32 A,.slice a1 sl.length ca]
  simpa [zha]using this
 have eW:Bs (z2H w.heap.size 0 [.int .i64 sk,.int .i64 se,.int .i64 K,.int .u32 I,.bool X,.bool Rr,.bool B,.bool E,.bool S,.int .u8 Dd,.int .u8 V,.int .u32 A,.slice a1 sl.length ca] w2) a1 ca sl:=fr.1.asBs.1.keepKp (z35 _ _ _ _) (fun g o t e h=>by
  have:=fr.2 g (by rw[e];rfl)
  omega)
 have gW:∀g o t,a1=some ⟨g,o,t⟩->w.heap.size<=g:=fun g o t e=>by
  have:=fr.2 g (by rw[e];rfl)
  omega
 obtain⟨y0,y1,y2,y3,y4,y5,y6,y7,y8,y9,y10,y11,y12⟩:=hf.f13
 obtain⟨x0,x1,x2,x3,x4,x5,x6,x7,x8,x9,x10,x11,x12⟩:=hf.c13
 have KW:=zH kW
 have BW:=zH bW
 have EW:=zH eW
 have GW:=zH gW
 clear kW bW eW gW hf fr n2 X1
 go_wp2
 change bodyPost _ _ _ _ _ (z2H w.heap.size 0 [.int .i64 sk,.int .i64 se,.int .i64 K,.int .u32 I,.bool X,.bool Rr,.bool B,.bool E,.bool S,.int .u8 Dd,.int .u8 V,.int .u32 A,.slice a1 sl.length ca] w2)
 generalize (z2H w.heap.size 0 [.int .i64 sk,.int .i64 se,.int .i64 K,.int .u32 I,.bool X,.bool Rr,.bool B,.bool E,.bool S,.int .u8 Dd,.int .u8 V,.int .u32 A,.slice a1 sl.length ca] w2)=W at *
 obtain⟨e0,e1,e2,e3,e4,e5,e6,e7,e8,e9,e10,e11,e12⟩:=BW.out.c13
 have hz:=HS0.out
 refine bodyPost_ret (v := .tuple #[.agg #[.int .i64 sk,.int .i64 se,.int .i64 K,.int .u32 I,.bool X,.bool Rr,.bool B,.bool E,.bool S,.int .u8 Dd,.int .u8 V,.int .u32 A,.slice a1 sl.length ca],.int .i64 0]) (by simp[results,Tryz.results139,go_sem,e0,e1,e2,e3,e4,e5,e6,e7,e8,e9,e10,e11,e12]) rfl ?_
 unfold zl4
 rw[HS.out]
 refine⟨F1,⟨_,_,rfl,EW.out,fun g o t e => .inr (GW.out g o t e)⟩,z03 M1.out KW.out (fun k hk e => ?_),((Kp.ofNb N0.out).tr K1.out (fun _ h => .inl h)).tr KW.out (fun k h => .inr (by omega)),fun k hk => ?_⟩
 ·rcases H1.out k hk with q | q
  ·have:=hF.out k q;omega
  ·omega
 ·rcases H1.out k hk with q | q
  ·exact .inl q
  ·exact .inr (by omega)
end Go.Proofs.YtplbmlpdefpplaaGreatDoor
