/- Contracts of package fd's Body, Most, sumOf and way, and more. Conditions: as each says. -/
import Derived.Test.YtplbmlpdefpplaaGreatDoorRwC
import Derived.Test.YtplbmlpdefpplaaGreatDoorFdP
import Derived.Test.YtplbmlpdefpplaaGreatDoorClaR
import Derived.Test.YtplbmlpdefpplaaGreatDoorXlM
set_option maxHeartbeats 8000000
set_option maxRecDepth 100000
namespace Go.Proofs.YtplbmlpdefpplaaGreatDoor
set_option linter.unusedVariables false
set_option linter.unusedSimpArgs false
open Go.RowKit
variable {l:List Nat} {t:TypeId} {w w2:World}
theorem zhE:zc 2 4=[0,0,1,0]:=by decide
theorem zfV (f:Hd) (a:Option Addr) (cap:Nat) (l:List Nat) (w:World) (hL:l.length<=9223372036854775807) (hK:(f.K==2)=false) :
    Calls Tryz.prog 130 #[.agg (f.cs (.slice a l.length cap))] w fun e w'=>zcT w [] 2 e w'/\Nb w w':=by
 obtain⟨K,I,X,R,B,E,S,D,V,A⟩:=f
 simp only[Hd.cs]
 have d:(K != 2)=true:=by simpa [bne]using hK
 clear hK
 go_enter Tryz.func130,Tryz.ntmps130
 go_wp2
 go_ret2
 exact⟨⟨_,_,rfl,zf.nil _ _⟩,Nb.rfl.al _⟩
theorem zd9 (f:Hd) (a:Option Addr) (cap:Nat) (l:List Nat) (w:World) (h:Bs w a cap l) (hl:zV w) (hK:f.K=2) (ho:okF f l=false) :
    Calls Tryz.prog 130 #[.agg (f.cs (.slice a l.length cap))] w fun e w'=>zcT w [] 2 e w'/\Nb w w':=by
 have hL:=h.len
 have hc:=z0J f a cap l _ (h.below (Nb.rfl.al (.cells (f.cs (.slice a l.length cap)) 37))) (hl.below (Nb.rfl.al (.cells (f.cs (.slice a l.length cap)) 37)))
 rw[show zt f l=2 by simp[zt,ho]]at hc
 obtain⟨K,I,X,R,B,E,S,D,V,A⟩:=f
 simp only at hK
 subst hK
 simp only[Hd.cs]at hc ⊢
 have HC:=zH hc
 clear hc h hl ho
 go_enter Tryz.func130,Tryz.ntmps130
 go_wp2_with fail
 refine HC.out.mono ?_
 rintro e w1 ⟨rfl,n1⟩
 go_wp2
 go_ret2
 exact⟨⟨_,_,rfl,zf.nil _ _⟩,(Nb.rfl.al _).tr n1⟩
theorem zhR (B E:Bool) (i:Nat) (a:Option Addr) (cap:Nat) (l:List Nat) (w:World) (h:Bs w a cap l) (hok:okD ⟨2,(i:Int),false,false,B,E,false,0,0,0⟩ l=true) (hl:zV w) :
    Calls Tryz.prog 130 #[.agg (Hd.cs ⟨2,(i:Int),false,false,B,E,false,0,0,0⟩ (.slice a l.length cap))] w fun e w'=>zcT w (z0F B E i l) 0 e w'/\Nb w w':=by
 obtain⟨j,_,ej,hh,hi⟩:=z1Q hok (Int.natCast_nonneg i)
 have ej':i=j:=by simpa using ej
 subst ej'
 obtain⟨h64,hc16,hcE,_⟩:=zlb hh
 have hokF:okF ⟨2,(i:Int),false,false,B,E,false,0,0,0⟩ l=true:=by simpa [okD]using hok
 have P1:=zH (fun w' (n:Nb w w')=>by
  have:=z0J ⟨2,(i:Int),false,false,B,E,false,0,0,0⟩ a cap l w' (h.below n) (hl.below n)
  rw[show zt ⟨2,(i:Int),false,false,B,E,false,0,0,0⟩ l=0 by simp[zt,hokF]]at this
  simp only[Hd.cs]at this
  exact this)
 have hp2:=fun w' (n:Nb w w')=>by
  have:=z4X 2 (l.length:Int) w' (hl.below n)
  rw[hcE]at this
  exact this
 obtain⟨c,hc⟩:∃c,z0s 2 (l.length:Int)=c:=⟨_,rfl⟩
 have EQ:=zH (show zc 0 1++zc i 11++zc 2 4++zc (zP B) 1++zc (zP E) 1++zc c 4++ze l=z0F B E i l by rw[<- hc];simp[z0F,headD,z4W,zhE,z4Q])
 rw[hc]at hc16 hp2
 have P2:=zH hp2
 have HL:=zH h
 have hL:=h.len
 have hmf:∀(fn:Fn) (first cap:Array Value) (w:World),(Instr.makeFunc fn first cap).run Tryz.prog w = .ok (.func fn first cap) w:=fun _ _ _ _=>rfl
 clear h hok hokF hl hp2 hh hcE hc ej
 simp only[Hd.cs]
 go_enter Tryz.func130,Tryz.ntmps130
 go_wp2_with fail
 refine(P1.out _ (Nb.rfl.al _)).mono ?_
 rintro e w2 ⟨rfl,n2⟩
 have m2:Nb w w2:=(Nb.rfl.al _).tr n2
 have b2:=(Blk.new w _ _).nb n2
 obtain⟨c0,c1,c2,c3,c4,c5,c6,c7,c8,c9,c10⟩:=b2.c11
 go_wp2_with fail
 refine(P2.out _ m2).mono ?_
 rintro e w3 ⟨rfl,n3⟩
 have m3:Nb w w3:=m2.tr n3
 have hs3:w.heap.size+1<=w3.heap.size:=by have:=(n2.tr n3).size;simpa using this
 have b3:=zH (b2.nb n3)
 have lt3:w.heap.size < w3.heap.size:=hs3
 have ne3:¬w.heap.size=w3.heap.size:=by omega
 clear b2 n2 n3 m2
 obtain⟨c0,c1,c2,c3,c4,c5,c6,c7,c8,c9,c10⟩:=b3.out.c11
 go_wp2_with fail
 obtain⟨w4,hw4⟩:∃w4,w4=w3.alloc (.cells #[.slice none 0 0] 205):=⟨_,rfl⟩
 have r4:z1k w4 205 w3.heap.size (.slice none 0 0) []:=by rw[hw4];exact⟨Blk.new _ _ _,z04.nil _,by simp[Value.ownBlock]⟩
 have m4:Nb w w4:=by rw[hw4];exact m3.al _
 have b4:=zH (b3.out.nb (show Nb w3 w4 by rw[hw4];exact Nb.rfl.al _))
 have NF:=zH (show ¬z2V w3.heap.size (.slice none 0 0) w.heap.size by rintro(h | h);omega;simp[Value.ownBlock]at h)
 have hR:w.heap.size<=w3.heap.size:=by omega
 have s4:zm w4 205 w3.heap.size (.slice none 0 0) [] w4:=⟨_,r4,Kp.rfl,fun _ h => .inl h⟩
 rw[<- hw4]
 clear hw4 r4
 have S:=zH s4
 clear s4
 obtain⟨v5,r5,k5,f5⟩:=S.out
 obtain⟨c0,c1,c2,c3,c4,c5,c6,c7,c8,c9,c10⟩:=(b4.out.keep k5 NF.out).c11
 go_wp2_with fail
 refine(zO w3.heap.size v5 _ 0 1 _ r5 (by omega) (by omega) (by decide) (by(try simp only[List.length_append,zb,List.length_nil]);omega)).mono ?_
 rintro e x1 ⟨rfl,s5⟩
 have S:=zH (zm.tr2 k5 f5 s5)
 clear s5 r5 k5 f5 c0 c1 c2 c3 c4 c5 c6 c7 c8 c9 c10
 obtain⟨v5,r5,k5,f5⟩:=S.out
 obtain⟨c0,c1,c2,c3,c4,c5,c6,c7,c8,c9,c10⟩:=(b4.out.keep k5 NF.out).c11
 go_wp2_with fail
 refine(zO w3.heap.size v5 _ i 11 _ r5 (by omega) (by omega) (by omega) (by(try simp only[List.length_append,zb,List.length_nil]);omega)).mono ?_
 rintro e x2 ⟨rfl,s5⟩
 have S:=zH (zm.tr2 k5 f5 s5)
 clear s5 r5 k5 f5 c0 c1 c2 c3 c4 c5 c6 c7 c8 c9 c10
 obtain⟨v5,r5,k5,f5⟩:=S.out
 obtain⟨c0,c1,c2,c3,c4,c5,c6,c7,c8,c9,c10⟩:=(b4.out.keep k5 NF.out).c11
 go_wp2_with fail
 refine(zO w3.heap.size v5 _ 2 4 _ r5 (by omega) (by omega) (by decide) (by(try simp only[List.length_append,zb,List.length_nil]);omega)).mono ?_
 rintro e x3 ⟨rfl,s5⟩
 have S:=zH (zm.tr2 k5 f5 s5)
 clear s5 r5 k5 f5 c0 c1 c2 c3 c4 c5 c6 c7 c8 c9 c10
 obtain⟨v5,r5,k5,f5⟩:=S.out
 obtain⟨c0,c1,c2,c3,c4,c5,c6,c7,c8,c9,c10⟩:=(b4.out.keep k5 NF.out).c11
 go_wp2_with fail
 refine(z2N B _).mono ?_
 rintro e w4' ⟨rfl,rfl⟩
 go_wp2_with fail
 refine(zO w3.heap.size v5 _ (zP B) 1 _ r5 (by omega) (by omega) (by have:=zQ B;omega) (by(try simp only[List.length_append,zb,List.length_nil]);omega)).mono ?_
 rintro e x4 ⟨rfl,s5⟩
 have S:=zH (zm.tr2 k5 f5 s5)
 clear s5 r5 k5 f5 c0 c1 c2 c3 c4 c5 c6 c7 c8 c9 c10
 obtain⟨v5,r5,k5,f5⟩:=S.out
 obtain⟨c0,c1,c2,c3,c4,c5,c6,c7,c8,c9,c10⟩:=(b4.out.keep k5 NF.out).c11
 go_wp2_with fail
 refine(z2N E _).mono ?_
 rintro e w4' ⟨rfl,rfl⟩
 go_wp2_with fail
 refine(zO w3.heap.size v5 _ (zP E) 1 _ r5 (by omega) (by omega) (by have:=zQ E;omega) (by(try simp only[List.length_append,zb,List.length_nil]);omega)).mono ?_
 rintro e x5 ⟨rfl,s5⟩
 have S:=zH (zm.tr2 k5 f5 s5)
 clear s5 r5 k5 f5 c0 c1 c2 c3 c4 c5 c6 c7 c8 c9 c10
 obtain⟨v5,r5,k5,f5⟩:=S.out
 obtain⟨c0,c1,c2,c3,c4,c5,c6,c7,c8,c9,c10⟩:=(b4.out.keep k5 NF.out).c11
 go_wp2_with fail
 refine(zO w3.heap.size v5 _ c 4 _ r5 (by omega) (by omega) (by omega) (by(try simp only[List.length_append,zb,List.length_nil]);omega)).mono ?_
 rintro e x6 ⟨rfl,s5⟩
 have S:=zH (zm.tr2 k5 f5 s5)
 clear s5 r5 k5 f5 c0 c1 c2 c3 c4 c5 c6 c7 c8 c9 c10
 obtain⟨v5,r5,k5,f5⟩:=S.out
 obtain⟨c0,c1,c2,c3,c4,c5,c6,c7,c8,c9,c10⟩:=(b4.out.keep k5 NF.out).c11
 go_wp2_with fail
 refine(z4c w3.heap.size v5 _ a cap l _ r5 (HL.out.below (S.out.below m4 hR)) (by simp only[List.length_append,zb,List.length_nil];omega) (by simp only[List.length_append,zb,List.length_nil];omega) (by omega)).mono ?_
 rintro e w7 ⟨rfl,s7⟩
 have s8:=zm.tr2 k5 f5 s7
 rw[List.nil_append,EQ.out]at s8
 have nr:Nb w w7:=s8.below m4 hR
 obtain⟨a7,d7,y7,f7⟩:=s8.fresh m4 hR
 have F7:=zH f7
 clear s8 s7 f7 r5 k5 f5 S c0 c1 c2 c3 c4 c5 c6 c7 c8 c9 c10
 go_wp2
 go_ret2
 exact⟨⟨a7,d7,rfl,F7.out⟩,nr⟩
theorem z8c (f:Hd) (a:Option Addr) (cap:Nat) (l:List Nat) (w:World) (h:Bs w a cap l) (hI:0<=f.I) (hl:zV w) :
    Calls Tryz.prog 130 #[.agg (f.cs (.slice a l.length cap))] w fun e w'=>zcT w (bdC f l) (z3w f l) e w'/\Nb w w':=by
 cases hok:okD f l with
 | true =>
   obtain⟨i,ef,et,_⟩:=z1Q hok hI
   rw[show bdC f l=z0F f.B f.E i l by rw[bdC,if_pos hok,et],show z3w f l=0 by rw[z3w,if_pos hok]]
   have hok2:okD ⟨2,(i:Int),false,false,f.B,f.E,false,0,0,0⟩ l=true:=by rw[<- ef];exact hok
   have:=zhR f.B f.E i a cap l w h hok2 hl
   rw[<- ef]at this
   exact this
 | false =>
   rw[show bdC f l=[] by simp[bdC,hok],show z3w f l=2 by simp[z3w,hok]]
   cases hK:f.K==2 with
   | false=>exact zfV f a cap l w h.len hK
   | true=>exact zd9 f a cap l w h hl (by simpa using hK) (by simpa [okD,hK]using hok)
theorem zf2(n:Nat)(w:World):Calls Tryz.prog 132 #[.int .i64 (n:Int)] w fun e w'=>e = .returned (.int .i64 (zx n:Nat))/\w=w':=by
 by_cases h:16 < n
 ·have d:decide ((n:Int)<=16)=false:=by simp;omega
  rw[show zx n=3 by simp[zx,h]]
  clear h
  go_enter Tryz.func132,Tryz.ntmps132
  go_wp2
  go_ret
  exact⟨rfl,rfl⟩
 ·have d:decide ((n:Int)<=16)=true:=by simp;omega
  rw[show zx n=2 by simp[zx,h]]
  clear h
  go_enter Tryz.func132,Tryz.ntmps132
  go_wp2
  go_ret
  exact⟨rfl,rfl⟩
theorem zhO(w:World):Calls Tryz.prog 158 #[] w fun e w'=>e = .returned (.agg #[.int .i64 4,.bool true])/\Nb w w':=by
 go_enter Tryz.func158,Tryz.ntmps158
 go_wp2
 refine bodyPost_ret (v := .agg #[.int .i64 4,.bool true]) (by simp[results,Tryz.results158,go_sem]) rfl ⟨rfl,Nb.rfl.al _⟩
theorem z9x(w:World):Calls Tryz.prog 53 #[] w fun e w'=>e = .returned (.agg #[.int .i64 4,.bool true])/\Nb w w':=by
 go_enter Tryz.func53,Tryz.ntmps53
 go_wp2
 refine bodyPost_ret (v := .agg #[.int .i64 4,.bool true]) (by simp[results,Tryz.results53,go_sem]) rfl ⟨rfl,Nb.rfl.al _⟩
theorem zet (n:Nat) (a:Option Addr) (cap:Nat) (L:List Nat) (w:World) (h:Bs w a cap (zh L)) (hn:a=none->cap=0) (hch:chk L=true) (h0:0 < L.length) (hL:L.length<=2000) (hk:z1r w) :
    Calls Tryz.prog 131 #[.slice a (zh L).length cap,.int .i64 (zx n:Nat)] w fun e w'=>zcT w (z4I n (zh L) L) 0 e w'/\Nb w w':=by
 obtain⟨_,_,g3,g4⟩:=zkM hch (by omega)
 have hbit:=z0C hch
 have hpb:=z0j hbit
 have hp2:=(zr L).1
 have hp3:=(zr L).2
 have p1:=zg9 a cap (zh L) w h
 rw[g3,g4]at p1
 have hfx:z4I n (zh L) L=zv 4 true (zl (zh L)) (zw ((zh L).length - L.length)++z1R (zx n) (zh L++zw ((zh L).length - L.length))):=rfl
 have hla:zl (zh L)<=1:=z1a hpb
 have hlg:=z1K (zh L)
 rw[hfx]
 generalize hP:zh L=P at *
 obtain⟨k,hkk⟩:∃k,P.length - L.length=k:=⟨_,rfl⟩
 rw[hkk]at p1 ⊢
 have p2:=fun w'=>z9I (k:Int) w' (WalkArith.wf_i64 (by omega))
 rw[show tyL (k:Int)=zw k by rw[tyL,if_neg (by omega),Int.toNat_natCast],show tyE (k:Int)=0 by rw[tyE,if_neg (by omega)]]at p2
 have hT4:=z05 k
 have hTb:=z0B k
 generalize hTT:zw k=T at *
 have hMb:∀x∈P++T,x<=1:=fun x hx=>by
  rcases List.mem_append.1 hx with hx | hx
  ·exact hpb x hx
  ·exact hTb x hx
 have hML:(P++T).length=P.length+4:=by rw[List.length_append,hT4]
 have hMc:chk (P++T)=true:=z0g hMb (by omega)
 have hzn:szK (zx n:Int)≠0:=by rw[z3c];split<;>omega
 obtain⟨q1,q2⟩:=z2Y (k:=(zx n:Int)) hzn hMc
 have p4:=fun w' (a':Option Addr) (c':Nat) (hn':Nb w w') (hb:Bs w' a' c' (P++T)) (hnn:a'=none->c'=0)=>by
  have:=ziB (zx n:Int) a' c' (P++T) w' (hk.below hn') hb hnn
  rw[q1,q2]at this
  exact this
 have hSb:=z73 (zx n:Int) (P++T)
 have hSl:(z1R (zx n:Int) (P++T)).length=if 16 < n then 21 else 17:=by rw[z1G,z3c]
 have hSl2:(z1R (zx n:Int) (P++T)).length<=21:=by rw[hSl];split<;>omega
 generalize z1R (zx n:Int) (P++T)=S at *
 have hTS:(P++T++S).drop P.length=T++S:=by rw[List.append_assoc,List.drop_left]
 have hTSb:∀x∈T++S,x<=1:=fun x hx=>by
  rcases List.mem_append.1 hx with hx | hx
  ·exact hTb x hx
  ·exact hSb x hx
 have hTSl:(T++S).length=4+S.length:=by rw[List.length_append,hT4]
 have hTSc:chk (T++S)=true:=z0g hTSb (by omega)
 have hs2:=z7i 4 true (T++S).length
 have hdl:(P++T++S).length - P.length=(T++S).length:=by simp only[List.length_append];omega
 have p5:=fun w' (a':Option Addr) (c':Nat) (hb:Bs w' a' c' (T++S))=>by
  have:=zbb (zl P) a' c' (T++S) 4 true w' hla hb (by omega) (by omega) hTSc (by omega)
  rw[<- hdl]at this
  exact this
 generalize hZ:P++T++S=Z at *
 have hZl:P.length<=Z.length:=by rw[<- hZ];simp only[List.length_append];omega
 have hZ2:Z.length<=10000:=by rw[<- hZ];simp only[List.length_append];omega
 generalize T++S=U at *
 generalize hM:P++T=M at *
 obtain⟨kk,hkk2⟩:∃kk,zx n=kk:=⟨_,rfl⟩
 rw[hkk2]at p4 ⊢
 obtain⟨la,hla2⟩:∃la,zl P=la:=⟨_,rfl⟩
 rw[hla2]at hlg hla p5 ⊢
 have hP1:0 < P.length:=by omega
 obtain⟨b,o,rfl,hcl⟩:=h.hcells hP1
 obtain⟨z,hz⟩:∃z,P.length - 1=z:=⟨_,rfl⟩
 have hwr:IntKind.i64.wrap ((P.length:Int) - 1)=(z:Int):=by rw[IntWalk.i64_in _ (by omega)];omega
 have hz0:(0:Int)<=(z:Int):=by omega
 have hz1:(z:Int) < (P.length:Int):=by omega
 have hcz:∀w',Nb w w'->w'.cell? ⟨b,o+z,none⟩=some (.int .u8 (la:Nat)):=fun w' hn'=>by
  obtain⟨b',o',e',hc'⟩:=(h.below hn').hcells hP1
  simp only[Option.some.injEq,Addr.mk.injEq,and_true]at e'
  obtain⟨rfl,rfl⟩:=e'
  have:=hc' (P.length - 1) (by omega)
  rw[<- hlg,hz]at this
  exact this
 have P1:=zH p1
 have P2:=zH p2
 have P4:=zH p4
 have P5:=zH p5
 have H:=zH h
 have HCZ:=zH hcz
 have HM:=zH hM
 have HT4:=zH hT4
 have HU:=zH hTS
 have HZL:=zH hZl
 have HPL:=zH (show P.length<=5000 by omega)
 clear p1 p2 p4 p5 h hcz hM hT4 hTS hZ hTT hP hkk g3 g4 hbit hpb hp2 hp3 hTb hMb hML hMc hzn q1 q2 hSb hSl hSl2 hTSb hTSl hTSc hs2 hdl hkk2 hla2 hlg hcl hz hfx hch hk hla
 go_enter Tryz.func131,Tryz.ntmps131
 go_wp2_with fail
 refine P1.out.mono ?_
 rintro e w1 ⟨rfl,n1⟩
 go_wp2_with fail
 refine(P2.out w1).mono ?_
 rintro e w2 ⟨⟨a2,c2,rfl,f2⟩,n2⟩
 have m2:=n1.tr n2
 have F2:=zH f2
 clear f2
 go_wp2_with fail
 refine(z2g w2.heap.size 0 (some ⟨b,o,none⟩) a2 cap c2 P T _ (by simp) (by simp) ((H.out.below m2).below (Nb.rfl.al _)) (F2.out.bs.1.below (Nb.rfl.al _)) (by rw[HT4.out];omega) (by simp) (by have:=HPL.out;omega) (by rw[HT4.out];omega)).mono ?_
 rintro e w3 ⟨⟨a3,c3,rfl,f3⟩,n3⟩
 rw[HM.out]at f3
 rw[HM.out]
 have m3:Nb w w3:=(m2.al _).tr n3
 have F3:=zH f3.bs
 clear f3 n3 F2 n2 n1
 go_wp2_with fail
 refine(P4.out _ a3 c3 m3 F3.out.1 F3.out.2).mono ?_
 rintro e w4 ⟨⟨a4,c4,rfl,f4⟩,n4⟩
 have m4:=m3.tr n4
 have B4:=zH (f4.bs.1.cutL P.length HZL.out)
 have hcut:=fun w=>z38 a4 Z.length c4 P.length HZL.out w
 rw[HU.out]at B4
 clear f4
 obtain⟨aU,haU⟩:∃aU,z7K a4 c4 P.length=aU:=⟨_,rfl⟩
 rw[haU]at B4 hcut
 clear haU
 go_wp2_with fail
 have NB:RowKit.Hid (Nb w4 w4.drew):=zH (Nb.drewN w4 1)
 have hc0:w4.drew.cell? ⟨b,o+z,none⟩=some (.int .u8 la):=HCZ.out _ (m4.tr NB.out)
 go_region_held3 (fun w'=>w'.cell? ⟨b,o+z,none⟩=some (.int .u8 la)) (first | go_keep | exact HCZ.out _ (m4.tr NB.out))
  (first
   | (go_at_call 158
      refine(zhO _).mono ?_
      rintro e w6 ⟨rfl,n6⟩
      have NB:=zH (NB.out.tr n6)
      clear n6)
   | (go_at_call 134
      refine(P5.out _ _ _ (B4.out.below NB.out)).mono ?_
      rintro e w7 ⟨⟨a7,c7,rfl,f7⟩,n7⟩
      have s7:=NB.out.size
      have F7:=zH (show zf w4 w7 _ _ from f7.less s7)
      have NB:=zH (NB.out.tr n7)
      clear f7 n7 s7))
 go_wp2
 go_ret2
 exact⟨⟨_,_,rfl,F7.out.less m4.size⟩,m4.tr NB.out⟩
theorem zja{f:Hd}(h:okD f l=true):(bdC f l).take 16=headD f.I.toNat:=by
 rw[bdC,if_pos h,z0F]
 exact List.take_left' (z2Z _)
theorem zdo (f:Hd) (a:Option Addr) (cap:Nat) (l:List Nat) (w:World) (h:Bs w a cap l) (hI:0<=f.I) (hl:zV w) (hok:okD f l=false) :
    Calls Tryz.prog 111 #[.agg (f.cs (.slice a l.length cap))] w fun e w'=>z4B w [] 0 0 2 e w'/\Nb w w':=by
 have hL:=h.len
 have hp:=fun w' (n:Nb w w')=>z8c f a cap l w' (h.below n) hI (hl.below n)
 rw[show bdC f l=[] by simp[bdC,hok],show z3w f l=2 by simp[z3w,hok]]at hp
 obtain⟨K,I,X,R,B,E,S,D,V,A⟩:=f
 simp only[Hd.cs]at hp ⊢
 have HP:=zH hp
 clear hp h hl hI hok
 go_enter Tryz.func111,Tryz.ntmps111
 go_wp2_with fail
 refine(HP.out _ ((Nb.rfl.al _).al _)).mono ?_
 rintro e w1 ⟨⟨a1,c1,rfl,f1⟩,n1⟩
 have m1:Nb w w1:=((Nb.rfl.al _).al _).tr n1
 have hx:=(Blk.new (w.alloc (.cells #[.int .i64 K,.int .u32 I,.bool X,.bool R,.bool B,.bool E,.bool S,.int .u8 D,.int .u8 V,.int .u32 A,.slice a l.length cap] 37)) #[.slice none 0 0,.int .i64 0,.int .i64 0] 52).nb n1
 rw[World.size_alloc]at hx
 obtain⟨d0,d1,d2⟩:=hx.c3
 obtain⟨g0,g1,g2⟩:=hx.f3
 have HB:=zH (z0n (v0 := .slice none 0 0) (v1 := .int .i64 0) (v2 := .int .i64 0) hx)
 have HW:=zH (z0P m1 (b:=w.heap.size+1) (by omega) (.slice none 0 0) (.int .i64 0) (.int .i64 0))
 clear f1 n1 hx m1
 go_wp2
 change bodyPost _ _ _ _ _ (put3 w1 (w.heap.size+1) (.slice none 0 0) (.int .i64 0) (.int .i64 0))
 generalize put3 w1 (w.heap.size+1) (.slice none 0 0) (.int .i64 0) (.int .i64 0)=W at *
 obtain⟨e0,e1,e2⟩:=HB.out.c3
 exact bodyPost_ret (v := .tuple #[.agg #[.slice none 0 0,.int .i64 0,.int .i64 0],.int .i64 2]) (by simp[results,Tryz.results111,go_sem,e0,e1,e2]) rfl ⟨⟨none,0,rfl,zf.nil _ _⟩,HW.out⟩
theorem zgy (f:Hd) (a:Option Addr) (cap:Nat) (l:List Nat) (w:World) (h:Bs w a cap l) (hI:0<=f.I) (hk:z1r w) (hl:zV w) (hok:okD f l=true) :
    Calls Tryz.prog 111 #[.agg (f.cs (.slice a l.length cap))] w fun e w'=>z4B w (wdC f l) (z1O f l) (z25 f l) 0 e w'/\Nb w w':=by
 have hL:=h.len
 have h64:=zfe hok
 have hp:=fun w' (n:Nb w w')=>z8c f a cap l w' (h.below n) hI (hl.below n)
 rw[show z3w f l=0 by rw[z3w,if_pos hok]]at hp
 have hbl:=z5L hok
 have hch:chk (bdC f l)=true:=z0g z4y (by omega)
 have htk:=zja hok
 have hp2:=fun w' (a':Option Addr) (c':Nat) (hb:Bs w' a' c' (bdC f l))=>by
  have:=z8J a' c' (bdC f l) 16 w' hb hch (by omega) (by omega)
  rw[htk]at this
  exact this
 have hp3:=fun w' (a':Option Addr) (c':Nat) (hn':Nb w w') (hb:Bs w' a' c' (zh (bdC f l))) (hnn:a'=none->c'=0) =>
  zet l.length a' c' (bdC f l) w' hb hnn hch (by omega) (by omega) (hk.below hn')
 rw[show wdC f l=zh (bdC f l)++z4I l.length (zh (bdC f l)) (bdC f l)++ones 10 by rw[wdC,if_pos hok,rwD],show z1O f l=(zh (headD f.I.toNat)).length by rw[z1O,if_pos hok],
  show z25 f l=(zh (bdC f l)++z4I l.length (zh (bdC f l)) (bdC f l)).length+1 by rw[z25,if_pos hok,rwD]]
 have hpl:=(zr (bdC f l)).1
 have hpl2:(zh (bdC f l)).length<=2000:=by omega
 have hfn:=z50 l.length (zh (bdC f l)) (bdC f l)
 have hf1:0 < (z4I l.length (zh (bdC f l)) (bdC f l)).length:=by rw[hfn];split<;>omega
 have hf2:(z4I l.length (zh (bdC f l)) (bdC f l)).length<=32:=by rw[hfn];split<;>omega
 have HP:=zH hp
 have HP2:=zH hp2
 have HP3:=zH hp3
 clear hp hp2 hp3 h hk hl hI hok hch hbl hpl htk hfn
 generalize z4I l.length (zh (bdC f l)) (bdC f l)=T at *
 generalize bdC f l=L at *
 generalize zh L=P at *
 generalize (zh (headD f.I.toNat)).length=N at *
 have HQ2:=zH (show(P++T).length<=3000 by rw[List.length_append];omega)
 have HF1:=zH hf1
 have HF2:=zH hf2
 have HPL:=zH hpl2
 obtain⟨Q,hQ⟩:∃Q,Q=P++T:=⟨_,rfl⟩
 rw[<- hQ]at HQ2 ⊢
 have HQ:=zH hQ
 clear hf1 hf2 hpl2 hQ
 obtain⟨K,I,X,R,B,E,S,D,V,A⟩:=f
 simp only[Hd.cs]at HP ⊢
 go_enter Tryz.func111,Tryz.ntmps111
 go_wp2_with fail
 refine(HP.out _ ((Nb.rfl.al _).al _)).mono ?_
 rintro e w1 ⟨⟨a1,c1,rfl,f1⟩,n1⟩
 have m1:Nb w w1:=((Nb.rfl.al _).al _).tr n1
 have hx1:=(Blk.new (w.alloc (.cells #[.int .i64 K,.int .u32 I,.bool X,.bool R,.bool B,.bool E,.bool S,.int .u8 D,.int .u8 V,.int .u32 A,.slice a l.length cap] 37)) #[.slice none 0 0,.int .i64 0,.int .i64 0] 52).nb n1
 rw[World.size_alloc]at hx1
 have HX1:=zH hx1
 have HY1:=zH (((Blk.new w #[.int .i64 K,.int .u32 I,.bool X,.bool R,.bool B,.bool E,.bool S,.int .u8 D,.int .u8 V,.int .u32 A,.slice a l.length cap] 37).nb (Nb.rfl.al (.cells #[.slice none 0 0,.int .i64 0,.int .i64 0] 52))).nb n1)
 have B1:=zH f1.bs.1
 clear f1 n1 hx1
 go_wp2_with fail
 refine(HP2.out _ a1 c1 B1.out).mono ?_
 rintro e w2 ⟨⟨a2,c2,rfl,f2⟩,n2⟩
 have m2:=m1.tr n2
 have HX2:=zH (HX1.out.nb n2)
 have HY2:=zH (HY1.out.nb n2)
 have F2:=zH f2
 obtain⟨u0,u1,u2,u3,u4,u5,u6,u7,u8,u9,u10⟩:=HY2.out.c11
 clear f2 n2 u0 u1 u2 u3 u4 u5 u6 u7 u8 u9
 go_wp2_with fail
 refine(zf2 l.length _).mono ?_
 rintro e w3 ⟨rfl,rfl⟩
 go_wp2_with fail
 refine(HP3.out _ a2 c2 m2 F2.out.bs.1 F2.out.bs.2).mono ?_
 rintro e w3 ⟨⟨a3,c3,rfl,f3⟩,n3⟩
 have m3:=m2.tr n3
 have HX3:=zH (HX2.out.nb n3)
 have F3:=zH (F2.out.keep n3)
 have G3:=zH f3.bs.1
 clear f3 n3 u10
 go_wp2_with fail
 refine(z2g w3.heap.size 0 a2 a3 c2 c3 P T _ (by simp) (by simp) (F3.out.bs.1.below (Nb.rfl.al _)) (G3.out.below (Nb.rfl.al _)) HF1.out F3.out.bs.2 (by have:=HPL.out;omega) (by have:=HF2.out;omega)).mono ?_
 rintro e w4 ⟨⟨a4,c4,rfl,f4⟩,n4⟩
 have n34:Nb w3 w4:=(Nb.rfl.al _).tr n4
 have m4:=m3.tr n34
 have HX4:=zH (HX3.out.nb n34)
 rw[<- HQ.out]at f4
 rw[<- HQ.out]
 have F4:=zH f4.bs
 clear f4 n4 n34
 go_wp2_with fail
 refine(z5F a4 c4 Q N _ F4.out.1 F4.out.2 (by have:=HQ2.out;omega)).mono ?_
 rintro e w5 ⟨⟨a5,c5,rfl,f5⟩,n5⟩
 have m5:=m4.tr n5
 have hx5:=HX4.out.nb n5
 obtain⟨d0,d1,d2⟩:=hx5.c3
 obtain⟨g0,g1,g2⟩:=hx5.f3
 have s2:w.heap.size+2<=w4.heap.size:=HX4.out.lt
 have hfr:∀g,(Value.slice a5 (Q++ones 10).length c5).ownBlock=some g->w.heap.size+2<=g:=fun g hg=>by
  have:=f5.2 g hg
  omega
 have HB:=zH (z0n (v0 := .slice a5 (Q++ones 10).length c5) (v1 := .int .i64 N) (v2 := .int .i64 ((Q.length+1:Nat):Int)) hx5)
 have HW:=zH (z0P m5 (b:=w.heap.size+1) (by omega) (.slice a5 (Q++ones 10).length c5) (.int .i64 N) (.int .i64 ((Q.length+1:Nat):Int)))
 have HF:=zH (show zf w (put3 w5 (w.heap.size+1) (.slice a5 (Q++ones 10).length c5) (.int .i64 N) (.int .i64 ((Q.length+1:Nat):Int))) (.slice a5 (Q++ones 10).length c5) (Q++ones 10) from⟨f5.1.put3 (fun g hg=>by have:=hfr g hg;omega) _ _ _,fun g hg=>by have:=hfr g hg;omega⟩)
 obtain⟨Z,hZ⟩:∃Z,Z=Q++ones 10:=⟨_,rfl⟩
 rw[<- hZ]at HB HW HF
 have HZ:=zH hZ
 rw[<- hZ]
 obtain⟨K2,hK2⟩:∃K2:Int,K2=((Q.length+1:Nat):Int):=⟨_,rfl⟩
 rw[<- hK2]at HB HW HF
 rw[<- hK2]
 have HK2:=zH hK2
 clear f5 n5 hx5 hfr hZ hK2 m1 m2 m3 m4 m5
 go_wp2
 change bodyPost _ _ _ _ _ (put3 w5 (w.heap.size+1) (.slice a5 Z.length c5) (.int .i64 N) (.int .i64 K2))
 generalize put3 w5 (w.heap.size+1) (.slice a5 Z.length c5) (.int .i64 N) (.int .i64 K2)=W at *
 obtain⟨e0,e1,e2⟩:=HB.out.c3
 exact bodyPost_ret (v := .tuple #[.agg #[.slice a5 Z.length c5,.int .i64 N,.int .i64 K2],.int .i64 0]) (by simp[results,Tryz.results111,go_sem,e0,e1,e2]) rfl ⟨⟨a5,c5,by rw[HZ.out,HK2.out];rfl,by rw[<- HZ.out];exact HF.out⟩,HW.out⟩
theorem zfA (f:Hd) (a:Option Addr) (cap:Nat) (l:List Nat) (w:World) (h:Bs w a cap l) (hI:0<=f.I) (hk:z1r w) (hl:zV w) :
    Calls Tryz.prog 111 #[.agg (f.cs (.slice a l.length cap))] w fun e w'=>z4B w (wdC f l) (z1O f l) (z25 f l) (z3w f l) e w'/\Nb w w':=by
 cases hok:okD f l with
 | true =>
   rw[show z3w f l=0 by rw[z3w,if_pos hok]]
   exact zgy f a cap l w h hI hk hl hok
 | false =>
   rw[show z3w f l=2 by simp[z3w,hok],show wdC f l=[] by simp[wdC,hok],show z1O f l=0 by simp[z1O,hok],show z25 f l=0 by simp[z25,hok]]
   exact zdo f a cap l w h hI hl hok
theorem zgq:zc 6 5=[0,0,1,1,0]:=by decide
theorem z1k.app {R:Nat} {v v':Value} {l2:List Nat} (h:z1k w t R v l) (ho:z04 w2 v' l2) (hk:Kp (fun k=>v.ownBlock=some k) w w2) (hg:∀g,v'.ownBlock=some g->v.ownBlock=some g\/w.heap.size<=g) :
    z1k (w2.setCell ⟨R,0,none⟩ v') t R v' l2/\Kp (z2V R v) w (w2.setCell ⟨R,0,none⟩ v')/\∀k,z2V R v' k->z2V R v k\/w.heap.size<=k:=by
 have hbl:=h.blk.keep hk h.ne
 have hne:∀g,v'.ownBlock=some g->g≠R:=by
  rintro g hv rfl
  rcases hg g hv with h1 | h1
  ·exact h.ne h1
  ·have:=h.blk.lt
   omega
 refine⟨⟨by simpa using hbl.set 0 v',ho.keep (Kp.set (F:=(·=R)) rfl) hne,fun e=>hne R e rfl⟩,?_,?_⟩
 ·exact(hk.mono (F':=z2V R v) (fun k _ h => .inr h)).tr (Kp.set (F:=(·=R)) rfl) (fun k h => .inl (.inl h))
 ·rintro k (rfl | hk)
  ·exact .inl (.inl rfl)
  ·rcases hg k hk with h1 | h1
   ·exact .inl (.inr h1)
   ·exact .inr h1
theorem zm.nb{w1:World}{R:Nat}{v:Value}(h:zm w t R v l w1)(n:Nb w1 w2):zm w t R v l w2:=by
 obtain⟨v',r,k,f⟩:=h
 exact⟨v',r.keep (F:=fun _=>False) (Kp.ofNb n) (by simp),k.tr (F':=fun _=>False) (Kp.ofNb n) (by simp),f⟩
theorem zas (i:Nat) (K:Int) (X R B E S:Bool) (D V A:Int) (dv:Value) (w:World) (hi:i < 2048) :
    Calls Tryz.prog 159 #[.agg #[.int .i64 K,.int .u32 i,.bool X,.bool R,.bool B,.bool E,.bool S,.int .u8 D,.int .u8 V,.int .u32 A,dv]] w fun e w'=>(∃a c,e = .returned (.slice a (zi i).length c)/\zf w w' (.slice a (zi i).length c) (zi i))/\Nb w w':=by
 have EQ:=zH (show zc 0 1++zc i 11++zc 6 5=zi i by simp[zi,z4W,zgq])
 have hmf:∀(fn:Fn) (first cap:Array Value) (w:World),(Instr.makeFunc fn first cap).run Tryz.prog w = .ok (.func fn first cap) w:=fun _ _ _ _=>rfl
 obtain⟨w4,hw4⟩:∃w4,w4=(w.alloc (.cells #[.int .i64 K,.int .u32 i,.bool X,.bool R,.bool B,.bool E,.bool S,.int .u8 D,.int .u8 V,.int .u32 A,dv] 37)).alloc (.cells #[.slice none 0 0] 205):=⟨_,rfl⟩
 have b4:=zH (show Blk w4 w.heap.size #[.int .i64 K,.int .u32 i,.bool X,.bool R,.bool B,.bool E,.bool S,.int .u8 D,.int .u8 V,.int .u32 A,dv] 37 by rw[hw4];exact(Blk.new _ _ _).nb (Nb.rfl.al _))
 have m4:Nb w w4:=by rw[hw4];exact(Nb.rfl.al _).al _
 have r4:z1k w4 205 (w.heap.size+1) (.slice none 0 0) []:=by
  rw[hw4]
  refine⟨?_,z04.nil _,by simp[Value.ownBlock]⟩
  have:=Blk.new (w.alloc (.cells #[.int .i64 K,.int .u32 i,.bool X,.bool R,.bool B,.bool E,.bool S,.int .u8 D,.int .u8 V,.int .u32 A,dv] 37)) #[.slice none 0 0] 205
  rwa[World.size_alloc]at this
 have NF:=zH (show ¬z2V (w.heap.size+1) (.slice none 0 0) w.heap.size by rintro(h | h);omega;simp[Value.ownBlock]at h)
 have hR:w.heap.size<=w.heap.size+1:=by omega
 have S:=zH (show zm w4 205 (w.heap.size+1) (.slice none 0 0) [] w4 from⟨_,r4,Kp.rfl,fun _ h => .inl h⟩)
 have HW:=zH hw4
 have M4:=zH m4
 clear r4 m4 hw4
 go_enter Tryz.func159,Tryz.ntmps159
 go_wp2_with fail
 rw[<- HW.out]
 obtain⟨v5,r5,k5,f5⟩:=S.out
 refine(zO (w.heap.size+1) v5 _ 0 1 _ r5 (by omega) (by omega) (by decide) (by(try simp only[List.length_append,zb,List.length_nil]);omega)).mono ?_
 rintro e x1 ⟨rfl,s5⟩
 have S:=zH (zm.tr2 k5 f5 s5)
 clear s5 r5 k5 f5
 obtain⟨v5,r5,k5,f5⟩:=S.out
 obtain⟨c0,c1,c2,c3,c4,c5,c6,c7,c8,c9,c10⟩:=(b4.out.keep k5 NF.out).c11
 go_wp2_with fail
 refine(zO (w.heap.size+1) v5 _ i 11 _ r5 (by omega) (by omega) (by omega) (by(try simp only[List.length_append,zb,List.length_nil]);omega)).mono ?_
 rintro e x2 ⟨rfl,s5⟩
 have S:=zH (zm.tr2 k5 f5 s5)
 clear s5 r5 k5 f5 c0 c1 c2 c3 c4 c5 c6 c7 c8 c9 c10
 obtain⟨v5,r5,k5,f5⟩:=S.out
 go_wp2_with fail
 refine(zO (w.heap.size+1) v5 _ 6 5 _ r5 (by omega) (by omega) (by decide) (by(try simp only[List.length_append,zb,List.length_nil]);omega)).mono ?_
 rintro e x3 ⟨rfl,s5⟩
 have s8:=zm.tr2 k5 f5 s5
 rw[List.nil_append,EQ.out]at s8
 have nr:Nb w x3:=s8.below M4.out hR
 obtain⟨a7,d7,y7,f7⟩:=s8.fresh M4.out hR
 have F7:=zH f7
 clear s8 f7 s5 r5 k5 f5 S
 go_wp2
 go_ret
 exact⟨⟨a7,d7,rfl,F7.out⟩,nr⟩
def ze1(H T:List Nat)(d v a n:Nat)(S:Bool)(l:List Nat):List Nat :=
 ((zc d 8++([zP S]++(zc (n - 1) 11++T))++z1R 4 (H++(zc d 8++([zP S]++(zc (n - 1) 11++T)))))++(zc v 8++(zc a 32++ze l))) ++
  z1R 5 ((zc d 8++([zP S]++(zc (n - 1) 11++T))++z1R 4 (H++(zc d 8++([zP S]++(zc (n - 1) 11++T)))))++(zc v 8++(zc a 32++ze l)))
theorem zcB(i d v a:Nat)(S:Bool)(l:List Nat):z0z i d v a S l=ze1 (zi i) (z1v i) d v a l.length S l:=rfl
theorem zlg{n:Nat}(h1:1<=n)(h2:n<=2048):z0s 3 (n:Int)=n - 1/\z0t 3 (n:Int)=0:=by
 have hc:n - 1 < z0R 3:=by show n - 1 < 2048;omega
 have hi:isC 3 ((n - 1:Nat):Int)=true:=(z2M 3 (n - 1)).2 hc
 exact z7m 3 (n:Int) (n - 1) hi (by
  rw[z0m,if_pos hi,Int.toNat_natCast,at3]
  omega)
theorem z9B (i d v A:Nat) (S:Bool) (H T:List Nat) (a a1 a2:Option Addr) (cap cap1 cap2:Nat) (l:List Nat) (w:World) (h:Bs w a cap l) (h1:Bs w a1 cap1 H) (hn1:a1=none->cap1=0) (h2:Bs w a2 cap2 T)
    (hl1:1<=l.length) (hl2:l.length<=2048) (hH:H.length=17) (hHb:∀x∈H,x<=1) (hT:T.length=4) (hTb:∀x∈T,x<=1) (hd:d < 256) (hv:v < 256) (hA:A < 4294967296) (hk:z1r w) (hl:zV w) :
    Calls Tryz.prog 160 #[.agg (Hd.cs ⟨3,(i:Int),false,false,false,false,S,(d:Int),(v:Int),(A:Int)⟩ (.slice a l.length cap)),.slice a1 H.length cap1,.slice a2 T.length cap2] w fun e w'=>zcT w (ze1 H T d v A l.length S l) 0 e w'/\Nb w w':=by
 obtain⟨ec,hcE⟩:=zlg hl1 hl2
 have P1:=zH (fun w' (n:Nb w w')=>by
  have:=z4X 3 (l.length:Int) w' (hl.below n)
  rw[hcE,ec]at this
  exact this)
 obtain⟨c,hc⟩:∃c,l.length - 1=c:=⟨_,rfl⟩
 have hc2:c < 2048:=by omega
 rw[hc]at P1
 obtain⟨pre,hpre⟩:∃pre,pre=zc d 8++([zP S]++(zc (l.length - 1) 11++T)):=⟨_,rfl⟩
 have hprel:pre.length=24:=by rw[hpre];simp[zb,hT]
 have hpreb:∀x∈pre,x<=1:=by
  intro x hx
  rw[hpre]at hx
  simp only[List.mem_append,List.mem_cons,List.not_mem_nil,or_false]at hx
  rcases hx with hx | rfl | hx | hx
  ·exact z01 _ _ x hx
  ·exact zQ S
  ·exact z01 _ _ x hx
  ·exact hTb x hx
 have hcat:chk (H++pre)=true:=z0g (fun x hx=>by
  rcases List.mem_append.1 hx with hx | hx
  ·exact hHb x hx
  ·exact hpreb x hx) (by rw[List.length_append];omega)
 have hm4:=z2W (k:=4) (by decide) hcat
 obtain⟨sm,hsm⟩:∃sm,z45 (szK 4) (z08 4) (zD 4) (H++pre)=sm:=⟨_,rfl⟩
 have hsm2:sm < 8192:=by rw[<- hsm];exact z4j (z1C 4 (by decide)).poly _ _ (z1C 4 (by decide)).start
 have P2:=zH (fun w' (a':Option Addr) (c':Nat) (hn':Nb w w') (hb:Bs w' a' c' (H++pre))=>by
  have:=zh5 4 a' c' (H++pre) w' (hk.below hn') hb
  rw[(z63 hm4).1,(z63 hm4).2,hsm]at this
  exact this)
 have hS4:z1R 4 (H++pre)=zc sm 13:=by rw[z1R,hsm];rfl
 obtain⟨pre2,hpre2⟩:∃pre2,pre2=(pre++zc sm 13)++(zc v 8++(zc A 32++ze l)):=⟨_,rfl⟩
 have hdat:ze1 H T d v A l.length S l=pre2++z1R 5 pre2:=by rw[ze1,<- hpre,hS4,<- hpre2]
 have hpre2l:pre2.length=77+8*l.length:=by rw[hpre2];simp only[List.length_append,zb,zN];omega
 have hpre2b:∀x∈pre2,x<=1:=by
  intro x hx
  rw[hpre2]at hx
  simp only[List.mem_append]at hx
  rcases hx with (hx | hx) | hx | hx | hx
  ·exact hpreb x hx
  ·exact z01 _ _ x hx
  ·exact z01 _ _ x hx
  ·exact z01 _ _ x hx
  ·exact z1J l x hx
 have hcat2:chk pre2=true:=z0g hpre2b (by omega)
 obtain⟨q1,q2⟩:=z2Y (k:=5) (by decide) hcat2
 have P3:=zH (fun w' (a':Option Addr) (c':Nat) (hn':Nb w w') (hb:Bs w' a' c' pre2) (hnn:a'=none->c'=0)=>by
  have:=ziB 5 a' c' pre2 w' (hk.below hn') hb hnn
  rw[q1,q2,<- hdat]at this
  exact this)
 have P4:=zH (fun w' (n:Nb w w')=>by
  have:=z7B 4 w' (hk.below n)
  rw[show szK 4=13 by decide]at this
  exact this)
 have EQ:=zH (show zc d 8++zc (zP S) 1++zc c 11++T=pre by rw[hpre,<- hc];simp[z4Q])
 have e32:IntKind.u32.wrap (sm:Int)=sm:=by rw[IntKind.wrap_u32];omega
 have EQ2:=zH (show pre++zc sm 13++zc v 8++zc A 32++ze l=pre2 by rw[hpre2];simp)
 generalize hM:H++pre=M at *
 have HM:=zH hM
 have PL:=zH hprel
 have HL:=zH h
 have H1:=zH h1
 have HN1:=zH hn1
 have H2:=zH h2
 have HH:=zH hH
 have HT:=zH hT
 have HP2:=zH hpre2l
 have hL:=h.len
 have hmf:∀(fn:Fn) (first cap:Array Value) (w:World),(Instr.makeFunc fn first cap).run Tryz.prog w = .ok (.func fn first cap) w:=fun _ _ _ _=>rfl
 have hb0:=zQ S
 generalize ze1 H T d v A l.length S l=Z at *
 clear h h1 hn1 h2 hl hk hcE ec hc hpre hpreb hcat hm4 hsm hS4 hpre2 hdat hpre2b hcat2 q1 q2 hH hHb hT hTb hprel hpre2l hM
 simp only[Hd.cs]
 go_enter Tryz.func160,Tryz.ntmps160
 go_wp2_with fail
 refine(P1.out _ (Nb.rfl.al _)).mono ?_
 rintro e w3 ⟨rfl,n3⟩
 have m3:Nb w w3:=(Nb.rfl.al _).tr n3
 have b3:=zH ((Blk.new w #[.int .i64 3,.int .u32 i,.bool false,.bool false,.bool false,.bool false,.bool S,.int .u8 d,.int .u8 v,.int .u32 A,.slice a l.length cap] 37).nb n3)
 have lt3:w.heap.size < w3.heap.size:=b3.out.lt
 have ne3:¬w.heap.size=w3.heap.size:=by omega
 clear n3
 obtain⟨w4,hw4⟩:∃w4,w4=w3.alloc (.cells #[.slice none 0 0] 205):=⟨_,rfl⟩
 have r4:z1k w4 205 w3.heap.size (.slice none 0 0) []:=by rw[hw4];exact⟨Blk.new _ _ _,z04.nil _,by simp[Value.ownBlock]⟩
 have m4:=zH (show Nb w w4 by rw[hw4];exact m3.al _)
 have b4:=zH (b3.out.nb (show Nb w3 w4 by rw[hw4];exact Nb.rfl.al _))
 have NF:=zH (show ¬z2V w3.heap.size (.slice none 0 0) w.heap.size by rintro(h | h);omega;simp[Value.ownBlock]at h)
 have hR:w.heap.size<=w3.heap.size:=by omega
 have S0:=zH (show zm w4 205 w3.heap.size (.slice none 0 0) [] w4 from⟨_,r4,Kp.rfl,fun _ h => .inl h⟩)
 have HW:=zH hw4
 obtain⟨c0,c1,c2,c3,c4,c5,c6,c7,c8,c9,c10⟩:=b3.out.c11
 clear r4 hw4 m3
 go_wp2_with fail
 rw[<- HW.out]
 clear c0 c1 c2 c3 c4 c5 c6 c7 c8 c9 c10
 obtain⟨v5,r5,k5,f5⟩:=S0.out
 refine(zO w3.heap.size v5 _ d 8 _ r5 (by omega) (by omega) (by omega) (by(try simp only[List.length_append,zb,List.length_nil]);omega)).mono ?_
 rintro e x1 ⟨rfl,s5⟩
 have S1:=zH (zm.tr2 k5 f5 s5)
 clear s5 r5 k5 f5 S0
 obtain⟨v5,r5,k5,f5⟩:=S1.out
 obtain⟨c0,c1,c2,c3,c4,c5,c6,c7,c8,c9,c10⟩:=(b4.out.keep k5 NF.out).c11
 go_wp2_with fail
 refine(z2N S _).mono ?_
 rintro e w4' ⟨rfl,rfl⟩
 go_wp2_with fail
 refine(zO w3.heap.size v5 _ (zP S) 1 _ r5 (by omega) (by omega) (by omega) (by(try simp only[List.length_append,zb,List.length_nil]);omega)).mono ?_
 rintro e x2 ⟨rfl,s5⟩
 have S2:=zH (zm.tr2 k5 f5 s5)
 clear s5 r5 k5 f5 c0 c1 c2 c3 c4 c5 c6 c7 c8 c9 c10 S1
 obtain⟨v5,r5,k5,f5⟩:=S2.out
 go_wp2_with fail
 refine(zO w3.heap.size v5 _ c 11 _ r5 (by omega) (by omega) (by omega) (by(try simp only[List.length_append,zb,List.length_nil]);omega)).mono ?_
 rintro e x3 ⟨rfl,s5⟩
 have s6:=zm.tr2 k5 f5 s5
 obtain⟨L3,hL3⟩:∃L3,L3=[]++zc d 8++zc (zP S) 1++zc c 11:=⟨_,rfl⟩
 have LN:=zH (show L3.length=20 by rw[hL3];simp[zb])
 have EQ3:=zH (show L3++T=pre by rw[hL3,List.nil_append,EQ.out])
 rw[<- hL3]at s6
 have S3:=zH s6
 clear s5 s6 r5 k5 f5 S2 hL3 EQ
 obtain⟨v5,r5,k5,f5⟩:=S3.out
 have hx3:Nb w x3:=S3.out.below m4.out hR
 obtain⟨g0,q0,rfl⟩:=r5.own.shape (by rw[LN.out];omega)
 have y0:x3.cell? ⟨w3.heap.size,0,none⟩=some (.slice (some ⟨g0,0,none⟩) L3.length q0):=r5.blk.cell 0
 have h2':=H2.out.below hx3
 go_wp2_with (at_builtin;refine zd _ rfl (.tmp 41) (.tmp 42) rfl (.slice (some ⟨g0,0,none⟩) L3.length q0) L3 rfl r5.own a2 cap2 T T.length rfl rfl h2' (h2'.noneN rfl (by rw[HT.out];omega)) (by rw[HT.out,LN.out];omega) ?_)
 intro v6 w6 ho hk6 hg
 rw[EQ3.out]at ho
 have hb6:=r5.blk.keep hk6 r5.ne
 have z0:w6.cell? ⟨w3.heap.size,0,none⟩=some (.slice (some ⟨g0,0,none⟩) L3.length q0):=hb6.cell 0
 have z1:=hb6.frozen 0
 obtain⟨g6,q6,rfl⟩:=ho.shape (by rw[PL.out];omega)
 obtain⟨r6,k6,f6⟩:=r5.app ho hk6 hg
 obtain⟨x6,hx6⟩:∃x6,x6=w6.setCell ⟨w3.heap.size,0,none⟩ (.slice (some ⟨g6,0,none⟩) pre.length q6):=⟨_,rfl⟩
 have hsz:w6.heap.size=x6.heap.size:=by rw[hx6];simp[World.setCell]
 rw[<- hx6]at r6 k6
 have S6:=zH (zm.tr2 k5 f5 ⟨_,r6,k6,f6⟩)
 have B6:=zH r6.own.asBs.1
 have HX:=zH (S6.out.below m4.out hR)
 have HX6:=zH hx6
 have HSZ:=zH hsz
 clear ho hk6 hg h2' hx3 hx6 hb6 r5 k5 f5 y0 S3 r6 k6 f6 hsz EQ3
 have hle:pre.length<=9223372036854775807:=by rw[PL.out];omega
 go_wp2_with fail
 rw[<- HX6.out,HSZ.out]
 refine(z2g x6.heap.size 0 a1 (some ⟨g6,0,none⟩) cap1 q6 H pre _ (by simp) (by simp) ((H1.out.below HX.out).below (Nb.rfl.al _)) (B6.out.below (Nb.rfl.al _)) (by rw[PL.out];omega) HN1.out (by rw[HH.out];omega) (by rw[PL.out];omega)).mono ?_
 rintro e x7 ⟨⟨a7,d7,rfl,f7⟩,n7⟩
 rw[HM.out]at f7
 rw[HM.out]
 have N7:=zH ((Nb.rfl.al _).tr n7:Nb x6 x7)
 have F7:=zH f7.bs
 clear f7 n7 z0 z1 hle
 go_wp2_with fail
 refine(P2.out _ a7 d7 (HX.out.tr N7.out) F7.out.1).mono ?_
 rintro e x8 ⟨rfl,n8⟩
 have N8:=zH (N7.out.tr n8)
 clear n8
 go_wp2_with fail
 refine(P4.out _ (HX.out.tr N8.out)).mono ?_
 rintro e x9 ⟨rfl,n9⟩
 have S9:=zH (S6.out.nb (N8.out.tr n9))
 clear n9 S6 N8 N7 F7
 obtain⟨v5,r5,k5,f5⟩:=S9.out
 go_wp2_with fail
 refine(zO w3.heap.size v5 _ sm 13 _ r5 (by omega) (by omega) (by omega) (by rw[PL.out];omega)).mono ?_
 rintro e y1 ⟨rfl,s5⟩
 have S:=zH (zm.tr2 k5 f5 s5)
 clear s5 r5 k5 f5 S9
 obtain⟨v5,r5,k5,f5⟩:=S.out
 obtain⟨c0,c1,c2,c3,c4,c5,c6,c7,c8,c9,c10⟩:=(b4.out.keep k5 NF.out).c11
 go_wp2_with fail
 refine(zO w3.heap.size v5 _ v 8 _ r5 (by omega) (by omega) (by omega) (by simp only[List.length_append,zb,PL.out];omega)).mono ?_
 rintro e y2 ⟨rfl,s5⟩
 have S:=zH (zm.tr2 k5 f5 s5)
 clear s5 r5 k5 f5 c0 c1 c2 c3 c4 c5 c6 c7 c8 c9 c10
 obtain⟨v5,r5,k5,f5⟩:=S.out
 obtain⟨c0,c1,c2,c3,c4,c5,c6,c7,c8,c9,c10⟩:=(b4.out.keep k5 NF.out).c11
 go_wp2_with fail
 refine(zO w3.heap.size v5 _ A 32 _ r5 (by omega) (by omega) (by omega) (by simp only[List.length_append,zb,PL.out];omega)).mono ?_
 rintro e y3 ⟨rfl,s5⟩
 have S:=zH (zm.tr2 k5 f5 s5)
 clear s5 r5 k5 f5 c0 c1 c2 c3 c4 c5 c6 c7 c8 c9 c10
 obtain⟨v5,r5,k5,f5⟩:=S.out
 obtain⟨c0,c1,c2,c3,c4,c5,c6,c7,c8,c9,c10⟩:=(b4.out.keep k5 NF.out).c11
 go_wp2_with fail
 refine(z4c w3.heap.size v5 _ a cap l _ r5 (HL.out.below (S.out.below m4.out hR)) (by simp only[List.length_append,zb,PL.out];omega) (by simp only[List.length_append,zb,PL.out];omega) (by omega)).mono ?_
 rintro e y4 ⟨rfl,s7⟩
 have s8:=zm.tr2 k5 f5 s7
 rw[EQ2.out]at s8
 have nr:Nb w y4:=s8.below m4.out hR
 obtain⟨a9,d9,u9,f9⟩:=s8.fresh m4.out hR
 have F9:=zH f9.bs
 have NR:=zH nr
 clear s8 s7 f9 r5 k5 f5 S c0 c1 c2 c3 c4 c5 c6 c7 c8 c9 c10 nr
 go_wp2_with fail
 refine(P3.out _ a9 d9 NR.out F9.out.1 F9.out.2).mono ?_
 rintro e z4 ⟨⟨a4,d4,rfl,f4⟩,n4⟩
 have F4:=zH (f4.less NR.out.size)
 clear f4
 go_wp2
 go_ret2
 exact⟨⟨_,_,rfl,F4.out⟩,NR.out.tr n4⟩
def hxC(f:Hd)(l:List Nat):List Nat:=if okX f l then zh (zi f.I.toNat)else []
def zlc(w:World)(p l:List Nat)(er:Nat)(e:Ending)(w':World):Prop:=∃a c a2 c2,e = .returned (.tuple #[.slice a p.length c,.slice a2 l.length c2,.int .i64 er])/\zf w w' (.slice a p.length c) p/\zf w w' (.slice a2 l.length c2) l
theorem zfm (f:Hd) (a:Option Addr) (cap:Nat) (l:List Nat) (w:World) (hL:l.length<=9223372036854775807) (hK:(f.K==3)=false) :
    Calls Tryz.prog 133 #[.agg (f.cs (.slice a l.length cap))] w fun e w'=>zlc w [] [] 2 e w'/\Nb w w':=by
 obtain⟨K,I,X,R,B,E,S,D,V,A⟩:=f
 simp only[Hd.cs]
 have d:(K != 3)=true:=by simpa [bne]using hK
 clear hK
 go_enter Tryz.func133,Tryz.ntmps133
 go_wp2
 go_ret3
 exact⟨⟨_,_,_,_,rfl,zf.nil _ _,zf.nil _ _⟩,Nb.rfl.al _⟩
theorem zbF (f:Hd) (a:Option Addr) (cap:Nat) (l:List Nat) (w:World) (h:Bs w a cap l) (hl:zV w) (hK:f.K=3) (ho:okF f l=false) :
    Calls Tryz.prog 133 #[.agg (f.cs (.slice a l.length cap))] w fun e w'=>zlc w [] [] 2 e w'/\Nb w w':=by
 have hL:=h.len
 have hc:=z0J f a cap l _ (h.below (Nb.rfl.al (.cells (f.cs (.slice a l.length cap)) 37))) (hl.below (Nb.rfl.al (.cells (f.cs (.slice a l.length cap)) 37)))
 rw[show zt f l=2 by simp[zt,ho]]at hc
 obtain⟨K,I,X,R,B,E,S,D,V,A⟩:=f
 simp only at hK
 subst hK
 simp only[Hd.cs]at hc ⊢
 have HC:=zH hc
 clear hc h hl ho
 go_enter Tryz.func133,Tryz.ntmps133
 go_wp2_with fail
 refine HC.out.mono ?_
 rintro e w1 ⟨rfl,n1⟩
 go_wp2
 go_ret3
 exact⟨⟨_,_,_,_,rfl,zf.nil _ _,zf.nil _ _⟩,(Nb.rfl.al _).tr n1⟩
theorem zft (i d v A:Nat) (S:Bool) (a:Option Addr) (cap:Nat) (l:List Nat) (w:World) (h:Bs w a cap l) (hok:okX ⟨3,(i:Int),false,false,false,false,S,(d:Int),(v:Int),(A:Int)⟩ l=true)
    (hl1:1<=l.length) (hl2:l.length<=2048) (hi:i < 2048) (hd:d < 256) (hv:v < 256) (hA:A < 4294967296) (hk:z1r w) (hl:zV w) :
    Calls Tryz.prog 133 #[.agg (Hd.cs ⟨3,(i:Int),false,false,false,false,S,(d:Int),(v:Int),(A:Int)⟩ (.slice a l.length cap))] w fun e w'=>zlc w (zh (zi i)) (z0z i d v A S l) 0 e w'/\Nb w w':=by
 have hL:=h.len
 have hokF:okF ⟨3,(i:Int),false,false,false,false,S,(d:Int),(v:Int),(A:Int)⟩ l=true:=by simpa [okX]using hok
 have P1:=zH (fun w' (n:Nb w w')=>by
  have:=z0J ⟨3,(i:Int),false,false,false,false,S,(d:Int),(v:Int),(A:Int)⟩ a cap l w' (h.below n) (hl.below n)
  rw[show zt ⟨3,(i:Int),false,false,false,false,S,(d:Int),(v:Int),(A:Int)⟩ l=0 by simp[zt,hokF]]at this
  simp only[Hd.cs]at this
  exact this)
 have P2:=zH (fun w'=>zas i 3 false false false false S (d:Int) (v:Int) (A:Int) (.slice a l.length cap) w' hi)
 have hch:chk (zi i)=true:=z0g (z0k i) (by rw[zU];omega)
 obtain⟨s1,s2,s3⟩:=ziJ hch (by rw[zU];omega)
 have P3:=zH (fun w' (a':Option Addr) (c':Nat) (hb:Bs w' a' c' (zi i))=>by
  have:=zhV a' c' (zi i) w' hb
  rw[s1,s2]at this
  exact this)
 have hpl:=(zr (zi i)).1
 have hpl2:=(zr (zi i)).2
 have hHl:=zU i
 have P5:=zH (fun w' (a1 a2:Option Addr) (c1 c2:Nat) (n:Nb w w') (h1:Bs w' a1 c1 (zi i)) (hn1:a1=none->c1=0) (h2:Bs w' a2 c2 (z1v i))=>by
  have:=z9B i d v A S (zi i) (z1v i) a a1 a2 cap c1 c2 l w' (h.below n) h1 hn1 h2 hl1 hl2 (zU i) (z0k i) (z05 _) (z0B _) hd hv hA (hk.below n) (hl.below n)
  rw[<- zcB]at this
  simp only[Hd.cs]at this
  exact this)
 obtain⟨k,hkk⟩:∃k,(zh (zi i)).length - (zi i).length=k:=⟨_,rfl⟩
 have hT:z1v i=zw k:=by rw[z1v,hkk]
 have hp4:=fun w'=>z9I (k:Int) w' (WalkArith.wf_i64 (by omega))
 rw[show tyL (k:Int)=zw k by rw[tyL,if_neg (by omega),Int.toNat_natCast],show tyE (k:Int)=0 by rw[tyE,if_neg (by omega)],<- hT]at hp4
 have P4:=zH hp4
 have hkI:((zh (zi i)).length:Int) - ((zi i).length:Int)=(k:Int):=by omega
 generalize z0z i d v A S l=Z at *
 generalize z1v i=T at *
 generalize zh (zi i)=PH at *
 generalize zi i=H at *
 have hkb:k<=100:=by omega
 have hpb:PH.length<=100:=by omega
 clear h hok hokF hch s1 s2 s3 hkk hT hp4 hk hl hHl hpl hpl2
 simp only[Hd.cs]
 go_enter Tryz.func133,Tryz.ntmps133
 go_wp2_with fail
 refine(P1.out _ (Nb.rfl.al _)).mono ?_
 rintro e w2 ⟨rfl,n2⟩
 have M2:=zH ((Nb.rfl.al _).tr n2:Nb w w2)
 have B2:=zH ((Blk.new w #[.int .i64 3,.int .u32 i,.bool false,.bool false,.bool false,.bool false,.bool S,.int .u8 d,.int .u8 v,.int .u32 A,.slice a l.length cap] 37).nb n2)
 clear n2
 obtain⟨c0,c1,c2,c3,c4,c5,c6,c7,c8,c9,c10⟩:=B2.out.c11
 go_wp2_with fail
 refine(P2.out _).mono ?_
 rintro e w3 ⟨⟨a3,d3,rfl,f3⟩,n3⟩
 have M3:=zH (M2.out.tr n3)
 have B3:=zH (B2.out.nb n3)
 have F3:=zH f3.bs
 clear n3 f3 c0 c1 c2 c3 c4 c5 c6 c7 c8 c9 c10
 go_wp2_with fail
 refine(P3.out _ a3 d3 F3.out.1).mono ?_
 rintro e w4 ⟨⟨a4,d4,rfl,f4⟩,n4⟩
 have M4:=zH (M3.out.tr n4)
 have B4:=zH (B3.out.nb n4)
 have F4:=zH (f4.less M3.out.size)
 have G4:=zH (F3.out.1.below n4)
 clear n4 f4
 go_wp2_with fail
 refine(P4.out _).mono ?_
 rintro e w5 ⟨⟨a5,d5,rfl,f5⟩,n5⟩
 have M5:=zH (M4.out.tr n5)
 have B5:=zH (B4.out.nb n5)
 have F5:=zH (F4.out.keep n5)
 have G5:=zH (G4.out.below n5)
 have T5:=zH f5.bs.1
 clear n5 f5
 obtain⟨c0,c1,c2,c3,c4,c5,c6,c7,c8,c9,c10⟩:=B5.out.c11
 go_wp2_with fail
 refine(P5.out _ a3 a5 d3 d5 M5.out G5.out F3.out.2 T5.out).mono ?_
 rintro e w6 ⟨⟨a6,d6,rfl,f6⟩,n6⟩
 have M6:=zH (M5.out.tr n6)
 have F6:=zH (F5.out.keep n6)
 have Z6:=zH (f6.less M5.out.size)
 clear n6 f6 c0 c1 c2 c3 c4 c5 c6 c7 c8 c9 c10
 go_wp2
 go_ret3
 exact⟨⟨_,_,_,_,rfl,F6.out,Z6.out⟩,M6.out⟩
theorem z6H (f:Hd) (a:Option Addr) (cap:Nat) (l:List Nat) (w:World) (h:Bs w a cap l) (hW:WdX f) (hk:z1r w) (hl:zV w) :
    Calls Tryz.prog 133 #[.agg (f.cs (.slice a l.length cap))] w fun e w'=>zlc w (hxC f l) (bxC f l) (z3A f l) e w'/\Nb w w':=by
 cases hok:okX f l with
 | true =>
   obtain⟨i,d,v,A,S,rfl,h1,h2,h3,h4,h5,h6,eb,ee,et⟩:=z4K hok hW
   rw[eb,ee,show hxC _ l=zh (zi i) by rw[hxC,if_pos hok,et]]
   exact zft i d v A S a cap l w h hok h1 h2 h3 h4 h5 h6 hk hl
 | false =>
   rw[show hxC f l=[] by simp[hxC,hok],show bxC f l=[] by simp[bxC,hok],show z3A f l=2 by simp[z3A,hok]]
   cases hK:f.K==3 with
   | false=>exact zfm f a cap l w h.len hK
   | true=>exact zbF f a cap l w h hl (by simpa using hK) (by simpa [okX,hK]using hok)
theorem zg5(w:World):Calls Tryz.prog 135 #[] w fun e w'=>e = .returned (.agg #[.int .i64 8,.bool false])/\Nb w w':=by
 go_enter Tryz.func135,Tryz.ntmps135
 go_wp2
 refine bodyPost_ret (v := .agg #[.int .i64 8,.bool false]) (by simp[results,Tryz.results135,go_sem]) rfl ⟨rfl,Nb.rfl.al _⟩
def z4U(L:Nat->List Nat):Nat->List Nat
 | 0=>[]
 | k+1=>z4U L k++L k
theorem z2S(L:Nat->List Nat)(k:Nat):z4U L (k+1)=z4U L k++L k:=rfl
theorem z97(L:Nat->List Nat){j k:Nat}(h:j<=k):(z4U L j).length<=(z4U L k).length:=by
 induction k with
 | zero => obtain rfl:j=0:=by omega
           exact Nat.le_refl _
 | succ k ih =>
   rcases Nat.lt_or_ge k j with h1 | h1
   ·obtain rfl:j=k+1:=by omega
    exact Nat.le_refl _
   ·rw[z2S,List.length_append]
    have:=ih h1
    omega
theorem z5b (b o n:Nat) (A:Nat->Option Addr) (C:Nat->Nat) (L:Nat->List Nat) (w:World) (hd:∀k,k < n->w.cell? ⟨b,o+k,none⟩=some (.slice (A k) (L k).length (C k)))
    (hb:∀k,k < n->Bs w (A k) (C k) (L k)) (hz:∀k,k < n->A k=none->C k=0) (h0:0 < (z4U L n).length) (hl:(z4U L n).length<=1000000) (hN:n<=1000) (hbs:b < w.heap.size) :
    Calls Tryz.prog 46 #[.slice (some ⟨b,o,none⟩) n n] w fun e w'=>(∃a c,e = .returned (.slice a (z4U L n).length c)/\zf w w' (.slice a (z4U L n).length c) (z4U L n))/\Nb w w':=by
 have HD:=zH hd
 have HB:=zH hb
 have HZ:=zH hz
 have HL:=zH hl
 have H0:=zH h0
 clear hd hb hz hl h0
 go_enter Tryz.func46,Tryz.ntmps46
 go_wp2
 go_loop [3,11] (fun s i=>∃k:Nat,k<=n/\i = .int .i64 (k:Int)/\s = .int .i64 ((z4U L k).length:Int)) (fun _ i=>n - (intOf i).toNat)
 case atStart=>exact⟨0,Nat.zero_le _,rfl,rfl⟩
 case round =>
  obtain⟨k,hk,rfl,rfl⟩:=hrel
  by_cases hlt:k < n
  ·have c1:=HD.out k hlt
   have e1:=zH (show((z4U L (k+1)).length:Int)=((z4U L k).length:Int)+((L k).length:Int) by rw[z2S,List.length_append];push_cast;rfl)
   have e2:=z97 L (show k+1<=n by omega)
   rw[z2S,List.length_append]at e2
   have e3:=HL.out
   generalize (z4U L n).length=N at *
   generalize (z4U L k).length=S at *
   generalize (L k).length=T at *
   generalize A k=aa at *
   generalize C k=cc at *
   have d1:decide ((S:Int)+(T:Int) < 0)=false:=by simp;omega
   go_wp2
   go_round
   case rel=>exact⟨k+1,by omega,by go_num,by rw[e1.out]⟩
   case measure=>simp[intOf];omega
  ·obtain rfl:k=n:=by omega
   have hgr:=zb5 (z4U L k).length w H0.out (by have:=HL.out;omega)
   have HG:=zH hgr
   have hle:=HL.out
   clear hgr
   go_wp2_with fail
   refine HG.out.mono ?_
   rintro e w1 ⟨⟨g,c,rfl,ho,hg⟩,hnb⟩
   clear hle HG
   go_wp2
   go_loopw [6,27] (fun v i wr=>∃j:Nat,j<=k/\i = .int .i64 (j:Int)/\zf w wr v (z4U L j)/\Nb w wr) (fun _ i _=>k - (intOf i).toNat)
   case atStart=>exact⟨0,Nat.zero_le _,rfl,⟨ho,by simpa [Value.ownBlock]using hg⟩,hnb⟩
   case round =>
    clear ho hg hnb
    obtain⟨j,hj,rfl,ho,hnb2⟩:=hrel
    by_cases hjt:j < k
    ·have e1:wr.cell? ⟨b,o+j,none⟩=some (.slice (A j) (L j).length (C j)):=(hnb2.cell (p:=⟨b,o+j,none⟩) hbs).trans (HD.out j hjt)
     have hbj:=(HB.out j hjt).below hnb2
     have hz:A j=none->(L j).length=0/\C j=0:=fun h=>⟨by rw[h]at hbj;rw[hbj.none_len];rfl,HZ.out j hjt h⟩
     have e2:=z97 L (show j+1<=k by omega)
     have e4:=zH (z2S L j)
     rw[z2S,List.length_append]at e2
     have e3:=HL.out
     generalize A j=aa at *
     generalize C j=cc at *
     have hlen:(z4U L j).length+(L j).length<=1000000:=by omega
     clear e2 e3
     go_wp2_with (at_builtin;refine zd _ rfl (.tmp 31) (.tmp 32) rfl _ (z4U L j) rfl ho.1 aa cc (L j) (L j).length rfl rfl hbj hz (by omega) ?_)
     intro v' w2 hown' hk2 hfr
     have hrel:zf w w2 v' (z4U L (j+1)):=⟨by rw[e4.out];exact hown',fun g hg=>by
      rcases hfr g hg with h | h
      ·exact ho.2 g h
      ·exact Nat.le_trans hnb2.size h⟩
     have hnb3:Nb w w2:=hnb2.trans (hk2.toBelow hnb2.size ho.2)
     clear hown' hk2 hfr ho e1 hnb2 hbj hz e4 hlen
     go_wp2
     go_roundw
     case rel=>exact⟨j+1,by omega,by go_num,hrel,hnb3⟩
     case measure=>simp[intOf];omega
    ·obtain rfl:j=k:=by omega
     obtain⟨a',c',rfl,hbs2,_⟩:=ho.1.bs
     have HO:=zH ho
     clear ho hbs2
     go_wp2
     go_ret
     exact⟨⟨_,_,rfl,HO.out⟩,hnb2⟩
theorem z9o (b o:Nat) (a1 a2 a3 a4:Option Addr) (c1 c2 c3 c4:Nat) (l1 l2 l3 l4:List Nat) (w:World) (d1:w.cell? ⟨b,o,none⟩=some (.slice a1 l1.length c1)) (d2:w.cell? ⟨b,o+1,none⟩=some (.slice a2 l2.length c2))
    (d3:w.cell? ⟨b,o+2,none⟩=some (.slice a3 l3.length c3)) (d4:w.cell? ⟨b,o+3,none⟩=some (.slice a4 l4.length c4))
    (h1:Bs w a1 c1 l1) (h2:Bs w a2 c2 l2) (h3:Bs w a3 c3 l3) (h4:Bs w a4 c4 l4) (n1:a1=none->c1=0) (n2:a2=none->c2=0) (n3:a3=none->c3=0) (n4:a4=none->c4=0)
    (h0:0 < (l1++l2++l3++l4).length) (hl:(l1++l2++l3++l4).length<=1000000) :
    Calls Tryz.prog 46 #[.slice (some ⟨b,o,none⟩) 4 4] w fun e w'=>(∃a c,e = .returned (.slice a (l1++l2++l3++l4).length c)/\zf w w' (.slice a (l1++l2++l3++l4).length c) (l1++l2++l3++l4))/\Nb w w':=by
 have hb:=World.block_lt_of_cell? _ _ d1
 have e:z4U (fun k=>match k with | 0=>l1 | 1=>l2 | 2=>l3 | _=>l4) 4=l1++l2++l3++l4:=by simp[z4U]
 rw[<- e]at h0 hl ⊢
 refine z5b b o 4 (fun k=>match k with | 0=>a1 | 1=>a2 | 2=>a3 | _=>a4) (fun k=>match k with | 0=>c1 | 1=>c2 | 2=>c3 | _=>c4) _ w ?_ ?_ ?_ h0 hl (by omega) hb
 all_goals
  intro k hk
  rcases(by omega:k=0\/k=1\/k=2\/k=3)with rfl | rfl | rfl | rfl
  all_goals assumption
theorem Bs.at4{b:Nat}{x y z u:Nat}(h:Blk w b #[.int .u8 (x:Int),.int .u8 (y:Int),.int .u8 (z:Int),.int .u8 (u:Int)] t)(hx:x < 256)(hy:y < 256)(hz:z < 256)(hu:u < 256):Bs w (some ⟨b,0,none⟩) 4 [x,y,z,u] :=
 ⟨Nat.le_refl _,by simp[maxLen],by simp;omega,fun _=>⟨b,0,rfl,fun j hj=>by
  have:=h.cell j
  match j,hj with
  | 0,_=>simpa using this
  | 1,_=>simpa using this
  | 2,_=>simpa using this
  | 3,_=>simpa using this⟩⟩
theorem zdK (f:Hd) (a:Option Addr) (cap:Nat) (l:List Nat) (w:World) (h:Bs w a cap l) (hW:WdX f) (hk:z1r w) (hl:zV w) (hok:okX f l=false) :
    Calls Tryz.prog 112 #[.agg (f.cs (.slice a l.length cap))] w fun e w'=>z4B w [] 0 0 2 e w'/\Nb w w':=by
 have hL:=h.len
 have hp:=fun w' (n:Nb w w')=>z6H f a cap l w' (h.below n) hW (hk.below n) (hl.below n)
 rw[show bxC f l=[] by simp[bxC,hok],show hxC f l=[] by simp[hxC,hok],show z3A f l=2 by simp[z3A,hok]]at hp
 obtain⟨K,I,X,R,B,E,S,D,V,A⟩:=f
 simp only[Hd.cs]at hp ⊢
 have HP:=zH hp
 clear hp h hl hk hW hok
 go_enter Tryz.func112,Tryz.ntmps112
 go_wp2_with fail
 refine(HP.out _ ((Nb.rfl.al _).al _)).mono ?_
 rintro e w1 ⟨⟨a1,c1,a2,c2,rfl,f1,f2⟩,n1⟩
 have m1:Nb w w1:=((Nb.rfl.al _).al _).tr n1
 have hx:=(Blk.new (w.alloc (.cells #[.int .i64 K,.int .u32 I,.bool X,.bool R,.bool B,.bool E,.bool S,.int .u8 D,.int .u8 V,.int .u32 A,.slice a l.length cap] 37)) #[.slice none 0 0,.int .i64 0,.int .i64 0] 52).nb n1
 rw[World.size_alloc]at hx
 obtain⟨d0,d1,d2⟩:=hx.c3
 obtain⟨g0,g1,g2⟩:=hx.f3
 have HB:=zH (z0n (v0 := .slice none 0 0) (v1 := .int .i64 0) (v2 := .int .i64 0) hx)
 have HW:=zH (z0P m1 (b:=w.heap.size+1) (by omega) (.slice none 0 0) (.int .i64 0) (.int .i64 0))
 clear f1 f2 n1 hx m1
 go_wp2
 change bodyPost _ _ _ _ _ (put3 w1 (w.heap.size+1) (.slice none 0 0) (.int .i64 0) (.int .i64 0))
 generalize put3 w1 (w.heap.size+1) (.slice none 0 0) (.int .i64 0) (.int .i64 0)=W at *
 obtain⟨e0,e1,e2⟩:=HB.out.c3
 exact bodyPost_ret (v := .tuple #[.agg #[.slice none 0 0,.int .i64 0,.int .i64 0],.int .i64 2]) (by simp[results,Tryz.results112,go_sem,e0,e1,e2]) rfl ⟨⟨none,0,rfl,zf.nil _ _⟩,HW.out⟩
theorem zhv (f:Hd) (a:Option Addr) (cap:Nat) (l:List Nat) (w:World) (h:Bs w a cap l) (hW:WdX f) (hk:z1r w) (hl:zV w) (hok:okX f l=true) :
    Calls Tryz.prog 112 #[.agg (f.cs (.slice a l.length cap))] w fun e w'=>z4B w (wxC f l) (z1y f l) (z29 f l) 0 e w'/\Nb w w':=by
 have hL:=h.len
 have hp:=fun w' (n:Nb w w')=>z6H f a cap l w' (h.below n) hW (hk.below n) (hl.below n)
 rw[show z3A f l=0 by rw[z3A,if_pos hok],show hxC f l=zh (zi f.I.toNat) by rw[hxC,if_pos hok]]at hp
 have hbl:=z7L hok
 have hln:=zle hok
 have hch:chk (bxC f l)=true:=z0g zaD (by omega)
 have hsz:=z8t (n:=(bxC f l).length) (by omega)
 have hge:=zdn 8 false (bxC f l).length
 have hp2:=fun w' (a':Option Addr) (c':Nat) (hb:Bs w' a' c' (bxC f l))=>zbb 1 a' c' (bxC f l) 8 false w' (by omega) hb (by omega) (by omega) hch (by omega)
 have hfl:=z1T (E:=8) false 1 (bxC f l)
 rw[show wxC f l=zh (zi f.I.toNat)++zy++zv 8 false 1 (bxC f l)++z0u++ones 10 by rw[wxC,if_pos hok,rwX],show z1y f l=(zh (zi f.I.toNat)).length by rw[z1y,if_pos hok],
  show z29 f l=(zh (zi f.I.toNat)++zy++zv 8 false 1 (bxC f l)++z0u).length+1 by rw[z29,if_pos hok,rwX]]
 have hpl:=(zr (zi f.I.toNat)).1
 rw[zU]at hpl
 have hfx1:0 < (zv 8 false 1 (bxC f l)).length:=by omega
 have hfx2:(zv 8 false 1 (bxC f l)).length<=20000:=by omega
 have HP:=zH hp
 have HP2:=zH hp2
 have HPL:=zH hpl
 have HF1:=zH hfx1
 have HF2:=zH hfx2
 clear hp hp2 hpl hfx1 hfx2 hfl hge hsz hch hln hbl h hW hk hl hok
 generalize zv 8 false 1 (bxC f l)=T at *
 generalize bxC f l=L at *
 generalize zh (zi f.I.toNat)=P at *
 obtain⟨Q,hQ⟩:∃Q,Q=P++zy++T++z0u:=⟨_,rfl⟩
 have HQ2:=zH (show Q.length<=30000 by rw[hQ];simp only[List.length_append,zy,z0u,List.length_cons,List.length_nil];have:=HPL.out;have:=HF2.out;omega)
 have HQ1:=zH (show 0 < (P++zy++T++z0u).length by simp only[List.length_append,zy,z0u,List.length_cons,List.length_nil];omega)
 rw[<- hQ]
 have HQ:=zH hQ
 clear hQ
 obtain⟨K,I,X,R,B,E,S,D,V,A⟩:=f
 simp only[Hd.cs]at HP ⊢
 go_enter Tryz.func112,Tryz.ntmps112
 go_wp2_with fail
 refine(HP.out _ ((Nb.rfl.al _).al _)).mono ?_
 rintro e w1 ⟨⟨a1,c1,a2,c2,rfl,f1,f2⟩,n1⟩
 have m1:Nb w w1:=((Nb.rfl.al _).al _).tr n1
 have hx1:=(Blk.new (w.alloc (.cells #[.int .i64 K,.int .u32 I,.bool X,.bool R,.bool B,.bool E,.bool S,.int .u8 D,.int .u8 V,.int .u32 A,.slice a l.length cap] 37)) #[.slice none 0 0,.int .i64 0,.int .i64 0] 52).nb n1
 rw[World.size_alloc]at hx1
 have HX1:=zH hx1
 have F1:=zH f1.bs
 have F2:=zH f2.bs
 have M1:=zH m1
 clear f1 f2 n1 hx1 m1
 go_wp2_with fail
 obtain⟨w2,hw2⟩:∃w2,w2=(w1.alloc (.cells #[.int .u8 1,.int .u8 0,.int .u8 0,.int .u8 1] 187)).alloc (.cells #[.int .u8 0,.int .u8 1,.int .u8 1,.int .u8 0] 187):=⟨_,rfl⟩
 have n12:Nb w1 w2:=by rw[hw2];exact(Nb.rfl.al _).al _
 have YA:=zH (show Blk w2 w1.heap.size #[.int .u8 1,.int .u8 0,.int .u8 0,.int .u8 1] 187 by rw[hw2];exact(Blk.new _ _ _).nb (Nb.rfl.al _))
 have yb:=Blk.new (w1.alloc (.cells #[.int .u8 1,.int .u8 0,.int .u8 0,.int .u8 1] 187)) #[.int .u8 0,.int .u8 1,.int .u8 1,.int .u8 0] 187
 rw[World.size_alloc,<- hw2]at yb
 have YB:=zH yb
 rw[<- hw2]
 have HX2:=zH (HX1.out.nb n12)
 have M2:=zH (M1.out.tr n12)
 have G1:=zH (F1.out.1.below n12)
 have G2:=zH (F2.out.1.below n12)
 clear hw2 yb n12
 have NB:RowKit.Hid (Nb w2 w2.drew):=zH (show Nb w2 w2.drew from Nb.drewN w2 1)
 have hc0:w2.drew.cell? ⟨w1.heap.size,3,none⟩=some (.int .u8 1):=(YA.out.nb NB.out).cell 3
 go_region_held3 (fun w'=>w'.cell? ⟨w1.heap.size,3,none⟩=some (.int .u8 1)) (first | go_keep | exact(YA.out.nb NB.out).cell 3)
  (first
   | (go_at_call 135
      refine(zg5 _).mono ?_
      rintro e w6 ⟨rfl,n6⟩
      have NB:=zH (NB.out.tr n6)
      clear n6)
   | (go_at_call 134
      refine(HP2.out _ _ _ (G2.out.below NB.out)).mono ?_
      rintro e w7 ⟨⟨a7,c7,rfl,f7⟩,n7⟩
      have s7:=NB.out.size
      have F7:=zH (show zf w2 w7 _ _ from f7.less s7)
      have NB:=zH (NB.out.tr n7)
      clear f7 n7 s7))
 have N7:=zH NB.out
 clear NB hc0
 go_wp2_with fail
 have BA:=zH (fun w' (n:Nb w7 w')=>show Bs w' (some ⟨w1.heap.size,0,none⟩) 4 zy from Bs.at4 ((YA.out.nb N7.out).nb n) (by omega) (by omega) (by omega) (by omega))
 have BB:=zH (fun w' (n:Nb w7 w')=>show Bs w' (some ⟨w1.heap.size+1,0,none⟩) 4 z0u from Bs.at4 ((YB.out.nb N7.out).nb n) (by omega) (by omega) (by omega) (by omega))
 have HX7:=zH (HX2.out.nb N7.out)
 have M7:=zH (M2.out.tr N7.out)
 have G7:=zH (G1.out.below N7.out)
 have F7b:=zH F7.out.bs
 have NB:RowKit.Hid (Nb w7 w7.drew):=zH (show Nb w7 w7.drew from Nb.drewN w7 1)
 have l4:w1.heap.size+2<=w7.heap.size:=by have:=(YB.out.nb N7.out).lt;omega
 have ND:=zH (show Nb w7 (w7.alloc (.cells #[.slice a1 P.length c1,.slice (some ⟨w1.heap.size,0,none⟩) 4 4,.slice a7 T.length c7,.slice (some ⟨w1.heap.size+1,0,none⟩) 4 4] 35)).drew from(Nb.rfl.al _).tr (Nb.drewN _ 1))
 have D:=zH (show Blk (w7.alloc (.cells #[.slice a1 P.length c1,.slice (some ⟨w1.heap.size,0,none⟩) 4 4,.slice a7 T.length c7,.slice (some ⟨w1.heap.size+1,0,none⟩) 4 4] 35)).drew w7.heap.size #[.slice a1 P.length c1,.slice (some ⟨w1.heap.size,0,none⟩) 4 4,.slice a7 T.length c7,.slice (some ⟨w1.heap.size+1,0,none⟩) 4 4] 35 from(Blk.new w7 _ _).nb (Nb.drewN _ 1))
 go_region_held3 (fun _=>True) (first | go_keep | trivial)
  (first
   | (go_at_call 46
      refine(z9o w7.heap.size 0 a1 (some ⟨w1.heap.size,0,none⟩) a7 (some ⟨w1.heap.size+1,0,none⟩) c1 4 c7 4 P zy T z0u _ (D.out.cell 0) (D.out.cell 1) (D.out.cell 2) (D.out.cell 3) (G7.out.below ND.out) (BA.out _ ND.out) (F7b.out.1.below ND.out) (BB.out _ ND.out) F1.out.2 (by simp) F7b.out.2 (by simp) HQ1.out (by rw[<- HQ.out];have:=HQ2.out;omega)).mono ?_
      rintro e w8 ⟨⟨a8,c8,rfl,f8⟩,n8⟩
      rw[<- HQ.out]at f8
      rw[<- HQ.out]
      have F8:=zH f8.bs
      have NB:=zH (ND.out.tr n8)
      clear f8 n8))
 have HX8:=zH (HX7.out.nb NB.out)
 have M8:=zH (M7.out.tr NB.out)
 clear NB D ND BA BB l4
 go_wp2_with fail
 refine(z5F a8 c8 Q P.length _ F8.out.1 F8.out.2 (by have:=HQ2.out;omega)).mono ?_
 rintro e w9 ⟨⟨a9,c9,rfl,f9⟩,n9⟩
 have m9:=M8.out.tr n9
 have hx9:=HX8.out.nb n9
 obtain⟨d0,d1,d2⟩:=hx9.c3
 obtain⟨g0,g1,g2⟩:=hx9.f3
 have s2:w.heap.size+2<=w8.heap.size:=HX8.out.lt
 have hfr:∀g,(Value.slice a9 (Q++ones 10).length c9).ownBlock=some g->w.heap.size+2<=g:=fun g hg=>by
  have:=f9.2 g hg
  omega
 have HB:=zH (z0n (v0 := .slice a9 (Q++ones 10).length c9) (v1 := .int .i64 P.length) (v2 := .int .i64 ((Q.length+1:Nat):Int)) hx9)
 have HW:=zH (z0P m9 (b:=w.heap.size+1) (by omega) (.slice a9 (Q++ones 10).length c9) (.int .i64 P.length) (.int .i64 ((Q.length+1:Nat):Int)))
 have HF:=zH (show zf w (put3 w9 (w.heap.size+1) (.slice a9 (Q++ones 10).length c9) (.int .i64 P.length) (.int .i64 ((Q.length+1:Nat):Int))) (.slice a9 (Q++ones 10).length c9) (Q++ones 10) from⟨f9.1.put3 (fun g hg=>by have:=hfr g hg;omega) _ _ _,fun g hg=>by have:=hfr g hg;omega⟩)
 obtain⟨Z,hZ⟩:∃Z,Z=Q++ones 10:=⟨_,rfl⟩
 rw[<- hZ]at HB HW HF
 have HZ:=zH hZ
 rw[<- hZ]
 obtain⟨K2,hK2⟩:∃K2:Int,K2=((Q.length+1:Nat):Int):=⟨_,rfl⟩
 rw[<- hK2]at HB HW HF
 rw[<- hK2]
 have HK2:=zH hK2
 clear f9 n9 hx9 hfr hZ hK2 m9
 go_wp2
 change bodyPost _ _ _ _ _ (put3 w9 (w.heap.size+1) (.slice a9 Z.length c9) (.int .i64 P.length) (.int .i64 K2))
 generalize put3 w9 (w.heap.size+1) (.slice a9 Z.length c9) (.int .i64 P.length) (.int .i64 K2)=W at *
 obtain⟨e0,e1,e2⟩:=HB.out.c3
 exact bodyPost_ret (v := .tuple #[.agg #[.slice a9 Z.length c9,.int .i64 P.length,.int .i64 K2],.int .i64 0]) (by simp[results,Tryz.results112,go_sem,e0,e1,e2]) rfl ⟨⟨a9,c9,by rw[HZ.out,HK2.out];rfl,by rw[<- HZ.out];exact HF.out⟩,HW.out⟩
theorem zdf (f:Hd) (a:Option Addr) (cap:Nat) (l:List Nat) (w:World) (h:Bs w a cap l) (hW:WdX f) (hk:z1r w) (hl:zV w) :
    Calls Tryz.prog 112 #[.agg (f.cs (.slice a l.length cap))] w fun e w'=>z4B w (wxC f l) (z1y f l) (z29 f l) (z3A f l) e w'/\Nb w w':=by
 cases hok:okX f l with
 | true =>
   rw[show z3A f l=0 by rw[z3A,if_pos hok]]
   exact zhv f a cap l w h hW hk hl hok
 | false =>
   rw[show z3A f l=2 by simp[z3A,hok],show wxC f l=[] by simp[wxC,hok],show z1y f l=0 by simp[z1y,hok],show z29 f l=0 by simp[z29,hok]]
   exact zdK f a cap l w h hW hk hl hok
end Go.Proofs.YtplbmlpdefpplaaGreatDoor
