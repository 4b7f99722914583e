
/- The document's own Wire of an FD frame. No conditions but sizes. -/
import Derived.Test.YtplbmlpdefpplaaGreatDoorGq
set_option maxHeartbeats 8000000
set_option maxRecDepth 100000
namespace Go.Proofs.YtplbmlpdefpplaaGreatDoor
set_option linter.unusedVariables false
set_option linter.unusedSimpArgs false
open Go.RowKit
theorem z8O (f:Hd) (a:Option Addr) (cap:Nat) (l:List Nat) (w:World) (h:Bs w a cap l) (hn:a=none->cap=0) (hI:0<=f.I) (hok:okD f l=false) :
    Calls Tryz.prog 25 #[.agg (f.cs (.slice a l.length cap))] w fun e w'=>z4B w [] 0 0 2 e w'/\Nb w w':=by
 have hL:=h.len
 have hp:=fun w' (n:Nb w w')=>z4w f a cap l w' (h.below n) hn hI
 rw[show bdC f l=[] by simp[bdC,hok],show z3w f l=2 by simp[z3w,hok]]at hp
 obtain⟨K,I,X,R,B,E,S,D,V,A⟩:=f
 simp only[Hd.cs]at hp ⊢
 have HP:=zH hp
 clear hp h hI hok
 go_enter Tryz.func25,Tryz.ntmps25
 go_wp2_with fail
 refine(HP.out _ ((Nb.rfl.al _).al _)).mono ?_
 rintro e w1 ⟨⟨a1,c1,rfl,f1⟩,n1⟩
 have m1:Nb w w1:=((Nb.rfl.al _).al _).tr n1
 have hx:=(Blk.new (w.alloc (.cells #[.int .i64 K,.int .u32 I,.bool X,.bool R,.bool B,.bool E,.bool S,.int .u8 D,.int .u8 V,.int .u32 A,.slice a l.length cap] 37)) #[.slice none 0 0,.int .i64 0,.int .i64 0] 52).nb n1
 rw[World.size_alloc]at hx
 obtain⟨d0,d1,d2⟩:=hx.c3
 obtain⟨g0,g1,g2⟩:=hx.f3
 have HB:=zH (z0n (v0 := .slice none 0 0) (v1 := .int .i64 0) (v2 := .int .i64 0) hx)
 have HW:=zH (z0P m1 (b:=w.heap.size+1) (by omega) (.slice none 0 0) (.int .i64 0) (.int .i64 0))
 clear f1 n1 hx m1
 go_wp2
 change bodyPost _ _ _ _ _ (put3 w1 (w.heap.size+1) (.slice none 0 0) (.int .i64 0) (.int .i64 0))
 generalize put3 w1 (w.heap.size+1) (.slice none 0 0) (.int .i64 0) (.int .i64 0)=W at *
 obtain⟨e0,e1,e2⟩:=HB.out.c3
 exact bodyPost_ret (v := .tuple #[.agg #[.slice none 0 0,.int .i64 0,.int .i64 0],.int .i64 2]) (by simp[results,Tryz.results25,go_sem,e0,e1,e2]) rfl ⟨⟨none,0,rfl,z04.nil _,fun g hg=>by cases hg⟩,HW.out⟩
theorem za0 (f:Hd) (a:Option Addr) (cap:Nat) (l:List Nat) (w:World) (h:Bs w a cap l) (hn:a=none->cap=0) (hI:0<=f.I) (hok:okD f l=true) :
    Calls Tryz.prog 25 #[.agg (f.cs (.slice a l.length cap))] w fun e w'=>z4B w (wdC f l) (z1O f l) (z25 f l) 0 e w'/\Nb w w':=by
 have hL:=h.len
 obtain⟨i,ef,et,hh,hi⟩:=z1Q hok hI
 have h64:=zfe hok
 have hp:=fun w' (n:Nb w w')=>z4w f a cap l w' (h.below n) hn hI
 have hbl:=z5L hok
 have hch:chk (bdC f l)=true:=z0g z4y (by omega)
 have hhl:(headD f.I.toNat).length=16:=z2Z _
 have hch2:chk (headD f.I.toNat)=true:=z0g (z8M _) (by omega)
 rw[show wdC f l=zh (bdC f l)++z4I l.length (zh (bdC f l)) (bdC f l)++ones 10 by rw[wdC,if_pos hok,rwD],show z1O f l=(zh (headD f.I.toNat)).length by rw[z1O,if_pos hok],
  show z25 f l=(zh (bdC f l)++z4I l.length (zh (bdC f l)) (bdC f l)).length+1 by rw[z25,if_pos hok,rwD]]
 rw[show z3w f l=0 by rw[z3w,if_pos hok]]at hp
 have hp2:=fun w' (a':Option Addr) (c':Nat) (hb:Bs w' a' c' (bdC f l))=>z1n a' c' (bdC f l) w' hb hch
 have hp3:=fun w' (a':Option Addr) (c':Nat) (hb:Bs w' a' c' (headD f.I.toNat))=>z1n a' c' (headD f.I.toNat) w' hb hch2
 have hp4:=fun w'=>z4t i f.K f.X f.R f.B f.E f.S f.D f.V f.A (.slice a l.length cap) w' (by omega)
 rw[<- et]at hp4
 have eI:((f.I.toNat:Nat):Int)=f.I:=by omega
 rw[eI]at hp4
 have hpl:=(zr (bdC f l)).1
 have hpl1:=(zr (bdC f l)).2
 have hpl3:=(zr (headD f.I.toNat)).1
 have hpl4:(zh (headD f.I.toNat)).length<=1000:=by omega
 have hpb:=z0j (z4y (f:=f) (l:=l))
 have hfx:z4I l.length (zh (bdC f l)) (bdC f l)=zv 4 true (zl (zh (bdC f l))) (zw ((zh (bdC f l)).length - (bdC f l).length)++z1R (zx l.length) (zh (bdC f l)++zw ((zh (bdC f l)).length - (bdC f l).length))):=rfl
 have hfn:=z50 l.length (zh (bdC f l)) (bdC f l)
 have hfn1:0 < (z4I l.length (zh (bdC f l)) (bdC f l)).length:=by rw[hfn];split<;>omega
 have hfn2:(z4I l.length (zh (bdC f l)) (bdC f l)).length<=32:=by rw[hfn];split<;>omega
 have hla:zl (zh (bdC f l))<=1:=z1a hpb
 have hlg:=z1K (zh (bdC f l))
 have hpp:=hpb
 generalize z4I l.length (zh (bdC f l)) (bdC f l)=T at *
 clear hch hch2
 generalize bdC f l=L at *
 generalize zh L=P at *
 obtain⟨k,hkk⟩:∃k,P.length - L.length=k:=⟨_,rfl⟩
 rw[hkk]at hfx
 have hT4:=z05 k
 have hTb:=z0B k
 have hkI:(P.length:Int) - (L.length:Int)=(k:Int):=by omega
 have hp5:=fun w'=>z4p k w'
 generalize zw k=Y at *
 have hMb:∀x∈P++Y,x<=1:=fun x hx=>by
  rcases List.mem_append.1 hx with hx | hx
  ·exact hpb x hx
  ·exact hTb x hx
 have hML:(P++Y).length=P.length+4:=by rw[List.length_append,hT4]
 have hMc:chk (P++Y)=true:=z0g hMb (by omega)
 have hzn:szK (zx l.length:Int)≠0:=by rw[z3c];split<;>omega
 obtain⟨q1,q2⟩:=z2Y (k:=(zx l.length:Int)) hzn hMc
 have hp6:=fun w' (a':Option Addr) (c':Nat) (hb:Bs w' a' c' (P++Y)) (hnn:a'=none->c'=0)=>by
  have:=z4R (zx l.length:Int) a' c' (P++Y) w' hb hnn
  rw[q1,q2]at this
  exact this
 have hSb:=z73 (zx l.length:Int) (P++Y)
 have hSl:(z1R (zx l.length:Int) (P++Y)).length=if 16 < l.length then 21 else 17:=by rw[z1G,z3c]
 have hSl2:(z1R (zx l.length:Int) (P++Y)).length<=21:=by rw[hSl];split<;>omega
 generalize z1R (zx l.length:Int) (P++Y)=S2 at *
 have hTS:(P++Y++S2).drop P.length=Y++S2:=by rw[List.append_assoc,List.drop_left]
 have hTSb:∀x∈Y++S2,x<=1:=fun x hx=>by
  rcases List.mem_append.1 hx with hx | hx
  ·exact hTb x hx
  ·exact hSb x hx
 have hTSl:(Y++S2).length=4+S2.length:=by rw[List.length_append,hT4]
 have hTSc:chk (Y++S2)=true:=z0g hTSb (by omega)
 have hdl:(P++Y++S2).length - P.length=(Y++S2).length:=by simp only[List.length_append];omega
 have hp7:=fun w' (a':Option Addr) (c':Nat) (hb:Bs w' a' c' (Y++S2))=>by
  have:=z6I (zl P) a' c' (Y++S2) 4 true w' hla hb (by omega) (by omega) hTSc
  rw[<- hdl,<- hfx]at this
  exact this
 generalize hZ:P++Y++S2=Z at *
 have hZl:P.length<=Z.length:=by rw[<- hZ];simp only[List.length_append];omega
 have hZ2:Z.length<=10000:=by rw[<- hZ];simp only[List.length_append];omega
 generalize Y++S2=U at *
 generalize hM:P++Y=M at *
 obtain⟨kk,hkk2⟩:∃kk,zx l.length=kk:=⟨_,rfl⟩
 have hp8:=fun w'=>z9E l.length w'
 rw[hkk2]at hp6 hp8
 obtain⟨la,hla2⟩:∃la,zl P=la:=⟨_,rfl⟩
 rw[hla2]at hlg hla hp7
 obtain⟨z,hz⟩:∃z,P.length - 1=z:=⟨_,rfl⟩
 have hP1:0 < P.length:=by omega
 have hpl2:P.length<=2000:=by omega
 have hwr:IntKind.i64.wrap ((P.length:Int) - 1)=(z:Int):=by rw[IntWalk.i64_in _ (by omega)];omega
 have hz0:(0:Int)<=(z:Int):=by omega
 have hz1:(z:Int) < (P.length:Int):=by omega
 have hzP:z < P.length:=by omega
 have hlz:P.getD z 0=la:=by rw[hlg,hz]
 have HP:=zH hp
 have HP2:=zH hp2
 have HP3:=zH hp3
 have HP4:=zH hp4
 have HP5:=zH hp5
 have HP6:=zH hp6
 have HP7:=zH hp7
 have HP8:=zH hp8
 have HM:=zH hM
 have HY4:=zH hT4
 have HU:=zH hTS
 have HZL:=zH hZl
 have HTN:=zH (And.intro hfn1 hfn2)
 have HLZ:=zH hlz
 have HP1:=zH hP1
 have HZP:=zH hzP
 clear hp hp2 hp3 hp4 hp5 hp6 hp7 hp8 h hI hok hbl hpl hpl1 hpl3 hi et ef hhl eI h64 hh hM hT4 hTS hZl hfn1 hfn2 hfn hlz hla hla2 hlg hz hZ hkk hkk2 hTb hMb hML hMc hzn q1 q2 hSb hSl hSl2 hTSb hTSl hTSc hdl hfx hpb hpp hP1 hzP
 obtain⟨K,I,X,R,B,E,S,D,V,A⟩:=f
 simp only[Hd.cs]at HP HP2 HP3 HP4 hpl4 ⊢
 generalize headD I.toNat=H at *
 generalize zh H=PH at *
 obtain⟨w0,hw0⟩:∃w0,w0=(w.alloc (.cells #[.int .i64 K,.int .u32 I,.bool X,.bool R,.bool B,.bool E,.bool S,.int .u8 D,.int .u8 V,.int .u32 A,.slice a l.length cap] 37)).alloc (.cells #[.slice none 0 0,.int .i64 0,.int .i64 0] 52):=⟨_,rfl⟩
 have B0:=zH (show Blk w0 w.heap.size _ _ by rw[hw0];exact(Blk.new w #[.int .i64 K,.int .u32 I,.bool X,.bool R,.bool B,.bool E,.bool S,.int .u8 D,.int .u8 V,.int .u32 A,.slice a l.length cap] 37).nb (Nb.rfl.al _))
 have hx0:=Blk.new (w.alloc (.cells #[.int .i64 K,.int .u32 I,.bool X,.bool R,.bool B,.bool E,.bool S,.int .u8 D,.int .u8 V,.int .u32 A,.slice a l.length cap] 37)) #[.slice none 0 0,.int .i64 0,.int .i64 0] 52
 rw[World.size_alloc,<- hw0]at hx0
 have X0:=zH hx0
 have NW:=zH (show Nb w w0 by rw[hw0];exact(Nb.rfl.al _).al _)
 clear hx0
 go_enter Tryz.func25,Tryz.ntmps25
 go_wp2_with fail
 rw[<- hw0]
 clear hw0
 refine(HP.out _ NW.out).mono ?_
 rintro e w1 ⟨⟨a1,c1,rfl,b1⟩,n1⟩
 have M1:=zH n1
 have B1:=zH b1
 clear b1 n1
 go_wp2_with fail
 refine(HP2.out _ a1 c1 B1.out).mono ?_
 rintro e w2 ⟨⟨a2,c2,rfl,f2⟩,n2⟩
 have M2:=zH (M1.out.tr n2)
 have F2:=zH (f2.less M1.out.size)
 clear f2 n2
 go_wp2_with fail
 refine(HP5.out _).mono ?_
 rintro e w3 ⟨⟨a3,c3,rfl,b3⟩,n3⟩
 have F3:=zH (F2.out.keep n3)
 have M3:=zH (M2.out.tr n3)
 have B3:=zH b3
 obtain⟨c0,c1',c2',c3',c4,c5,c6,c7,c8,c9,c10⟩:=(B0.out.nb M3.out).c11
 clear b3 n3 c0 c1' c2' c3' c4 c5 c6 c7 c8 c9
 go_wp2_with fail
 refine(HP8.out _).mono ?_
 rintro e w4 ⟨rfl,rfl⟩
 clear c10
 have fl:=zf.lit w3 [] #[] (by simp) 0 rfl (by simp) (by simp)
 have hFk:=(F3.out.keep (Nb.rfl.al (.cells #[] 5))).bs
 go_wp2_with (at_builtin;refine zd _ rfl (.tmp 36) (.tmp 37) rfl (.slice (some ⟨w3.heap.size,0,none⟩) 0 0) [] rfl fl.1 a2 c2 P P.length rfl rfl hFk.1 (fun h0=>⟨by subst h0;rw[hFk.1.none_len];rfl,hFk.2 h0⟩) (by simp;omega) ?_)
 intro v5 w5 ho hk hg
 have f5:=fl.app0 (Nb.rfl.al _) ho hk (fun g h=>by have:=hg g h;simpa using this)
 have F5:=zH (show zf w3 w5 v5 P by simpa using f5.1)
 have N5:=zH f5.2
 have B5:=zH (B3.out.below f5.2)
 have hB5n:a3=none->Y.length=0/\c3=0:=B3.out.noneN rfl (by rw[HY4.out];omega)
 clear ho hk hg f5 fl hFk
 go_wp2_with (at_builtin;refine zd _ rfl (.tmp 38) (.tmp 39) rfl v5 P rfl F5.out.1 a3 c3 Y Y.length rfl rfl B5.out hB5n (by rw[HY4.out];omega) ?_)
 intro v6 w6 ho hk hg
 have f6:=F5.out.app0 N5.out ho hk hg
 rw[HM.out]at f6
 obtain⟨a6,c6,rfl,_,_⟩:=f6.1.1.bs
 have F6:=zH f6.1.bs
 have N6:=zH f6.2
 clear ho hk hg f6 hB5n
 go_wp2_with fail
 refine(HP6.out _ a6 c6 F6.out.1 F6.out.2).mono ?_
 rintro e w7 ⟨⟨a7,c7,rfl,b7⟩,n7⟩
 have N7:=zH (N6.out.tr n7)
 have B7:=zH (b7.cutL P.length HZL.out)
 have hcut:=fun w=>z38 a7 Z.length c7 P.length HZL.out w
 rw[HU.out]at B7
 clear b7 n7
 obtain⟨aU,haU⟩:∃aU,z7K a7 c7 P.length=aU:=⟨_,rfl⟩
 rw[haU]at B7 hcut
 clear haU
 have M7:=zH (M3.out.tr N7.out)
 have F7:=zH (F3.out.keep N7.out)
 obtain⟨gA,cA,hvA⟩:=F7.out.1.shape HP1.out
 simp only[Value.slice.injEq]at hvA
 obtain⟨rfl,-,rfl⟩:=hvA
 have hclk:∀w',Nb w7 w'->w'.cell? ⟨gA,z,none⟩=some (.int .u8 (la:Nat)):=fun w' hn=>by
  have:=(F7.out.keep hn).1.cell z HZP.out
  rwa[HLZ.out]at this
 have HCL:=zH hclk
 have hc0:w7.drew.cell? ⟨gA,z,none⟩=some (.int .u8 la):=hclk _ (Nb.drewN w7 1)
 clear hclk
 go_wp2_with fail
 have NB:RowKit.Hid (Nb w7 w7.drew):=zH (Nb.drewN w7 1)
 go_region_held3 (fun w'=>w'.cell? ⟨gA,z,none⟩=some (.int .u8 la)) (first | go_keep | exact HCL.out _ NB.out | exact HCC.out)
  (first
   | (refine zdL _ rfl (.tmp 44) (.tmp 56) rfl (.slice (some ⟨gA,0,none⟩) P.length c2) P ?_ ?_ a9 d9 T T.length rfl ?_ ?_ HTN.out.1 ?_ ?_
      ·simp[Act.eval,Act.put]
      ·exact(F7.out.keep NB.out).1
      ·simp[Act.eval,Act.put]
      ·exact F9.out
      ·have:=HTN.out.2
       omega
      intro va wa ho hk hg hcc
      have HCC:=zH (show wa.cell? ⟨gA,z,none⟩=some (.int .u8 la) by have:=hcc gA c2 z rfl HZP.out;rwa[HLZ.out]at this)
      have f57:=zf.app0 (F7.out.keep NB.out) (M7.out.tr NB.out) ho hk hg
      have FA:=zH f57.1
      have NA:=zH f57.2
      clear ho hk hg hcc f57)
   | (go_at_call 53
      refine(z9x _).mono ?_
      rintro e w8 ⟨rfl,n8⟩
      have NB:=zH (NB.out.tr n8)
      clear n8)
   | (go_at_call 52
      refine(HP7.out _ _ _ (B7.out.below NB.out)).mono ?_
      rintro e w9 ⟨⟨a9,d9,rfl,b9⟩,n9⟩
      have F9:=zH b9
      have NB:=zH (NB.out.tr n9)
      clear b9 n9))
 obtain⟨ab,db,rfl,_,_⟩:=FA.out.1.bs
 obtain⟨Q,hQ⟩:∃Q,Q=P++T:=⟨_,rfl⟩
 have HQ:=zH hQ
 have hQl:Q.length<=3000:=by rw[hQ,List.length_append];have:=HTN.out.2;omega
 rw[<- hQ]at FA ⊢
 have HQl:=zH hQl
 clear hQ hQl HCC
 go_wp2_with fail
 refine(z5B _).mono ?_
 rintro e wc ⟨⟨ac,dc,rfl,fc⟩,nc⟩
 have hfc:=FA.out.keep nc
 have hnc:=NA.out.tr nc
 have hbc:=fc.1.asBs.1
 clear fc nc
 go_wp2_with (at_builtin;refine zd _ rfl (.tmp 58) (.tmp 59) rfl (.slice ab Q.length db) Q rfl hfc.1 ac dc (ones 10) 10 (z0a 10).symm rfl hbc (hbc.noneN (z0a 10) (by omega)) (by rw[z0a];have:=HQl.out;omega) ?_)
 intro vd wd ho hk hg
 have fd:=hfc.app0 hnc ho hk hg
 obtain⟨ad,dd,rfl,_,_⟩:=fd.1.1.bs
 have FD:=zH fd.1
 have MD:=zH fd.2
 clear ho hk hg fd hfc hnc hbc
 obtain⟨Z2,hZ2⟩:∃Z2,Z2=Q++ones 10:=⟨_,rfl⟩
 have HZ2:=zH hZ2
 have hZl:=zH (show Z2.length=Q.length+10 by rw[hZ2,List.length_append,z0a])
 rw[<- hZ2]at FD
 rw[<- hZ2]
 clear hZ2
 obtain⟨u0,u1,u2,u3,u4,u5,u6,u7,u8,u9,u10⟩:=(B0.out.nb MD.out).c11
 go_wp2_with fail
 refine(HP4.out _).mono ?_
 rintro e we ⟨⟨ae,de,rfl,fe⟩,ne⟩
 have ME:=zH (MD.out.tr ne)
 have FE:=zH (FD.out.keep ne)
 have BE:=zH fe.1.asBs.1
 clear fe ne u0 u1 u2 u3 u4 u5 u6 u7 u8 u9 u10
 go_wp2_with fail
 refine(HP3.out _ ae de BE.out).mono ?_
 rintro e wf ⟨⟨af,df,rfl,ff⟩,nf⟩
 have mf:=ME.out.tr nf
 have fef:=FE.out.keep nf
 have hxf:=X0.out.nb mf
 obtain⟨d0,d1,d2⟩:=hxf.c3
 obtain⟨g0,g1,g2⟩:=hxf.f3
 have s0:w.heap.size+2<=w0.heap.size:=X0.out.lt
 have eq9:(Z2.length:Int) - 9=(Q.length:Int)+1:=by rw[hZl.out];omega
 have HB:=zH (z0n (v0 := .slice ad Z2.length dd) (v1 := .int .i64 PH.length) (v2 := .int .i64 ((Z2.length:Int) - 9)) hxf)
 have HW:=zH (z0P (NW.out.tr mf) (b:=w.heap.size+1) (by omega) (.slice ad Z2.length dd) (.int .i64 PH.length) (.int .i64 ((Z2.length:Int) - 9)))
 have HF:=zH (show zf w _ _ _ from⟨fef.1.put3 (b:=w.heap.size+1) (fun g hg=>by have:=fef.2 g hg;omega) (.slice ad Z2.length dd) (.int .i64 PH.length) (.int .i64 ((Z2.length:Int) - 9)),fun g hg=>by have:=fef.2 g hg;omega⟩)
 have E9:=zH eq9
 have lq:Z2.length<=4000:=by rw[hZl.out];have:=HQl.out;omega
 clear ff nf hxf mf fef eq9
 go_wp2
 change bodyPost _ _ _ _ _ (put3 wf (w.heap.size+1) (.slice ad Z2.length dd) (.int .i64 PH.length) (.int .i64 ((Z2.length:Int) - 9)))
 generalize put3 wf (w.heap.size+1) (.slice ad Z2.length dd) (.int .i64 PH.length) (.int .i64 ((Z2.length:Int) - 9))=W at *
 obtain⟨e0,e1,e2⟩:=HB.out.c3
 exact bodyPost_ret (v := .tuple #[.agg #[.slice ad Z2.length dd,.int .i64 PH.length,.int .i64 ((Z2.length:Int) - 9)],.int .i64 0]) (by simp[results,Tryz.results25,go_sem,e0,e1,e2]) rfl ⟨⟨ad,dd,by rw[E9.out,<- HQ.out,<- HZ2.out];rfl,by rw[<- HQ.out,<- HZ2.out];exact HF.out⟩,HW.out⟩
theorem z92 (f:Hd) (a:Option Addr) (cap:Nat) (l:List Nat) (w:World) (h:Bs w a cap l) (hn:a=none->cap=0) (hI:0<=f.I) :
    Calls Tryz.prog 25 #[.agg (f.cs (.slice a l.length cap))] w fun e w'=>z4B w (wdC f l) (z1O f l) (z25 f l) (z3w f l) e w'/\Nb w w':=by
 cases hok:okD f l with
 | true =>
   rw[show z3w f l=0 by rw[z3w,if_pos hok]]
   exact za0 f a cap l w h hn hI hok
 | false =>
   rw[show z3w f l=2 by simp[z3w,hok],show wdC f l=[] by simp[wdC,hok],show z1O f l=0 by simp[z1O,hok],show z25 f l=0 by simp[z25,hok]]
   exact z8O f a cap l w h hn hI hok
end Go.Proofs.YtplbmlpdefpplaaGreatDoor
