
/- The document's own Wire of an XL frame. No conditions but sizes. -/
import Derived.Test.YtipefblpppmabaaGreatDoorXlB
import Derived.Test.YtipefblpppmabaaGreatDoorClaS
set_option maxHeartbeats 3200000
set_option maxRecDepth 100000
namespace Go.Proofs.YtipefblpppmabaaGreatDoor
set_option linter.unusedVariables false
set_option linter.unusedSimpArgs false
open Go.RowKit
theorem refwire8_bad (f:Hd) (a:Option Addr) (cap:Nat) (l:List Nat) (w:World) (h:Bs w a cap l) (hn:a=none->cap=0) (hW:WdX f) (hok:okX f l=false) :
    Calls Tryz.prog 47 #[.agg (f.cs (.slice a l.length cap))] w fun e w'=>AnsV [] 0 0 2 e w'/\Nb w w':=by
 have hL:=h.len
 have hp:=fun w' (n:Nb w w')=>refbody8_any f a cap l w' (h.below n) hn hW
 rw[show bxC f l=[] by simp[bxC,hok],show okXE f l=2 by simp[okXE,hok]] at hp
 obtain⟨K,I,X,R,B,E,S,D,V,A⟩:=f
 simp only[Hd.cs] at hp ⊢
 have HP:=Lib.hid hp
 clear hp h hW hok
 go_enter Tryz.func47,Tryz.ntmps47
 go_wp2_with fail
 refine (HP.out _ ((Nb.rfl.al _).al _)).mono ?_
 rintro e w1 ⟨⟨a1,c1,rfl,f1⟩,n1⟩
 have m1:Nb w w1:=((Nb.rfl.al _).al _).tr n1
 have hx:=(Blk.new (w.alloc (.cells #[.int .i64 K,.int .u32 I,.bool X,.bool R,.bool B,.bool E,.bool S,.int .u8 D,.int .u8 V,.int .u32 A,.slice a l.length cap] 34)) #[.slice none 0 0,.int .i64 0,.int .i64 0] 60).nb n1
 rw[World.size_alloc] at hx
 obtain⟨d0,d1,d2⟩:=hx.c3
 obtain⟨g0,g1,g2⟩:=hx.f3
 have HB:=Lib.hid (put3_blk (v0 := .slice none 0 0) (v1 := .int .i64 0) (v2 := .int .i64 0) hx)
 have HW:=Lib.hid (put3_nb m1 (b:=w.heap.size+1) (by omega) (.slice none 0 0) (.int .i64 0) (.int .i64 0))
 clear f1 n1 hx m1
 go_wp2
 change bodyPost _ _ _ _ _ (put3 w1 (w.heap.size+1) (.slice none 0 0) (.int .i64 0) (.int .i64 0))
 generalize put3 w1 (w.heap.size+1) (.slice none 0 0) (.int .i64 0) (.int .i64 0)=W at *
 obtain⟨e0,e1,e2⟩:=HB.out.c3
 exact bodyPost_ret (v := .tuple #[.agg #[.slice none 0 0,.int .i64 0,.int .i64 0],.int .i64 2]) (by simp[results,Tryz.results47,go_sem,e0,e1,e2]) rfl ⟨⟨none,0,rfl,Bs.nil _⟩,HW.out⟩
theorem refwire8_ok (f:Hd) (a:Option Addr) (cap:Nat) (l:List Nat) (w:World) (h:Bs w a cap l) (hn:a=none->cap=0) (hW:WdX f) (hok:okX f l=true) :
    Calls Tryz.prog 47 #[.agg (f.cs (.slice a l.length cap))] w fun e w'=>AnsV (wxC f l) (wArbX f l) (wAckX f l) 0 e w'/\Nb w w':=by
 have hL:=h.len
 have hp:=fun w' (n:Nb w w')=>refbody8_any f a cap l w' (h.below n) hn hW
 rw[show okXE f l=0 by rw[okXE,if_pos hok]] at hp
 obtain⟨i,d,v,A,S,ef,z1,z2,hi,z3,z4,z5,z6,z7,et⟩:=okX_nums hok hW
 clear z1 z2 z3 z4 z5 z6 z7
 have eI:f.I=(i:Int):=by rw[ef]
 have hbl:=bx_len hok
 have hln:=lenX hok
 have hch:chk (bxC f l)=true:=chk_of bx_bit (by omega)
 have hsz:=szF_bound (n:=(bxC f l).length) (by omega)
 have hge:=szF_ge 8 false (bxC f l).length
 have hp2:=fun w' (a':Option Addr) (c':Nat) (hb:Bs w' a' c' (bxC f l))=>refraw_any 1 a' c' (bxC f l) 8 false w' (by omega) hb (by omega) (by omega) hch
 have hfl:=fxPut_len (E:=8) false 1 (bxC f l)
 rw[show wxC f l=putL (headX f.I.toNat)++startX++fxPut 8 false 1 (bxC f l)++stopX++ones 10 by rw[wxC,if_pos hok,rwX],show wArbX f l=(putL (headX f.I.toNat)).length by rw[wArbX,if_pos hok],
  show wAckX f l=(putL (headX f.I.toNat)++startX++fxPut 8 false 1 (bxC f l)++stopX).length+1 by rw[wAckX,if_pos hok,rwX],et]
 have hpl:=(putL_len2 (headX i)).1
 rw[headX_len] at hpl
 have hp3:=fun w'=>refhead8_any i w' (by omega)
 have hp4:=fun w' (a':Option Addr) (c':Nat) (hb:Bs w' a' c' (headX i))=>stuffed_any a' c' (headX i) w' hb (chk_of (headX_bit i) (by rw[headX_len];omega))
 have hfx1:0 < (fxPut 8 false 1 (bxC f l)).length:=by omega
 have hfx2:(fxPut 8 false 1 (bxC f l)).length<=20000:=by omega
 have HP:=Lib.hid hp
 have HP2:=Lib.hid hp2
 have HP3:=Lib.hid hp3
 have HP4:=Lib.hid hp4
 have HPL:=Lib.hid hpl
 have HF:=Lib.hid (And.intro hfx1 hfx2)
 have ls:=Lib.hid (show startX.length=4 by rfl)
 have lt:=Lib.hid (show stopX.length=4 by rfl)
 clear hp hp2 hp3 hp4 hpl hfx1 hfx2 hfl hge hsz hch hln hbl h hW hok et ef
 generalize fxPut 8 false 1 (bxC f l)=T at *
 generalize bxC f l=L at *
 generalize putL (headX i)=P at *
 generalize headX i=H at *
 obtain⟨K,I,X,R,B,E,S',D,V,A'⟩:=f
 simp only at eI
 subst eI
 simp only[Hd.cs] at HP ⊢
 obtain⟨L5,hL5⟩:∃ L5,L5=P++startX:=⟨_,rfl⟩
 obtain⟨L6,hL6⟩:∃ L6,L6=L5++T:=⟨_,rfl⟩
 obtain⟨Q,hQ⟩:∃ Q,Q=L6++stopX:=⟨_,rfl⟩
 rw[<- hL5,<- hL6,<- hQ]
 have n5:=Lib.hid (show L5.length<=1000 by rw[hL5,List.length_append,ls.out];have:=HPL.out;omega)
 have n6:=Lib.hid (show L6.length<=30000 by rw[hL6,List.length_append];have:=n5.out;have:=HF.out.2;omega)
 have n7:=Lib.hid (show Q.length<=40000 by rw[hQ,List.length_append,lt.out];have:=n6.out;omega)
 have E5:=Lib.hid hL5
 have E6:=Lib.hid hL6
 have EQ:=Lib.hid hQ
 clear hL5 hL6 hQ
 obtain⟨w0,hw0⟩:∃ w0,w0=(w.alloc (.cells #[.int .i64 K,.int .u32 (i:Int),.bool X,.bool R,.bool B,.bool E,.bool S',.int .u8 D,.int .u8 V,.int .u32 A',.slice a l.length cap] 34)).alloc (.cells #[.slice none 0 0,.int .i64 0,.int .i64 0] 60):=⟨_,rfl⟩
 have B0:=Lib.hid (show Blk w0 w.heap.size _ _ by rw[hw0];exact (Blk.new w #[.int .i64 K,.int .u32 (i:Int),.bool X,.bool R,.bool B,.bool E,.bool S',.int .u8 D,.int .u8 V,.int .u32 A',.slice a l.length cap] 34).nb (Nb.rfl.al _))
 have hx0:=Blk.new (w.alloc (.cells #[.int .i64 K,.int .u32 (i:Int),.bool X,.bool R,.bool B,.bool E,.bool S',.int .u8 D,.int .u8 V,.int .u32 A',.slice a l.length cap] 34)) #[.slice none 0 0,.int .i64 0,.int .i64 0] 60
 rw[World.size_alloc,<- hw0] at hx0
 have X0:=Lib.hid hx0
 have NW:=Lib.hid (show Nb w w0 by rw[hw0];exact (Nb.rfl.al _).al _)
 clear hx0
 go_enter Tryz.func47,Tryz.ntmps47
 go_wp2_with fail
 rw[<- hw0]
 clear hw0
 refine (HP.out _ NW.out).mono ?_
 rintro e w1 ⟨⟨a1,c1,rfl,b1⟩,n1⟩
 have M1:=Lib.hid n1
 have B1:=Lib.hid b1
 clear b1 n1
 obtain⟨u0,u1,u2,u3,u4,u5,u6,u7,u8,u9,u10⟩:=(B0.out.nb M1.out).c11
 go_wp2_with fail
 clear u0 u1 u2 u3 u4 u5 u6 u7 u8 u9 u10
 refine (HP3.out _).mono ?_
 rintro e w2 ⟨⟨a2,c2,rfl,f2⟩,n2⟩
 have M2:=Lib.hid (M1.out.tr n2)
 have B2:=Lib.hid (B1.out.below n2)
 have F2:=Lib.hid f2.bs
 clear f2 n2
 go_wp2_with fail
 refine (HP4.out _ a2 c2 F2.out.1).mono ?_
 rintro e w3 ⟨⟨a3,c3,rfl,f3⟩,n3⟩
 have M3:=Lib.hid (M2.out.tr n3)
 have B3:=Lib.hid (B2.out.below n3)
 have F3:=Lib.hid f3.bs
 clear f3 n3 F2
 have fl:=Fresh.lit w3 [] #[] (by simp) 0 rfl (by simp) (by simp)
 have hFk:=F3.out.1.below (Nb.rfl.al (.cells #[] 5))
 go_wp2_with (at_builtin;refine wpList_appB _ rfl (.tmp 21) (.tmp 22) rfl (.slice (some ⟨w3.heap.size,0,none⟩) 0 0) [] rfl fl.1 a3 c3 P P.length rfl rfl hFk (fun h0=>⟨by subst h0;rw[hFk.none_len];rfl,F3.out.2 h0⟩) (by rw[List.length_nil];have:=HPL.out;omega) ?_)
 intro v4 w4 ho hk hg
 have f4:=fl.app0 (Nb.rfl.al _) ho hk (fun g h=>by have:=hg g h;simpa using this)
 have F4:=Lib.hid (show Fresh w3 w4 v4 P by simpa using f4.1)
 have N4:=Lib.hid f4.2
 clear ho hk hg f4 fl hFk
 go_wp2_with fail
 refine (refstart8_any _).mono ?_
 rintro e w5 ⟨⟨a5,c5,rfl,f5⟩,n5⟩
 have hf:=F4.out.keep n5
 have hm:=N4.out.tr n5
 have hb:=f5.1.asBs.1
 have hbn:=hb.noneN ls.out (by omega)
 clear f5 n5
 go_wp2_with (at_builtin;refine wpList_appB _ rfl (.tmp 23) (.tmp 24) rfl v4 P rfl hf.1 a5 c5 startX 4 ls.out.symm rfl hb hbn (by rw[ls.out];have:=HPL.out;omega) ?_)
 intro v6 w6 ho hk hg
 have f6:=hf.app0 hm ho hk hg
 rw[<- E5.out] at f6
 have F6:=Lib.hid f6.1
 have N6:=Lib.hid f6.2
 clear ho hk hg hf hm hb hbn f6
 go_wp2_with fail
 refine (refway8_any _).mono ?_
 rintro e w7 ⟨rfl,n7a⟩
 have N7:=Lib.hid (N6.out.tr n7a)
 have F7:=Lib.hid (F6.out.keep n7a)
 have B7:=Lib.hid (B3.out.below N7.out)
 clear n7a
 go_wp2_with fail
 refine (HP2.out _ a1 c1 B7.out).mono ?_
 rintro e w8 ⟨⟨a8,c8,rfl,b8⟩,n8⟩
 have hf:=F7.out.keep n8
 have hm:=N7.out.tr n8
 have hbn:=b8.noneN rfl HF.out.1
 clear n8
 go_wp2_with (at_builtin;refine wpList_appB _ rfl (.tmp 26) (.tmp 29) rfl v6 L5 rfl hf.1 a8 c8 T T.length rfl rfl b8 hbn (by have:=n5.out;have:=HF.out.2;omega) ?_)
 intro v9 w9 ho hk hg
 have f9:=hf.app0 hm ho hk hg
 rw[<- E6.out] at f9
 have F9:=Lib.hid f9.1
 have N9:=Lib.hid f9.2
 clear ho hk hg hf hm b8 hbn f9
 go_wp2_with fail
 refine (refstop8_any _).mono ?_
 rintro e wa ⟨⟨aa,ca,rfl,fa⟩,na⟩
 have hf:=F9.out.keep na
 have hm:=N9.out.tr na
 have hb:=fa.1.asBs.1
 have hbn:=hb.noneN lt.out (by omega)
 clear fa na
 go_wp2_with (at_builtin;refine wpList_appB _ rfl (.tmp 31) (.tmp 32) rfl v9 L6 rfl hf.1 aa ca stopX 4 lt.out.symm rfl hb hbn (by rw[lt.out];have:=n6.out;omega) ?_)
 intro vb wb ho hk hg
 have fb:=hf.app0 hm ho hk hg
 rw[<- EQ.out] at fb
 have FB:=Lib.hid fb.1
 have NB:=Lib.hid fb.2
 clear ho hk hg hf hm hb hbn fb
 go_wp2_with fail
 refine (tail6_any _).mono ?_
 rintro e wc ⟨⟨ac,cc,rfl,fc⟩,nc⟩
 have hf:=FB.out.keep nc
 have hm:=NB.out.tr nc
 have hb:=fc.1.asBs.1
 have hbn:=hb.noneN (ones_len 10) (by omega)
 clear fc nc
 go_wp2_with (at_builtin;refine wpList_appB _ rfl (.tmp 34) (.tmp 35) rfl vb Q rfl hf.1 ac cc (ones 10) 10 (ones_len 10).symm rfl hb hbn (by rw[ones_len];have:=n7.out;omega) ?_)
 intro vd wd ho hk hg
 have fd:=hf.app0 hm ho hk hg
 obtain⟨ad,dd,rfl,_,_⟩:=fd.1.1.bs
 obtain⟨Z2,hZ2⟩:∃ Z2,Z2=Q++ones 10:=⟨_,rfl⟩
 have hZl:=Lib.hid (show Z2.length=Q.length+10 by rw[hZ2,List.length_append,ones_len])
 rw[<- hZ2] at fd
 rw[<- hZ2]
 have FD:=Lib.hid fd.1
 have ND:=Lib.hid (M3.out.tr fd.2)
 have HZ2:=Lib.hid hZ2
 clear ho hk hg fd hf hm hb hbn hZ2
 have s3:=M3.out.size
 have hxf:=X0.out.nb ND.out
 obtain⟨d0,d1,d2⟩:=hxf.c3
 obtain⟨g0,g1,g2⟩:=hxf.f3
 have s0:w.heap.size+2<=w0.heap.size:=X0.out.lt
 have eq9:(Z2.length:Int) - 9=(Q.length:Int)+1:=by rw[hZl.out];omega
 have HB:=Lib.hid (put3_blk (v0 := .slice ad Z2.length dd) (v1 := .int .i64 P.length) (v2 := .int .i64 ((Z2.length:Int) - 9)) hxf)
 have HW:=Lib.hid (put3_nb (NW.out.tr ND.out) (b:=w.heap.size+1) (by omega) (.slice ad Z2.length dd) (.int .i64 P.length) (.int .i64 ((Z2.length:Int) - 9)))
 have HF9:=Lib.hid (FD.out.1.put3 (b:=w.heap.size+1) (fun g hg=>by have:=FD.out.2 g hg;omega) (.slice ad Z2.length dd) (.int .i64 P.length) (.int .i64 ((Z2.length:Int) - 9))).asBs.1
 have E9:=Lib.hid eq9
 have lq:Z2.length<=50000:=by rw[hZl.out];have:=n7.out;omega
 have lp:P.length<=100:=by have:=HPL.out;omega
 clear hxf eq9
 go_wp2
 change bodyPost _ _ _ _ _ (put3 wd (w.heap.size+1) (.slice ad Z2.length dd) (.int .i64 P.length) (.int .i64 ((Z2.length:Int) - 9)))
 generalize put3 wd (w.heap.size+1) (.slice ad Z2.length dd) (.int .i64 P.length) (.int .i64 ((Z2.length:Int) - 9))=W at *
 obtain⟨e0,e1,e2⟩:=HB.out.c3
 exact bodyPost_ret (v := .tuple #[.agg #[.slice ad Z2.length dd,.int .i64 P.length,.int .i64 ((Z2.length:Int) - 9)],.int .i64 0]) (by simp[results,Tryz.results47,go_sem,e0,e1,e2]) rfl ⟨⟨ad,dd,by rw[E9.out,<- HZ2.out];rfl,by rw[<- HZ2.out];exact HF9.out⟩,HW.out⟩
theorem refwire8_any (f:Hd) (a:Option Addr) (cap:Nat) (l:List Nat) (w:World) (h:Bs w a cap l) (hn:a=none->cap=0) (hW:WdX f) :
    Calls Tryz.prog 47 #[.agg (f.cs (.slice a l.length cap))] w fun e w'=>AnsV (wxC f l) (wArbX f l) (wAckX f l) (okXE f l) e w'/\Nb w w':=by
 cases hok:okX f l with
 | true =>
   rw[show okXE f l=0 by rw[okXE,if_pos hok]]
   exact refwire8_ok f a cap l w h hn hW hok
 | false =>
   rw[show okXE f l=2 by simp[okXE,hok],show wxC f l=[] by simp[wxC,hok],show wArbX f l=0 by simp[wArbX,hok],show wAckX f l=0 by simp[wAckX,hok]]
   exact refwire8_bad f a cap l w h hn hW hok
end Go.Proofs.YtipefblpppmabaaGreatDoor
