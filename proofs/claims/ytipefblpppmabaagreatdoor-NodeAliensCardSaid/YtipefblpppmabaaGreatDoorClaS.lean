
/- The document's own Body, Wire and Most of a Classic frame. No conditions but sizes. -/
import Derived.Test.YtipefblpppmabaaGreatDoorClaR
import Derived.Test.YtipefblpppmabaaGreatDoorGb
import Derived.Test.YtipefblpppmabaaGreatDoorGe
import Derived.Test.YtipefblpppmabaaGreatDoorGj
import Derived.Deep.RegionHeld3
set_option maxHeartbeats 4000000
set_option maxRecDepth 100000
namespace Go.Proofs.YtipefblpppmabaaGreatDoor
set_option linter.unusedVariables false
set_option linter.unusedSimpArgs false
open Go.RowKit
theorem refbody6_no (f:Hd) (a:Option Addr) (cap:Nat) (l:List Nat) (w:World) (hL:l.length<=9223372036854775807) (hK:(f.K==1)=false) :
    Calls Tryz.prog 102 #[.agg (f.cs (.slice a l.length cap))] w fun e w'=>AnsB [] 2 e w'/\Nb w w':=by
 obtain⟨K,I,X,R,B,E,S,D,V,A⟩:=f
 simp only[Hd.cs]
 have d:(K != 1)=true:=by simpa [bne] using hK
 clear hK
 go_enter Tryz.func102,Tryz.ntmps102
 go_wp2
 go_ret2
 exact⟨⟨_,_,rfl,Bs.nil _⟩,Nb.rfl.al _⟩
theorem refbody6_bad (f:Hd) (a:Option Addr) (cap:Nat) (l:List Nat) (w:World) (hL:l.length<=9223372036854775807) (hK:f.K=1) (ho:okF f l=false) :
    Calls Tryz.prog 102 #[.agg (f.cs (.slice a l.length cap))] w fun e w'=>AnsB [] 2 e w'/\Nb w w':=by
 have hc:=refcheck5_any f a cap l (w.alloc (.cells (f.cs (.slice a l.length cap)) 34)) hL
 rw[show checkN f l=2 by simp[checkN,ho]] at hc
 obtain⟨K,I,X,R,B,E,S,D,V,A⟩:=f
 simp only at hK
 subst hK
 simp only[Hd.cs] at hc ⊢
 have HC:=Lib.hid hc
 clear hc ho
 go_enter Tryz.func102,Tryz.ntmps102
 go_wp2_with fail
 refine HC.out.mono ?_
 rintro e w1 ⟨rfl,n1⟩
 go_wp2
 go_ret2
 exact⟨⟨_,_,rfl,Bs.nil _⟩,(Nb.rfl.al _).tr n1⟩
theorem refbody6_ok (X R:Bool) (i:Nat) (a:Option Addr) (cap:Nat) (l:List Nat) (w:World) (h:Bs w a cap l) (hn:a=none->cap=0) (hok:okC ⟨1,(i:Int),X,R,false,false,false,0,0,0⟩ l=true) :
    Calls Tryz.prog 102 #[.agg (Hd.cs ⟨1,(i:Int),X,R,false,false,false,0,0,0⟩ (.slice a l.length cap))] w fun e w'=>AnsB (bodyN X R i l) 0 e w'/\Nb w w':=by
 have hL:=h.len
 obtain⟨j,_,ej,h8,_,hx,hi⟩:=okC_parts hok (Int.natCast_nonneg i)
 have ej':i=j:=by simpa using ej
 subst ej'
 have hokF:okF ⟨1,(i:Int),X,R,false,false,false,0,0,0⟩ l=true:=by simpa [okC] using hok
 have P1:=Lib.hid (fun w'=>by
  have:=refcheck5_any ⟨1,(i:Int),X,R,false,false,false,0,0,0⟩ a cap l w' hL
  rw[show checkN ⟨1,(i:Int),X,R,false,false,false,0,0,0⟩ l=0 by simp[checkN,hokF]] at this
  simp only[Hd.cs] at this
  exact this)
 have P2:=Lib.hid (fun (dv:Value) w'=>refhead6_any X R i 1 false false false 0 0 0 dv w' hi)
 have P3:=Lib.hid (fun w'=>refbits_any l.length 4 w' (by omega) (by omega))
 have P4:=Lib.hid (fun w' (n:Nb w w')=>refbytes_fr a cap l w' (h.below n) (by omega))
 have hpl:(preC X R i l).length<=10000:=by rw[preC_len];split<;>omega
 have hch:chk (preC X R i l)=true:=chk_of (preC_bit X R i l) (by omega)
 have hsum:=sum_add (k:=1) (l:=preC X R i l) (by decide) hch
 have hne:0 < (preC X R i l).length:=by rw[preC_len];split<;>omega
 have P5:=Lib.hid (fun w' (a':Option Addr) (c':Nat) (hb:Bs w' a' c' (preC X R i l))=>by
  have:=refadd_u 1 a' c' (preC X R i l) w' hb (by rintro rfl;have h2:=hb.none_len;rw[h2] at hne;simp at hne)
  rw[hsum.1,hsum.2,show preC X R i l++sumC 1 (preC X R i l)=bodyN X R i l from rfl] at this
  exact this)
 have hhl2:(headC X R i).length<=35:=by rw[headC_len];split<;>omega
 have HEQ:=Lib.hid (show headC X R i++(bitsN l.length 4++bytesBits l)=preC X R i l from rfl)
 have HB4:=Lib.hid (bitsN_length l.length 4)
 have HB8:=Lib.hid (bytesBits_len l)
 have HN:=Lib.hid hn
 have e64:IntKind.u64.wrap (l.length:Int)=l.length:=by rw[IntKind.wrap_u64];omega
 clear h hok hokF hx hi hch hsum hn hpl hne
 simp only[Hd.cs]
 obtain⟨w1,hw1⟩:∃ w1,w1=w.alloc (.cells #[.int .i64 1,.int .u32 i,.bool X,.bool R,.bool false,.bool false,.bool false,.int .u8 0,.int .u8 0,.int .u32 0,.slice a l.length cap] 34):=⟨_,rfl⟩
 have B1:=Lib.hid (show Blk w1 w.heap.size #[.int .i64 1,.int .u32 i,.bool X,.bool R,.bool false,.bool false,.bool false,.int .u8 0,.int .u8 0,.int .u32 0,.slice a l.length cap] 34 by rw[hw1];exact Blk.new _ _ _)
 have NW:=Lib.hid (show Nb w w1 by rw[hw1];exact Nb.rfl.al _)
 go_enter Tryz.func102,Tryz.ntmps102
 go_wp2_with fail
 rw[<- hw1]
 clear hw1
 refine (P1.out _).mono ?_
 rintro e w2 ⟨rfl,n2⟩
 have N2:=Lib.hid n2
 obtain⟨c0,c1,c2,c3,c4,c5,c6,c7,c8,c9,c10⟩:=(B1.out.nb n2).c11
 clear n2
 go_wp2_with fail
 have NB:RowKit.Hid (Nb w1 w2.drew):=Lib.hid (N2.out.tr (show Nb w2 w2.drew from Nb.drewN w2 1))
 go_region_held3 (fun w'=>w'.cell? ⟨w.heap.size,0,none⟩=some (.int .i64 1)/\w'.cell? ⟨w.heap.size,1,none⟩=some (.int .u32 i)/\w'.cell? ⟨w.heap.size,2,none⟩=some (.bool X)/\w'.cell? ⟨w.heap.size,3,none⟩=some (.bool R)/\w'.cell? ⟨w.heap.size,4,none⟩=some (.bool false)/\w'.cell? ⟨w.heap.size,5,none⟩=some (.bool false)/\w'.cell? ⟨w.heap.size,6,none⟩=some (.bool false)/\w'.cell? ⟨w.heap.size,7,none⟩=some (.int .u8 0)/\w'.cell? ⟨w.heap.size,8,none⟩=some (.int .u8 0)/\w'.cell? ⟨w.heap.size,9,none⟩=some (.int .u32 0)/\w'.cell? ⟨w.heap.size,10,none⟩=some (.slice a l.length cap)) (first | go_keep | exact (B1.out.nb NB.out).c11)
  (first
   | (refine step_appB _ rfl (.tmp 14) (.tmp 19) rfl (.slice a5 (headC X R i).length d5) (headC X R i) (by simp[Act.eval,Act.put]) ?_ a6 d6 (bitsN l.length 4) 4 HB4.out.symm (by simp[Act.eval,Act.put]) ?_ (by rw[HB4.out];omega) (by rw[HB4.out];omega) ?_
      ·first
        | exact (F5.out _ Nb.rfl).1
        | exact (F5.out _ M6.out).1
      ·first
        | exact F6.out _ Nb.rfl
        | exact F6.out _ M5.out
      intro v7 w7 ho hk hg
      have f57:=Fresh.app0 (by first | exact F5.out _ Nb.rfl | exact F5.out _ M6.out) NB.out ho hk hg
      have F7:=Lib.hid f57.1
      have NB:=Lib.hid f57.2
      clear ho hk hg f57)
   | (go_at_call 103
      refine (P2.out _ _).mono ?_
      rintro e w5 ⟨⟨a5,d5,rfl,f5⟩,n5⟩
      have s5:=NB.out.size
      have F5:=Lib.hid (fun w' (n:Nb w5 w')=>(f5.keep n).less s5)
      have M5:=Lib.hid n5
      have NB:=Lib.hid (NB.out.tr n5)
      clear f5 n5 s5)
   | (go_at_call 136
      refine (P3.out _).mono ?_
      rintro e w6 ⟨⟨a6,d6,rfl,b6⟩,n6⟩
      have F6:=Lib.hid (fun w' (n:Nb w6 w')=>b6.below n)
      have M6:=Lib.hid n6
      have NB:=Lib.hid (NB.out.tr n6)
      clear b6 n6))
 have N7:=Lib.hid NB.out
 obtain⟨c0,c1,c2,c3,c4,c5,c6,c7,c8,c9,c10⟩:=(B1.out.nb N7.out).c11
 clear NB
 go_wp2_with fail
 refine (P4.out _ (NW.out.tr N7.out)).mono ?_
 rintro e w8 ⟨⟨a8,d8,rfl,b8,z8⟩,n8⟩
 have hf8:=F7.out.keep n8
 have hn8:=N7.out.tr n8
 have b8':Bs w8 a8 d8 (bytesBits l):=b8
 have q8:a8=none->8*l.length=0/\d8=0:=fun h0=>⟨by
  subst h0
  have h3:=b8'.none_len
  have h4:=HB8.out
  rw[h3] at h4
  simp at h4
  omega,z8 h0⟩
 clear n8 b8 z8
 go_wp2_with (at_builtin;refine wpList_appB _ rfl (.tmp 21) (.tmp 24) rfl v7 _ rfl hf8.1 a8 d8 (bytesBits l) (8*l.length) HB8.out.symm rfl b8' q8 (by rw[List.length_append,HB4.out,HB8.out];omega) ?_)
 intro v9 w9 ho hk hg
 have f89:=hf8.app0 hn8 ho hk hg
 rw[HEQ.out] at f89
 obtain⟨a9,d9,rfl,b9,_⟩:=f89.1.1.bs
 have B9:=Lib.hid b9
 have N9:=Lib.hid f89.2
 clear ho hk hg f89 b9 hf8 hn8 b8' q8 c0 c1 c2 c3 c4 c5 c6 c7 c8 c9 c10
 go_wp2_with fail
 refine (P5.out _ a9 d9 B9.out).mono ?_
 rintro e w10 ⟨⟨a10,d10,rfl,b10⟩,n10⟩
 have B10:=Lib.hid b10
 clear b10
 go_wp2
 go_ret2
 exact⟨⟨a10,d10,rfl,B10.out⟩,(NW.out.tr N9.out).tr n10⟩
theorem refbody6_any (f:Hd) (a:Option Addr) (cap:Nat) (l:List Nat) (w:World) (h:Bs w a cap l) (hn:a=none->cap=0) (hI:0<=f.I) :
    Calls Tryz.prog 102 #[.agg (f.cs (.slice a l.length cap))] w fun e w'=>AnsB (bodyC f l) (okE f l) e w'/\Nb w w':=by
 cases hok:okC f l with
 | true =>
   obtain⟨i,ef,et,_⟩:=okC_parts hok hI
   rw[show bodyC f l=bodyN f.X f.R i l by rw[bodyC,if_pos hok,et],show okE f l=0 by rw[okE,if_pos hok]]
   have hok2:okC ⟨1,(i:Int),f.X,f.R,false,false,false,0,0,0⟩ l=true:=by rw[<- ef];exact hok
   have:=refbody6_ok f.X f.R i a cap l w h hn hok2
   rw[<- ef] at this
   exact this
 | false =>
   rw[show bodyC f l=[] by simp[bodyC,hok],show okE f l=2 by simp[okE,hok]]
   cases hK:f.K==1 with
   | false=>exact refbody6_no f a cap l w h.len hK
   | true=>exact refbody6_bad f a cap l w h.len (by simpa using hK) (by simpa [okC,hK] using hok)
def AnsV (l:List Nat) (arb ack er:Nat) (e:Ending) (w':World):Prop:=∃ a c,e = .returned (.tuple #[.agg #[.slice a l.length c,.int .i64 arb,.int .i64 ack],.int .i64 er])/\Bs w' a c l
theorem refwire6_bad (f:Hd) (a:Option Addr) (cap:Nat) (l:List Nat) (w:World) (h:Bs w a cap l) (hn:a=none->cap=0) (hI:0<=f.I) (hok:okC f l=false) :
    Calls Tryz.prog 48 #[.agg (f.cs (.slice a l.length cap))] w fun e w'=>AnsV [] 0 0 2 e w'/\Nb w w':=by
 have hL:=h.len
 have hp:=fun w' (n:Nb w w')=>refbody6_any f a cap l w' (h.below n) hn hI
 rw[show bodyC f l=[] by simp[bodyC,hok],show okE f l=2 by simp[okE,hok]] at hp
 obtain⟨K,I,X,R,B,E,S,D,V,A⟩:=f
 simp only[Hd.cs] at hp ⊢
 have HP:=Lib.hid hp
 clear hp h hI hok
 go_enter Tryz.func48,Tryz.ntmps48
 go_wp2_with fail
 refine (HP.out _ ((Nb.rfl.al _).al _)).mono ?_
 rintro e w1 ⟨⟨a1,c1,rfl,f1⟩,n1⟩
 have m1:Nb w w1:=((Nb.rfl.al _).al _).tr n1
 have hx:=(Blk.new (w.alloc (.cells #[.int .i64 K,.int .u32 I,.bool X,.bool R,.bool B,.bool E,.bool S,.int .u8 D,.int .u8 V,.int .u32 A,.slice a l.length cap] 34)) #[.slice none 0 0,.int .i64 0,.int .i64 0] 60).nb n1
 rw[World.size_alloc] at hx
 obtain⟨d0,d1,d2⟩:=hx.c3
 obtain⟨g0,g1,g2⟩:=hx.f3
 have HB:=Lib.hid (put3_blk (v0 := .slice none 0 0) (v1 := .int .i64 0) (v2 := .int .i64 0) hx)
 have HW:=Lib.hid (put3_nb m1 (b:=w.heap.size+1) (by omega) (.slice none 0 0) (.int .i64 0) (.int .i64 0))
 clear f1 n1 hx m1
 go_wp2
 change bodyPost _ _ _ _ _ (put3 w1 (w.heap.size+1) (.slice none 0 0) (.int .i64 0) (.int .i64 0))
 generalize put3 w1 (w.heap.size+1) (.slice none 0 0) (.int .i64 0) (.int .i64 0)=W at *
 obtain⟨e0,e1,e2⟩:=HB.out.c3
 exact bodyPost_ret (v := .tuple #[.agg #[.slice none 0 0,.int .i64 0,.int .i64 0],.int .i64 2]) (by simp[results,Tryz.results48,go_sem,e0,e1,e2]) rfl ⟨⟨none,0,rfl,Bs.nil _⟩,HW.out⟩
theorem refwire6_ok (f:Hd) (a:Option Addr) (cap:Nat) (l:List Nat) (w:World) (h:Bs w a cap l) (hn:a=none->cap=0) (hI:0<=f.I) (hok:okC f l=true) :
    Calls Tryz.prog 48 #[.agg (f.cs (.slice a l.length cap))] w fun e w'=>AnsV (wireC f l) (wArbC f l) (wAckC f l) 0 e w'/\Nb w w':=by
 have hL:=h.len
 obtain⟨i,ef,et,h8,_,hx,hi⟩:=okC_parts hok hI
 have hp:=fun w' (n:Nb w w')=>refbody6_any f a cap l w' (h.below n) hn hI
 have hbl:=body_len hok
 have hb1:(bodyC f l).length<=200:=by rw[hbl];split<;>omega
 have hch:chk (bodyC f l)=true:=chk_of body_bit (by omega)
 have hhl:(headC f.X f.R f.I.toNat).length<=35:=by rw[headC_len];split<;>omega
 have hch2:chk (headC f.X f.R f.I.toNat)=true:=chk_of (headC_bit _ _ _) (by omega)
 rw[show wireC f l=putL (bodyC f l)++ones 10 by rw[wireC,if_pos hok],show wArbC f l=(putL (headC f.X f.R f.I.toNat)).length by rw[wArbC,if_pos hok],show wAckC f l=(putL (bodyC f l)).length+1 by rw[wAckC,if_pos hok]]
 rw[show okE f l=0 by rw[okE,if_pos hok]] at hp
 have hp2:=fun w' (a':Option Addr) (c':Nat) (hb:Bs w' a' c' (bodyC f l))=>stuffed_any a' c' (bodyC f l) w' hb hch
 have hp3:=fun w' (a':Option Addr) (c':Nat) (hb:Bs w' a' c' (headC f.X f.R f.I.toNat))=>stuffed_any a' c' (headC f.X f.R f.I.toNat) w' hb hch2
 have hp4:=fun w'=>refhead6_any f.X f.R i f.K f.B f.E f.S f.D f.V f.A (.slice a l.length cap) w' hi
 rw[<- et] at hp4
 have eI:((f.I.toNat:Nat):Int)=f.I:=by omega
 rw[eI] at hp4
 have hpl:=(putL_len2 (bodyC f l)).1
 have hpl2:(putL (bodyC f l)).length<=1000:=by omega
 have hpl3:=(putL_len2 (headC f.X f.R f.I.toNat)).1
 have hpl4:(putL (headC f.X f.R f.I.toNat)).length<=1000:=by omega
 have HP:=Lib.hid hp
 have HP2:=Lib.hid hp2
 have HP3:=Lib.hid hp3
 have HP4:=Lib.hid hp4
 clear hp hp2 hp3 hp4 h hI hok hch hch2 hbl hpl hpl3 hx hi et ef hhl eI hb1 h8
 generalize bodyC f l=L at *
 obtain⟨K,I,X,R,B,E,S,D,V,A⟩:=f
 simp only[Hd.cs] at HP HP2 HP3 HP4 hpl2 hpl4 ⊢
 generalize headC X R I.toNat=H at *
 generalize putL L=P at *
 generalize putL H=PH at *
 obtain⟨w0,hw0⟩:∃ w0,w0=(w.alloc (.cells #[.int .i64 K,.int .u32 I,.bool X,.bool R,.bool B,.bool E,.bool S,.int .u8 D,.int .u8 V,.int .u32 A,.slice a l.length cap] 34)).alloc (.cells #[.slice none 0 0,.int .i64 0,.int .i64 0] 60):=⟨_,rfl⟩
 have B0:=Lib.hid (show Blk w0 w.heap.size _ _ by rw[hw0];exact (Blk.new w #[.int .i64 K,.int .u32 I,.bool X,.bool R,.bool B,.bool E,.bool S,.int .u8 D,.int .u8 V,.int .u32 A,.slice a l.length cap] 34).nb (Nb.rfl.al _))
 have hx0:=Blk.new (w.alloc (.cells #[.int .i64 K,.int .u32 I,.bool X,.bool R,.bool B,.bool E,.bool S,.int .u8 D,.int .u8 V,.int .u32 A,.slice a l.length cap] 34)) #[.slice none 0 0,.int .i64 0,.int .i64 0] 60
 rw[World.size_alloc,<- hw0] at hx0
 have X0:=Lib.hid hx0
 have NW:=Lib.hid (show Nb w w0 by rw[hw0];exact (Nb.rfl.al _).al _)
 clear hx0
 go_enter Tryz.func48,Tryz.ntmps48
 go_wp2_with fail
 rw[<- hw0]
 clear hw0
 refine (HP.out _ NW.out).mono ?_
 rintro e w1 ⟨⟨a1,c1,rfl,b1⟩,n1⟩
 have M1:=Lib.hid n1
 have B1:=Lib.hid b1
 clear b1 n1
 go_wp2_with fail
 refine (HP2.out _ a1 c1 B1.out).mono ?_
 rintro e w2 ⟨⟨a2,c2,rfl,f2⟩,n2⟩
 have M2:=Lib.hid (M1.out.tr n2)
 have F2:=Lib.hid (f2.less M1.out.size)
 clear f2 n2
 go_wp2_with fail
 refine (tail6_any _).mono ?_
 rintro e w3 ⟨⟨a3,c3,rfl,f3⟩,n3⟩
 have hf3:=F2.out.keep n3
 have hn3:=M2.out.tr n3
 have hb3:=f3.1.asBs.1
 have ho10:=Lib.hid (ones_len 10)
 clear f3 n3
 go_wp2_with (at_builtin;refine wpList_appB _ rfl (.tmp 17) (.tmp 18) rfl (.slice a2 P.length c2) P rfl hf3.1 a3 c3 (ones 10) 10 (ones_len 10).symm rfl hb3 (hb3.noneN (ones_len 10) (by omega)) (by rw[ones_len];omega) ?_)
 intro v4 w4 ho hk hg
 have f4:=hf3.app0 hn3 ho hk hg
 obtain⟨a4,d4,rfl,_,_⟩:=f4.1.1.bs
 have F4:=Lib.hid f4.1
 have M4:=Lib.hid f4.2
 clear ho hk hg f4 hf3 hn3 hb3
 obtain⟨Q,hQ⟩:∃ Q,Q=P++ones 10:=⟨_,rfl⟩
 have HQ:=Lib.hid hQ
 have hQl:=Lib.hid (show Q.length=P.length+10 by rw[hQ,List.length_append,ones_len])
 rw[<- hQ] at F4
 rw[<- hQ]
 clear hQ
 obtain⟨c0,c1,c2,c3,c4,c5,c6,c7,c8,c9,c10⟩:=(B0.out.nb M4.out).c11
 go_wp2_with fail
 refine (HP4.out _).mono ?_
 rintro e w5 ⟨⟨a5,c5',rfl,f5⟩,n5⟩
 have M5:=Lib.hid (M4.out.tr n5)
 have F5:=Lib.hid (F4.out.keep n5)
 have B5:=Lib.hid f5.1.asBs.1
 clear f5 n5 c0 c1 c2 c3 c4 c5 c6 c7 c8 c9 c10
 go_wp2_with fail
 refine (HP3.out _ a5 c5' B5.out).mono ?_
 rintro e w6 ⟨⟨a6,c6,rfl,f6⟩,n6⟩
 have m6:=M5.out.tr n6
 have f46:=F5.out.keep n6
 have hx6:=X0.out.nb m6
 obtain⟨d0,d1,d2⟩:=hx6.c3
 obtain⟨g0,g1,g2⟩:=hx6.f3
 have s0:w.heap.size+2<=w0.heap.size:=X0.out.lt
 have eq9:(Q.length:Int) - 9=(P.length:Int)+1:=by rw[hQl.out];omega
 have HB:=Lib.hid (put3_blk (v0 := .slice a4 Q.length d4) (v1 := .int .i64 PH.length) (v2 := .int .i64 ((Q.length:Int) - 9)) hx6)
 have HW:=Lib.hid (put3_nb (NW.out.tr m6) (b:=w.heap.size+1) (by omega) (.slice a4 Q.length d4) (.int .i64 PH.length) (.int .i64 ((Q.length:Int) - 9)))
 have HF:=Lib.hid (f46.1.put3 (b:=w.heap.size+1) (fun g hg=>by have:=f46.2 g hg;omega) (.slice a4 Q.length d4) (.int .i64 PH.length) (.int .i64 ((Q.length:Int) - 9))).asBs.1
 have E9:=Lib.hid eq9
 have lq:Q.length<=2000:=by rw[hQl.out];omega
 clear f6 n6 hx6 m6 f46 eq9
 go_wp2
 change bodyPost _ _ _ _ _ (put3 w6 (w.heap.size+1) (.slice a4 Q.length d4) (.int .i64 PH.length) (.int .i64 ((Q.length:Int) - 9)))
 generalize put3 w6 (w.heap.size+1) (.slice a4 Q.length d4) (.int .i64 PH.length) (.int .i64 ((Q.length:Int) - 9))=W at *
 obtain⟨e0,e1,e2⟩:=HB.out.c3
 exact bodyPost_ret (v := .tuple #[.agg #[.slice a4 Q.length d4,.int .i64 PH.length,.int .i64 ((Q.length:Int) - 9)],.int .i64 0]) (by simp[results,Tryz.results48,go_sem,e0,e1,e2]) rfl ⟨⟨a4,d4,by rw[E9.out,<- HQ.out];rfl,by rw[<- HQ.out];exact HF.out⟩,HW.out⟩
theorem refwire6_any (f:Hd) (a:Option Addr) (cap:Nat) (l:List Nat) (w:World) (h:Bs w a cap l) (hn:a=none->cap=0) (hI:0<=f.I) :
    Calls Tryz.prog 48 #[.agg (f.cs (.slice a l.length cap))] w fun e w'=>AnsV (wireC f l) (wArbC f l) (wAckC f l) (okE f l) e w'/\Nb w w':=by
 cases hok:okC f l with
 | true =>
   rw[show okE f l=0 by rw[okE,if_pos hok]]
   exact refwire6_ok f a cap l w h hn hI hok
 | false =>
   rw[show okE f l=2 by simp[okE,hok],show wireC f l=[] by simp[wireC,hok],show wArbC f l=0 by simp[wArbC,hok],show wAckC f l=0 by simp[wAckC,hok]]
   exact refwire6_bad f a cap l w h hn hI hok
end Go.Proofs.YtipefblpppmabaaGreatDoor
