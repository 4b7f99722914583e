
/- The document's own Body of an XL frame. No conditions but sizes. -/
import Derived.Test.YtipefblpppmabaaGreatDoorXlR
import Derived.Test.YtipefblpppmabaaGreatDoorFixU
import Derived.Test.YtipefblpppmabaaGreatDoorGa
import Derived.Test.YtipefblpppmabaaGreatDoorGr
import Derived.Deep.RegionHeld3
set_option maxHeartbeats 2400000
set_option maxRecDepth 100000
namespace Go.Proofs.YtipefblpppmabaaGreatDoor
set_option linter.unusedVariables false
set_option linter.unusedSimpArgs false
open Go.RowKit
theorem refbody8_no (f:Hd) (a:Option Addr) (cap:Nat) (l:List Nat) (w:World) (hL:l.length<=9223372036854775807) (hK:(f.K==3)=false) :
    Calls Tryz.prog 97 #[.agg (f.cs (.slice a l.length cap))] w fun e w'=>AnsB [] 2 e w'/\Nb w w':=by
 obtain⟨K,I,X,R,B,E,S,D,V,A⟩:=f
 simp only[Hd.cs]
 have d:(K != 3)=true:=by simpa [bne] using hK
 clear hK
 go_enter Tryz.func97,Tryz.ntmps97
 go_wp2
 go_ret2
 exact⟨⟨_,_,rfl,Bs.nil _⟩,Nb.rfl.al _⟩
theorem refbody8_bad (f:Hd) (a:Option Addr) (cap:Nat) (l:List Nat) (w:World) (hL:l.length<=9223372036854775807) (hK:f.K=3) (ho:okF f l=false) :
    Calls Tryz.prog 97 #[.agg (f.cs (.slice a l.length cap))] w fun e w'=>AnsB [] 2 e w'/\Nb w w':=by
 have hc:=fun w'=>refcheck5_any f a cap l w' hL
 rw[show checkN f l=2 by simp[checkN,ho]] at hc
 obtain⟨K,I,X,R,B,E,S,D,V,A⟩:=f
 simp only at hK
 subst hK
 simp only[Hd.cs] at hc ⊢
 have HC:=Lib.hid hc
 clear hc ho
 go_enter Tryz.func97,Tryz.ntmps97
 go_wp2_with fail
 refine (HC.out _).mono ?_
 rintro e w1 ⟨rfl,n1⟩
 go_wp2
 go_ret2
 exact⟨⟨_,_,rfl,Bs.nil _⟩,(Nb.rfl.al _).tr n1⟩
theorem refbody8_ok (i d v A:Nat) (S:Bool) (a:Option Addr) (cap:Nat) (l:List Nat) (w:World) (h:Bs w a cap l) (hn:a=none->cap=0) (hok:okX ⟨3,(i:Int),false,false,false,false,S,(d:Int),(v:Int),(A:Int)⟩ l=true)
    (hl1:1<=l.length) (hl2:l.length<=2048) (hi:i < 2048) (hd:d < 256) (hv:v < 256) (hA:A < 4294967296) :
    Calls Tryz.prog 97 #[.agg (Hd.cs ⟨3,(i:Int),false,false,false,false,S,(d:Int),(v:Int),(A:Int)⟩ (.slice a l.length cap))] w fun e w'=>AnsB (bodyX i d v A S l) 0 e w'/\Nb w w':=by
 have hL:=h.len
 have hokF:okF ⟨3,(i:Int),false,false,false,false,S,(d:Int),(v:Int),(A:Int)⟩ l=true:=by simpa [okX] using hok
 have P1:=Lib.hid (fun w'=>by
  have:=refcheck5_any ⟨3,(i:Int),false,false,false,false,S,(d:Int),(v:Int),(A:Int)⟩ a cap l w' hL
  rw[show checkN ⟨3,(i:Int),false,false,false,false,S,(d:Int),(v:Int),(A:Int)⟩ l=0 by simp[checkN,hokF]] at this
  simp only[Hd.cs] at this
  exact this)
 have hHl:=headX_len i
 have hHb:=headX_bit i
 have hT4:=tallyL_len ((putL (headX i)).length - (headX i).length)
 have hTb:=tallyL_bit ((putL (headX i)).length - (headX i).length)
 have hpre:preX i d l.length S=bitsN d 8++([bitB S]++(bitsN (l.length - 1) 11++tallyL ((putL (headX i)).length - (headX i).length))):=rfl
 have hprel:=preX_len i d l.length S
 have hpreb:=preX_bit i d l.length S
 have hpre2:pre2X i d v A S l=(preX i d l.length S++sumC 4 (headX i++preX i d l.length S))++(bitsN v 8++(bitsN A 32++bytesBits l)):=rfl
 have hpre2l:=pre2X_len i d v A S l
 have hpre2b:=pre2X_bit i d v A S l
 have hZ:bodyX i d v A S l=pre2X i d v A S l++sumC 5 (pre2X i d v A S l):=rfl
 have hS4l:(sumC 4 (headX i++preX i d l.length S)).length=13:=by rw[sumC_len];decide
 have hch:chk (headX i)=true:=chk_of hHb (by omega)
 have hchM:chk (headX i++preX i d l.length S)=true:=chk_of (fun x hx=>by
  rcases List.mem_append.1 hx with hx | hx
  ·exact hHb x hx
  ·exact hpreb x hx) (by rw[List.length_append];omega)
 have hch2:chk (pre2X i d v A S l)=true:=chk_of hpre2b (by omega)
 have P2:=Lib.hid (fun w'=>refhead8_any i w' (by omega))
 have P3:=Lib.hid (fun w' (a':Option Addr) (c':Nat) (hb:Bs w' a' c' (headX i))=>stuffed_any a' c' (headX i) w' hb hch)
 have hpl:=(putL_len2 (headX i)).1
 have hpl2:=(putL_len2 (headX i)).2
 obtain⟨q1,q2⟩:=sum_add (k:=4) (by decide) hchM
 have P6:=Lib.hid (fun w' (a':Option Addr) (c':Nat) (hb:Bs w' a' c' (headX i++preX i d l.length S)) (hnn:a'=none->c'=0)=>by
  have:=refadd_u 4 a' c' _ w' hb hnn
  rw[q1,q2] at this
  exact this)
 obtain⟨q3,q4⟩:=sum_add (k:=5) (by decide) hch2
 have P7:=Lib.hid (fun w' (a':Option Addr) (c':Nat) (hb:Bs w' a' c' (pre2X i d v A S l)) (hnn:a'=none->c'=0)=>by
  have:=refadd_u 5 a' c' _ w' hb hnn
  rw[q3,q4,<- hZ] at this
  exact this)
 clear q1 q2 q3 q4 hZ hch hchM hch2 hpre2b
 generalize bodyX i d v A S l=Z at *
 generalize pre2X i d v A S l=pre2 at *
 generalize preX i d l.length S=pre at *
 generalize sumC 4 (headX i++pre)=S4 at *
 have P8:=Lib.hid (fun w' (n:Nb w w')=>refbytes_fr a cap l w' (h.below n) (by omega))
 obtain⟨c,hc⟩:∃ c,l.length - 1=c:=⟨_,rfl⟩
 rw[hc] at hpre
 generalize headX i=H at *
 generalize putL H=PH at *
 obtain⟨k,hkk⟩:∃ k,PH.length - H.length=k:=⟨_,rfl⟩
 rw[hkk] at hpre hT4 hTb
 have hkI:(PH.length:Int) - (H.length:Int)=(k:Int):=by omega
 have hp5:=fun w'=>reftally_any k w'
 generalize tallyL k=T at *
 have P5:=Lib.hid hp5
 have hdrop:(H++pre++S4).drop H.length=pre++S4:=by rw[List.append_assoc,List.drop_left]
 have hZl:H.length<=(H++pre++S4).length:=by simp only[List.length_append];omega
 have EQ:=Lib.hid (show bitsN d 8++[bitB S]++bitsN c 11++T=pre by rw[hpre];simp)
 have EQ2:=Lib.hid (show pre++S4++bitsN v 8++bitsN A 32++bytesBits l=pre2 by rw[hpre2];simp)
 generalize hM:H++pre=M at *
 generalize hMS:M++S4=MS at *
 have e64:IntKind.u64.wrap ((l.length:Int) - 1)=(c:Int):=by rw[IntKind.wrap_u64];omega
 have e64d:IntKind.u64.wrap (d:Int)=d:=by rw[IntKind.wrap_u64];omega
 have e64v:IntKind.u64.wrap (v:Int)=v:=by rw[IntKind.wrap_u64];omega
 have e64A:IntKind.u64.wrap (A:Int)=A:=by rw[IntKind.wrap_u64];omega
 have hc2:c < 2048:=by omega
 have hp9:=fun w'=>refbits_fr d 8 w' (by omega) (by omega)
 have hD8:=bitsN_length d 8
 generalize bitsN d 8=D8 at *
 have P9:=Lib.hid hp9
 have HD8:=Lib.hid hD8
 have hdl:MS.length - H.length=(pre++S4).length:=by rw[<- hdrop,List.length_drop]
 obtain⟨PS,hPS⟩:∃ PS,pre++S4=PS:=⟨_,rfl⟩
 rw[hPS] at hdrop hdl EQ2
 have HDL:=Lib.hid hdl
 have HPSL:=Lib.hid (show PS.length=37 by rw[<- hPS,List.length_append,hprel,hS4l])
 have P10:=Lib.hid (fun w'=>refbits_any c 11 w' (by omega) (by omega))
 have P11:=Lib.hid (fun w'=>refbits_any v 8 w' (by omega) (by omega))
 have P12:=Lib.hid (fun w'=>refbits_any A 32 w' (by omega) (by omega))
 have HM:=Lib.hid hM
 have HMS:=Lib.hid hMS
 have HDR:=Lib.hid hdrop
 have HZL:=Lib.hid hZl
 have HH:=Lib.hid hHl
 have HT:=Lib.hid hT4
 have HPR:=Lib.hid hprel
 have HP2L:=Lib.hid hpre2l
 have HS4:=Lib.hid hS4l
 have HPL:=Lib.hid (show PH.length<=34 by omega)
 have HB8:=Lib.hid (bytesBits_len l)
 have hbB:=bitB_le S
 have hkb:k<=100:=by omega
 clear h hn hok hokF hHb hTb hpre hprel hpreb hpre2 hpre2l hS4l hpl hpl2 hkk hp5 hdrop hZl hM hMS hHl hT4 hc hp9 hD8 hdl hPS
 simp only[Hd.cs]
 obtain⟨w1,hw1⟩:∃ w1,w1=w.alloc (.cells #[.int .i64 3,.int .u32 i,.bool false,.bool false,.bool false,.bool false,.bool S,.int .u8 d,.int .u8 v,.int .u32 A,.slice a l.length cap] 34):=⟨_,rfl⟩
 have B1:=Lib.hid (show Blk w1 w.heap.size #[.int .i64 3,.int .u32 i,.bool false,.bool false,.bool false,.bool false,.bool S,.int .u8 d,.int .u8 v,.int .u32 A,.slice a l.length cap] 34 by rw[hw1];exact Blk.new _ _ _)
 have NW:=Lib.hid (show Nb w w1 by rw[hw1];exact Nb.rfl.al _)
 go_enter Tryz.func97,Tryz.ntmps97
 go_wp2_with fail
 rw[<- hw1]
 clear hw1
 refine (P1.out _).mono ?_
 rintro e w2 ⟨rfl,n2⟩
 have N2:=Lib.hid n2
 obtain⟨c0,c1,c2,c3,c4,c5,c6,c7,c8,c9,c10⟩:=(B1.out.nb n2).c11
 clear n2
 go_wp2_with fail
 refine (P2.out _).mono ?_
 rintro e w3 ⟨⟨a3,d3,rfl,f3⟩,n3⟩
 have N3:=Lib.hid (N2.out.tr n3)
 have F3:=Lib.hid f3.bs
 clear n3 f3 c0 c1 c2 c3 c4 c5 c6 c7 c8 c9 c10
 go_wp2_with fail
 refine (P3.out _ a3 d3 F3.out.1).mono ?_
 rintro e w4 ⟨⟨a4,d4,rfl,f4⟩,n4⟩
 have N4:=Lib.hid (N3.out.tr n4)
 have F4:=Lib.hid (show Bs w4 a3 d3 H/\(a3=none->d3=0) from ⟨F3.out.1.below n4,F3.out.2⟩)
 clear n4 f4 F3
 go_wp2_with fail
 refine (P5.out _).mono ?_
 rintro e w5 ⟨⟨a5,d5,rfl,b5⟩,n5⟩
 have N5:=Lib.hid (N4.out.tr n5)
 have F5:=Lib.hid (show Bs w5 a3 d3 H/\(a3=none->d3=0) from ⟨F4.out.1.below n5,F4.out.2⟩)
 have B5:=Lib.hid b5
 clear n5 b5 F4
 have Q5:=Lib.hid (B1.out.nb N5.out)
 clear B1
 obtain⟨c0,c1,c2,c3,c4,c5,c6,c7,c8,c9,c10⟩:=Q5.out.c11
 go_wp2_with fail
 have NB:RowKit.Hid (Nb w5 w5.drew):=Lib.hid (show Nb w5 w5.drew from Nb.drewN w5 1)
 go_region_held3 (fun w'=>w'.cell? ⟨w.heap.size,0,none⟩=some (.int .i64 3)/\w'.cell? ⟨w.heap.size,1,none⟩=some (.int .u32 i)/\w'.cell? ⟨w.heap.size,2,none⟩=some (.bool false)/\w'.cell? ⟨w.heap.size,3,none⟩=some (.bool false)/\w'.cell? ⟨w.heap.size,4,none⟩=some (.bool false)/\w'.cell? ⟨w.heap.size,5,none⟩=some (.bool false)/\w'.cell? ⟨w.heap.size,6,none⟩=some (.bool S)/\w'.cell? ⟨w.heap.size,7,none⟩=some (.int .u8 d)/\w'.cell? ⟨w.heap.size,8,none⟩=some (.int .u8 v)/\w'.cell? ⟨w.heap.size,9,none⟩=some (.int .u32 A)/\w'.cell? ⟨w.heap.size,10,none⟩=some (.slice a l.length cap)) (first | go_keep | exact (Q5.out.nb NB.out).c11 | exact (Q5.out.nb (NB.out.al _)).c11)
  (first
   | (refine step_appB _ rfl (.tmp 34) (.tmp 38) rfl (.slice a6 D8.length d6) D8 ?_ ?_ (some ⟨w6.heap.size,0,none⟩) 1 [bitB S] 1 rfl ?_ ?_ (by simp) ?_ ?_
      ·simp[Act.eval,Act.put]
      ·exact (F6.out _ (Nb.rfl.al _)).1
      ·simp[Act.eval,Act.put]
      ·exact (Fresh.lit w6 [bitB S] _ (by simp) 1 (by simp) (by simp) (by intro x hx;simp at hx;have:=bitB_le S;omega)).1.asBs.1
      ·rw[HD8.out];simp
      intro v7 w7 ho hk hg
      have f57:=Fresh.app0 (F6.out _ (Nb.rfl.al _)) (NB.out.al _) ho hk hg
      have F7:=Lib.hid f57.1
      have NB:=Lib.hid f57.2
      clear ho hk hg f57)
   | (refine step_appB _ rfl (.tmp 34) (.tmp 38) rfl (.slice a6 D8.length d6) D8 ?_ ?_ (some ⟨w5.heap.size,0,none⟩) 1 [bitB S] 1 rfl ?_ ?_ (by simp) ?_ ?_
      ·simp[Act.eval,Act.put]
      ·exact (F6.out _ Nb.rfl).1
      ·simp[Act.eval,Act.put]
      ·exact (Fresh.lit w5.drew [bitB S] _ (by simp) 1 (by simp) (by simp) (by intro x hx;simp at hx;have:=bitB_le S;omega)).1.asBs.1.below M6.out
      ·rw[HD8.out];simp
      intro v7 w7 ho hk hg
      have f57:=Fresh.app0 (F6.out _ Nb.rfl) NB.out ho hk hg
      have F7:=Lib.hid f57.1
      have NB:=Lib.hid f57.2
      clear ho hk hg f57)
   | (go_at_call 136
      refine (P9.out _).mono ?_
      rintro e w6 ⟨⟨a6,d6,rfl,f6⟩,n6⟩
      have s6:Nb w5 w6/\Fresh w5 w6 (.slice a6 D8.length d6) D8:=by
       first
        | exact⟨NB.out.tr n6,f6.less NB.out.size⟩
        | exact⟨(NB.out.al _).tr n6,f6.less (NB.out.al _).size⟩
      have F6:=Lib.hid (fun w' (n:Nb w6 w')=>s6.2.keep n)
      have M6:=Lib.hid n6
      have NB:=Lib.hid s6.1
      clear f6 n6 s6)
   | (go_at_call 135
      refine (refbit6_any _ _).mono ?_
      rintro e wz ⟨rfl,rfl⟩))
 all_goals
  have N7:=Lib.hid NB.out
  clear NB c0 c1 c2 c3 c4 c5 c6 c7 c8 c9 c10
  obtain⟨c0,c1,c2,c3,c4,c5,c6,c7,c8,c9,c10⟩:=(Q5.out.nb N7.out).c11
  go_wp2_with fail
  clear c0 c1 c2 c3 c4 c5 c6 c7 c8 c9 c10
  refine (P10.out _).mono ?_
  rintro e w8 ⟨⟨a8,d8,rfl,b8⟩,n8⟩
  have hf8:=F7.out.keep n8
  have hn8:=N7.out.tr n8
  have hb8:=b8.noneN (bitsN_length c 11) (by omega)
  clear n8
  go_wp2_with (at_builtin;refine wpList_appB _ rfl (.tmp 40) (.tmp 46) rfl v7 (D8++[bitB S]) rfl hf8.1 a8 d8 (bitsN c 11) 11 (bitsN_length _ _).symm rfl b8 hb8 (by rw[List.length_append,HD8.out,bitsN_length];simp) ?_)
  intro v9 w9 ho hk hg
  have f9:=hf8.app0 hn8 ho hk hg
  have hT9:=B5.out.below f9.2
  obtain⟨L9,hL9⟩:∃ L9,L9=D8++[bitB S]++bitsN c 11:=⟨_,rfl⟩
  have EQ9:=Lib.hid (show L9++T=pre by rw[hL9,EQ.out])
  have LL9:=Lib.hid (show L9.length=20 by rw[hL9,List.length_append,List.length_append,HD8.out,bitsN_length];rfl)
  have f9:Fresh w5 w9 v9 L9/\Nb w5 w9:=⟨by rw[hL9];simpa using f9.1,f9.2⟩
  have F9:=Lib.hid f9.1
  have N9:=Lib.hid f9.2
  have hT9n:=hT9.noneN HT.out (by omega)
  rw[<- HT.out] at hT9n
  clear ho hk hg hf8 hn8 b8 hb8 f9 hL9
  go_wp2_with (at_builtin;refine wpList_appB _ rfl (.tmp 48) (.tmp 49) rfl v9 L9 rfl F9.out.1 a5 d5 T T.length rfl rfl hT9 hT9n (by rw[LL9.out,HT.out];omega) ?_)
  intro v10 w10 ho hk hg
  have f10:=F9.out.app0 N9.out ho hk hg
  rw[EQ9.out] at f10
  obtain⟨ap,dp,rfl,_,_⟩:=f10.1.1.bs
  have F10:=Lib.hid f10.1.bs
  have N10:=Lib.hid f10.2
  have H10:=Lib.hid (F5.out.1.below f10.2)
  clear ho hk hg f10 hT9 hT9n
  have fl:=Fresh.lit w10 [] #[] (by simp) 0 rfl (by simp) (by simp)
  have hFk:=H10.out.below (Nb.rfl.al (.cells #[] 5))
  go_wp2_with (at_builtin;refine wpList_appB _ rfl (.tmp 52) (.tmp 53) rfl (.slice (some ⟨w10.heap.size,0,none⟩) 0 0) [] rfl fl.1 a3 d3 H H.length rfl rfl hFk (fun h0=>⟨by subst h0;rw[hFk.none_len];rfl,F5.out.2 h0⟩) (by rw[List.length_nil,HH.out];omega) ?_)
  intro v11 w11 ho hk hg
  have f11:=fl.app0 (Nb.rfl.al _) ho hk (fun g h=>by have:=hg g h;simpa using this)
  have F11:=Lib.hid (show Fresh w10 w11 v11 H by simpa using f11.1)
  have N11:=Lib.hid f11.2
  have G11:=Lib.hid (F10.out.1.below f11.2)
  clear ho hk hg f11 fl hFk
  go_wp2_with (at_builtin;refine wpList_appB _ rfl (.tmp 54) (.tmp 55) rfl v11 H rfl F11.out.1 ap dp pre pre.length rfl rfl G11.out (fun h0=>⟨by have:=G11.out;subst h0;rw[this.none_len];rfl,F10.out.2 h0⟩) (by rw[HH.out,HPR.out];omega) ?_)
  intro v12 w12 ho hk hg
  have f12:=F11.out.app0 N11.out ho hk hg
  rw[HM.out] at f12
  obtain⟨a12,d12,rfl,_,_⟩:=f12.1.1.bs
  have F12:=Lib.hid f12.1.bs
  have N12:=Lib.hid (N10.out.tr f12.2)
  clear ho hk hg f12
  go_wp2_with fail
  refine (P6.out _ a12 d12 F12.out.1 F12.out.2).mono ?_
  rintro e w13 ⟨⟨a13,d13,rfl,b13⟩,n13⟩
  have N13:=Lib.hid (N12.out.tr n13)
  have b13':=b13.cutL H.length HZL.out
  have hcut:=fun w=>run_cutL a13 MS.length d13 H.length HZL.out w
  rw[HDR.out] at b13'
  obtain⟨aU,haU⟩:∃ aU,cutA a13 d13 H.length=aU:=⟨_,rfl⟩
  rw[haU] at b13' hcut
  obtain⟨dU,hdU⟩:∃ dU,d13 - H.length=dU:=⟨_,rfl⟩
  rw[hdU] at b13' hcut
  rw[HDL.out] at hcut
  have B13:=Lib.hid b13'
  clear b13 n13 haU hdU b13'
  have fl:=Fresh.lit w13 [] #[] (by simp) 0 rfl (by simp) (by simp)
  have hFk:=B13.out.below (Nb.rfl.al (.cells #[] 5))
  have hFn:=hFk.noneN HPSL.out (by omega)
  rw[<- HPSL.out] at hFn
  go_wp2_with (at_builtin;refine wpList_appB _ rfl (.tmp 60) (.tmp 64) rfl (.slice (some ⟨w13.heap.size,0,none⟩) 0 0) [] rfl fl.1 aU dU PS PS.length rfl rfl hFk hFn (by rw[List.length_nil,HPSL.out];omega) ?_)
  intro v14 w14 ho hk hg
  have f14:=fl.app0 (Nb.rfl.al _) ho hk (fun g h=>by have:=hg g h;simpa using this)
  have F14:=Lib.hid (show Fresh w13 w14 v14 PS by simpa using f14.1)
  have N14:=Lib.hid f14.2
  clear ho hk hg f14 fl hFk hFn hcut
  obtain⟨c0,c1,c2,c3,c4,c5,c6,c7,c8,c9,c10⟩:=((Q5.out.nb N13.out).nb N14.out).c11
  go_wp2_with fail
  clear c0 c1 c2 c3 c4 c5 c6 c7 c8 c9 c10
  refine (P11.out _).mono ?_
  rintro e w15 ⟨⟨a15,d15,rfl,b15⟩,n15⟩
  have hf:=F14.out.keep n15
  have hn15:=N14.out.tr n15
  have hb:=b15.noneN (bitsN_length v 8) (by omega)
  clear n15
  go_wp2_with (at_builtin;refine wpList_appB _ rfl (.tmp 66) (.tmp 70) rfl v14 PS rfl hf.1 a15 d15 (bitsN v 8) 8 (bitsN_length _ _).symm rfl b15 hb (by rw[HPSL.out,bitsN_length];omega) ?_)
  intro v16 w16 ho hk hg
  have f16:=hf.app0 hn15 ho hk hg
  obtain⟨L16,hL16⟩:∃ L16,L16=PS++bitsN v 8:=⟨_,rfl⟩
  have LL16:=Lib.hid (show L16.length=45 by rw[hL16,List.length_append,HPSL.out,bitsN_length])
  rw[<- hL16] at f16
  have E16:=Lib.hid hL16
  have F16:=Lib.hid f16.1
  have N16:=Lib.hid f16.2
  clear ho hk hg hf hn15 b15 hb f16 hL16
  obtain⟨c0,c1,c2,c3,c4,c5,c6,c7,c8,c9,c10⟩:=((Q5.out.nb N13.out).nb N16.out).c11
  go_wp2_with fail
  clear c0 c1 c2 c3 c4 c5 c6 c7 c8 c9 c10
  refine (P12.out _).mono ?_
  rintro e w17 ⟨⟨a17,d17,rfl,b17⟩,n17⟩
  have hf:=F16.out.keep n17
  have hn17:=N16.out.tr n17
  have hb:=b17.noneN (bitsN_length A 32) (by omega)
  clear n17
  go_wp2_with (at_builtin;refine wpList_appB _ rfl (.tmp 72) (.tmp 76) rfl v16 L16 rfl hf.1 a17 d17 (bitsN A 32) 32 (bitsN_length _ _).symm rfl b17 hb (by rw[LL16.out,bitsN_length];omega) ?_)
  intro v18 w18 ho hk hg
  have f18:=hf.app0 hn17 ho hk hg
  obtain⟨L18,hL18⟩:∃ L18,L18=L16++bitsN A 32:=⟨_,rfl⟩
  have LL18:=Lib.hid (show L18.length=77 by rw[hL18,List.length_append,LL16.out,bitsN_length])
  have E18:=Lib.hid (show L18++bytesBits l=pre2 by rw[hL18,E16.out,EQ2.out])
  rw[<- hL18] at f18
  have F18:=Lib.hid f18.1
  have N18:=Lib.hid f18.2
  clear ho hk hg hf hn17 b17 hb f18 hL18
  obtain⟨c0,c1,c2,c3,c4,c5,c6,c7,c8,c9,c10⟩:=((Q5.out.nb N13.out).nb N18.out).c11
  go_wp2_with fail
  clear c0 c1 c2 c3 c4 c5 c6 c7 c8 c9 c10
  refine (P8.out _ (NW.out.tr (N5.out.tr (N13.out.tr N18.out)))).mono ?_
  rintro e w19 ⟨⟨a19,d19,rfl,b19,z19⟩,n19⟩
  have hf:=F18.out.keep n19
  have hn19:=N18.out.tr n19
  have b19':Bs w19 a19 d19 (bytesBits l):=b19
  have hb:a19=none->8*l.length=0/\d19=0:=fun h0=>⟨by
   subst h0
   have h3:=b19'.none_len
   have h4:=HB8.out
   rw[h3] at h4
   simp at h4
   omega,z19 h0⟩
  clear n19 b19 z19
  go_wp2_with (at_builtin;refine wpList_appB _ rfl (.tmp 78) (.tmp 81) rfl v18 L18 rfl hf.1 a19 d19 (bytesBits l) (8*l.length) HB8.out.symm rfl b19' hb (by rw[LL18.out,HB8.out];omega) ?_)
  intro v20 w20 ho hk hg
  have f20:=hf.app0 hn19 ho hk hg
  rw[E18.out] at f20
  obtain⟨a20,d20,rfl,_,_⟩:=f20.1.1.bs
  have F20:=Lib.hid f20.1.bs
  have N20:=Lib.hid f20.2
  clear ho hk hg hf hn19 b19' hb f20
  go_wp2_with fail
  refine (P7.out _ a20 d20 F20.out.1 F20.out.2).mono ?_
  rintro e w21 ⟨⟨a21,d21,rfl,b21⟩,n21⟩
  have B21:=Lib.hid b21
  have N21:=Lib.hid (NW.out.tr (N5.out.tr (N13.out.tr (N20.out.tr n21))))
  clear b21 n21
  go_wp2
  go_ret2
  exact⟨⟨_,_,rfl,B21.out⟩,N21.out⟩
theorem refbody8_any (f:Hd) (a:Option Addr) (cap:Nat) (l:List Nat) (w:World) (h:Bs w a cap l) (hn:a=none->cap=0) (hW:WdX f) :
    Calls Tryz.prog 97 #[.agg (f.cs (.slice a l.length cap))] w fun e w'=>AnsB (bxC f l) (okXE f l) e w'/\Nb w w':=by
 cases hok:okX f l with
 | true =>
   obtain⟨i,d,v,A,S,rfl,h1,h2,h3,h4,h5,h6,eb,ee,et⟩:=okX_nums hok hW
   rw[eb,ee]
   exact refbody8_ok i d v A S a cap l w h hn hok h1 h2 h3 h4 h5 h6
 | false =>
   rw[show bxC f l=[] by simp[bxC,hok],show okXE f l=2 by simp[okXE,hok]]
   cases hK:f.K==3 with
   | false=>exact refbody8_no f a cap l w h.len hK
   | true=>exact refbody8_bad f a cap l w h.len (by simpa using hK) (by simpa [okX,hK] using hok)
end Go.Proofs.YtipefblpppmabaaGreatDoor
