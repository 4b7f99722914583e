
/- The document's own bits of an FD frame: the head, Body, Sum, Way, Most. No conditions but sizes. -/
import Derived.Test.YtipefblpppmabaaGreatDoorGw
import Derived.Test.YtipefblpppmabaaGreatDoorClaR
import Derived.Test.YtipefblpppmabaaGreatDoorGb
import Derived.Test.YtipefblpppmabaaGreatDoorGj
import Derived.Test.YtipefblpppmabaaGreatDoorFixR
set_option maxHeartbeats 8000000
set_option maxRecDepth 100000
namespace Go.Proofs.YtipefblpppmabaaGreatDoor
set_option linter.unusedVariables false
set_option linter.unusedSimpArgs false
open Go.RowKit
theorem refhead7_any (i:Nat) (K:Int) (X R B E S:Bool) (D V A:Int) (dv:Value) (w:World) (hi:i < 4294967296) :
    Calls Tryz.prog 96 #[.agg #[.int .i64 K,.int .u32 i,.bool X,.bool R,.bool B,.bool E,.bool S,.int .u8 D,.int .u8 V,.int .u32 A,dv]] w fun e w'=>(∃ a c,e = .returned (.slice a (headD i).length c)/\Fresh w w' (.slice a (headD i).length c) (headD i))/\Nb w w':=by
 obtain⟨w1,hw1⟩:∃ w1,w1=w.alloc (.cells #[.int .i64 K,.int .u32 i,.bool X,.bool R,.bool B,.bool E,.bool S,.int .u8 D,.int .u8 V,.int .u32 A,dv] 34):=⟨_,rfl⟩
 have BX:=Lib.hid (show Blk w1 w.heap.size #[.int .i64 K,.int .u32 i,.bool X,.bool R,.bool B,.bool E,.bool S,.int .u8 D,.int .u8 V,.int .u32 A,dv] 34 by rw[hw1];exact Blk.new _ _ _)
 have NW:=Lib.hid (show Nb w w1 by rw[hw1];exact Nb.rfl.al _)
 have hs1:w1.heap.size=w.heap.size+1:=by rw[hw1,World.size_alloc]
 have fl1:=Fresh.lit w1 [0] #[.int .u8 0] (by simp) 1 (by simp) (by simp) (by simp)
 rw[hs1] at fl1
 have F1:=Lib.hid fl1
 clear fl1 hs1
 have N1:=Lib.hid (Nb.rfl.al (.cells #[.int .u8 0] 5):Nb w1 _)
 have HI:=Lib.hid hi
 go_enter Tryz.func96,Tryz.ntmps96
 go_wp2_with fail
 rw[<- hw1]
 clear hw1 hi
 have hc2:=fun wz=>refbits_any (i) 11 wz (by have:=HI.out;omega) (by omega)
 refine (hc2 _).mono ?_
 clear hc2
 rintro e w2 ⟨⟨a2,d2,rfl,b2⟩,n2⟩
 have hf2:=F1.out.keep n2
 have hn2:=N1.out.tr n2
 obtain⟨c0,c1,c2,c3,c4,c5,c6,c7,c8,c9,c10⟩:=(BX.out.nb hn2).c11
 clear n2
 go_wp2_with (at_builtin;refine wpList_appB _ rfl (.tmp 4) (.tmp 8) rfl (.slice (some ⟨w.heap.size+1,0,none⟩) 1 1) [0] rfl hf2.1 a2 d2 (bitsN (i) 11) 11 (bitsN_length _ _).symm rfl b2 (b2.noneN (bitsN_length _ _) (by omega)) (by simp[bitsN_length]) ?_)
 intro v3 w3 ho hk hg
 obtain⟨f3,n3⟩:=hf2.app0 hn2 ho hk hg
 have F3:=Lib.hid f3
 have N3:=Lib.hid n3
 clear ho hk hg hf2 hn2 b2 f3 n3 c0 c1 c2 c3 c4 c5 c6 c7 c8 c9 c10
 have fl3:=Fresh.lit w3 [0,0,1,0] #[.int .u8 0,.int .u8 0,.int .u8 1,.int .u8 0] (by simp) 4 (by simp) (by simp) (by intro x hx;simp at hx;omega)
 have fk3:=F3.out.keep (Nb.rfl.al (.cells #[.int .u8 0,.int .u8 0,.int .u8 1,.int .u8 0] 5))
 go_wp2_with (at_builtin;refine wpList_appB _ rfl (.tmp 10) (.tmp 11) rfl v3 _ rfl fk3.1 _ _ [0,0,1,0] 4 rfl rfl fl3.1.asBs.1 (by simp) (by simp[bitsN_length]) ?_)
 intro v4 w4 ho hk hg
 obtain⟨f4,n4⟩:=fk3.app0 (N3.out.al _) ho hk (fun g h=>by have:=hg g h;simpa using this)
 have F4:=Lib.hid f4
 have N4:=Lib.hid n4
 clear ho hk hg fk3 fl3 f4 n4
 have f9:Fresh w1 w4 v4 (headD i):=by
  have h:=F4.out
  simpa [headD] using h
 obtain⟨a9,d9,rfl,_,_⟩:=f9.1.bs
 have F9:=Lib.hid (f9.less NW.out.size)
 have N9:=Lib.hid (NW.out.tr N4.out)
 clear f9
 go_wp2
 go_ret
 exact⟨⟨_,_,rfl,F9.out⟩,N9.out⟩
theorem refbody7_no (f:Hd) (a:Option Addr) (cap:Nat) (l:List Nat) (w:World) (hL:l.length<=9223372036854775807) (hK:(f.K==2)=false) :
    Calls Tryz.prog 88 #[.agg (f.cs (.slice a l.length cap))] w fun e w'=>AnsB [] 2 e w'/\Nb w w':=by
 obtain⟨K,I,X,R,B,E,S,D,V,A⟩:=f
 simp only[Hd.cs]
 have d:(K != 2)=true:=by simpa [bne] using hK
 clear hK
 go_enter Tryz.func88,Tryz.ntmps88
 go_wp2
 go_ret2
 exact⟨⟨_,_,rfl,Bs.nil _⟩,Nb.rfl.al _⟩
theorem refbody7_bad (f:Hd) (a:Option Addr) (cap:Nat) (l:List Nat) (w:World) (hL:l.length<=9223372036854775807) (hK:f.K=2) (ho:okF f l=false) :
    Calls Tryz.prog 88 #[.agg (f.cs (.slice a l.length cap))] w fun e w'=>AnsB [] 2 e w'/\Nb w w':=by
 have hc:=fun w'=>refcheck5_any f a cap l w' hL
 rw[show checkN f l=2 by simp[checkN,ho]] at hc
 obtain⟨K,I,X,R,B,E,S,D,V,A⟩:=f
 simp only at hK
 subst hK
 simp only[Hd.cs] at hc ⊢
 have HC:=Lib.hid hc
 clear hc ho
 go_enter Tryz.func88,Tryz.ntmps88
 go_wp2_with fail
 refine (HC.out _).mono ?_
 rintro e w1 ⟨rfl,n1⟩
 go_wp2
 go_ret2
 exact⟨⟨_,_,rfl,Bs.nil _⟩,(Nb.rfl.al _).tr n1⟩
theorem refbody7_ok (B E:Bool) (i:Nat) (a:Option Addr) (cap:Nat) (l:List Nat) (w:World) (h:Bs w a cap l) (hn:a=none->cap=0) (hok:okD ⟨2,(i:Int),false,false,B,E,false,0,0,0⟩ l=true) :
    Calls Tryz.prog 88 #[.agg (Hd.cs ⟨2,(i:Int),false,false,B,E,false,0,0,0⟩ (.slice a l.length cap))] w fun e w'=>AnsB (bodyD B E i l) 0 e w'/\Nb w w':=by
 obtain⟨j,_,ej,hh,hi⟩:=okD_parts hok (Int.natCast_nonneg i)
 have ej':i=j:=by simpa using ej
 subst ej'
 have hL:=h.len
 obtain⟨h64,hc16,hcE,_⟩:=has2 hh
 have hokF:okF ⟨2,(i:Int),false,false,B,E,false,0,0,0⟩ l=true:=by simpa [okD] using hok
 have P1:=Lib.hid (fun w'=>by
  have:=refcheck5_any ⟨2,(i:Int),false,false,B,E,false,0,0,0⟩ a cap l w' hL
  rw[show checkN ⟨2,(i:Int),false,false,B,E,false,0,0,0⟩ l=0 by simp[checkN,hokF]] at this
  simp only[Hd.cs] at this
  exact this)
 have hp2:=fun w'=>by
  have:=refcode_any 2 (l.length:Int) w'
  rw[hcE] at this
  exact this
 obtain⟨c,hc⟩:∃ c,codeV 2 (l.length:Int)=c:=⟨_,rfl⟩
 have EQ:=Lib.hid (show headD i++bitB B::bitB E::(bitsN c 4++bytesBits l)=bodyD B E i l by rw[<- hc];simp[bodyD])
 rw[hc] at hc16 hp2
 have PC:=Lib.hid hp2
 have P2:=Lib.hid (fun w'=>refhead7_any i 2 false false B E false 0 0 0 (.slice a l.length cap) w' (by omega))
 have P3:=Lib.hid (fun w'=>refbits_any c 4 w' (by omega) (by omega))
 have P4:=Lib.hid (fun w' (n:Nb w w')=>refbytes_fr a cap l w' (h.below n) (by omega))
 have HB4:=Lib.hid (bitsN_length c 4)
 have HB8:=Lib.hid (bytesBits_len l)
 have HHD:=Lib.hid (headD_len i)
 have e64:IntKind.u64.wrap (c:Int)=c:=by rw[IntKind.wrap_u64];omega
 clear h hn hok hokF hh hcE hc ej hp2
 simp only[Hd.cs]
 obtain⟨w1,hw1⟩:∃ w1,w1=w.alloc (.cells #[.int .i64 2,.int .u32 i,.bool false,.bool false,.bool B,.bool E,.bool false,.int .u8 0,.int .u8 0,.int .u32 0,.slice a l.length cap] 34):=⟨_,rfl⟩
 have B1:=Lib.hid (show Blk w1 w.heap.size #[.int .i64 2,.int .u32 i,.bool false,.bool false,.bool B,.bool E,.bool false,.int .u8 0,.int .u8 0,.int .u32 0,.slice a l.length cap] 34 by rw[hw1];exact Blk.new _ _ _)
 have NW:=Lib.hid (show Nb w w1 by rw[hw1];exact Nb.rfl.al _)
 go_enter Tryz.func88,Tryz.ntmps88
 go_wp2_with fail
 rw[<- hw1]
 clear hw1
 refine (P1.out _).mono ?_
 rintro e w2 ⟨rfl,n2⟩
 have N2:=Lib.hid n2
 obtain⟨c0,c1,c2,c3,c4,c5,c6,c7,c8,c9,c10⟩:=(B1.out.nb n2).c11
 clear n2
 go_wp2_with fail
 refine (PC.out _).mono ?_
 rintro e w3 ⟨rfl,n3⟩
 have N3:=Lib.hid (N2.out.tr n3)
 clear n3 c0 c1 c2 c3 c4 c5 c6 c7 c8 c9 c10
 obtain⟨c0,c1,c2,c3,c4,c5,c6,c7,c8,c9,c10⟩:=(B1.out.nb N3.out).c11
 go_wp2_with fail
 have NB:RowKit.Hid (Nb w1 w3.drew):=Lib.hid (N3.out.tr (show Nb w3 w3.drew from Nb.drewN w3 1))
 go_region_held3 (fun w'=>w'.cell? ⟨w.heap.size,0,none⟩=some (.int .i64 2)/\w'.cell? ⟨w.heap.size,1,none⟩=some (.int .u32 i)/\w'.cell? ⟨w.heap.size,2,none⟩=some (.bool false)/\w'.cell? ⟨w.heap.size,3,none⟩=some (.bool false)/\w'.cell? ⟨w.heap.size,4,none⟩=some (.bool B)/\w'.cell? ⟨w.heap.size,5,none⟩=some (.bool E)/\w'.cell? ⟨w.heap.size,6,none⟩=some (.bool false)/\w'.cell? ⟨w.heap.size,7,none⟩=some (.int .u8 0)/\w'.cell? ⟨w.heap.size,8,none⟩=some (.int .u8 0)/\w'.cell? ⟨w.heap.size,9,none⟩=some (.int .u32 0)/\w'.cell? ⟨w.heap.size,10,none⟩=some (.slice a l.length cap)) (first | go_keep | exact (B1.out.nb NB.out).c11 | exact (B1.out.nb (NB.out.al _)).c11)
  (first
   | (refine step_appB _ rfl (.tmp 23) (.tmp 30) rfl (.slice a5 (headD i).length d5) (headD i) ?_ ?_ (some ⟨w5.heap.size,0,none⟩) 2 [bitB B,bitB E] 2 rfl ?_ ?_ (by simp) ?_ ?_
      ·simp[Act.eval,Act.put]
      ·exact (F5.out _ (Nb.rfl.al _)).1
      ·simp[Act.eval,Act.put]
      ·exact (Fresh.lit w5 [bitB B,bitB E] _ (by simp) 2 (by simp) (by simp) (by intro x hx;simp at hx;have:=bitB_le B;have:=bitB_le E;omega)).1.asBs.1
      ·rw[HHD.out];simp
      intro v7 w7 ho hk hg
      have f57:=Fresh.app0 (F5.out _ (Nb.rfl.al _)) (NB.out.al _) ho hk hg
      have F7:=Lib.hid f57.1
      have NB:=Lib.hid f57.2
      clear ho hk hg f57)
   | (refine step_appB _ rfl (.tmp 23) (.tmp 30) rfl (.slice a5 (headD i).length d5) (headD i) ?_ ?_ (some ⟨w3.heap.size,0,none⟩) 2 [bitB B,bitB E] 2 rfl ?_ ?_ (by simp) ?_ ?_
      ·simp[Act.eval,Act.put]
      ·exact (F5.out _ Nb.rfl).1
      ·simp[Act.eval,Act.put]
      ·exact (Fresh.lit w3.drew [bitB B,bitB E] _ (by simp) 2 (by simp) (by simp) (by intro x hx;simp at hx;have:=bitB_le B;have:=bitB_le E;omega)).1.asBs.1.below M5.out
      ·rw[HHD.out];simp
      intro v7 w7 ho hk hg
      have f57:=Fresh.app0 (F5.out _ Nb.rfl) NB.out ho hk hg
      have F7:=Lib.hid f57.1
      have NB:=Lib.hid f57.2
      clear ho hk hg f57)
   | (go_at_call 96
      refine (P2.out _).mono ?_
      rintro e w5 ⟨⟨a5,d5,rfl,f5⟩,n5⟩
      have s5:Nb w1 w5/\Fresh w1 w5 (.slice a5 (headD i).length d5) (headD i):=by
       first
        | exact⟨NB.out.tr n5,f5.less NB.out.size⟩
        | exact⟨(NB.out.al _).tr n5,f5.less (NB.out.al _).size⟩
      have F5:=Lib.hid (fun w' (n:Nb w5 w')=>s5.2.keep n)
      have M5:=Lib.hid n5
      have NB:=Lib.hid s5.1
      clear f5 n5 s5)
   | (go_at_call 135
      refine (refbit6_any _ _).mono ?_
      rintro e wz ⟨rfl,rfl⟩))
 all_goals
  have N7:=Lib.hid NB.out
  clear NB
  obtain⟨c0,c1,c2,c3,c4,c5,c6,c7,c8,c9,c10⟩:=(B1.out.nb N7.out).c11
  go_wp2_with fail
  clear c0 c1 c2 c3 c4 c5 c6 c7 c8 c9 c10
  refine (P3.out _).mono ?_
  rintro e w8 ⟨⟨a8,d8,rfl,b8⟩,n8⟩
  have hf8:=F7.out.keep n8
  have hn8:=N7.out.tr n8
  clear n8
  obtain⟨c0,c1,c2,c3,c4,c5,c6,c7,c8,c9,c10⟩:=(B1.out.nb hn8).c11
  go_wp2_with (at_builtin;refine wpList_appB _ rfl (.tmp 32) (.tmp 35) rfl v7 _ rfl hf8.1 a8 d8 (bitsN c 4) 4 HB4.out.symm rfl b8 (b8.noneN HB4.out (by omega)) (by simp only[List.length_append,HHD.out,HB4.out,List.length_cons,List.length_nil];omega) ?_)
  intro v9 w9 ho hk hg
  obtain⟨f9,n9⟩:=hf8.app0 hn8 ho hk hg
  have F9:=Lib.hid f9
  have N9:=Lib.hid n9
  clear ho hk hg hf8 hn8 b8 f9 n9 c0 c1 c2 c3 c4 c5 c6 c7 c8 c9 c10
  obtain⟨c0,c1,c2,c3,c4,c5,c6,c7,c8,c9,c10⟩:=(B1.out.nb N9.out).c11
  go_wp2_with fail
  clear c0 c1 c2 c3 c4 c5 c6 c7 c8 c9 c10
  refine (P4.out _ (NW.out.tr N9.out)).mono ?_
  rintro e wa ⟨⟨aa,da,rfl,ba,za⟩,na⟩
  have hfa:=F9.out.keep na
  have hna:=N9.out.tr na
  have ba':Bs wa aa da (bytesBits l):=ba
  have qa:aa=none->8*l.length=0/\da=0:=fun h0=>⟨by
   subst h0
   have h3:=ba'.none_len
   have h4:=HB8.out
   rw[h3] at h4
   simp at h4
   omega,za h0⟩
  clear na ba za
  go_wp2_with (at_builtin;refine wpList_appB _ rfl (.tmp 37) (.tmp 40) rfl v9 _ rfl hfa.1 aa da (bytesBits l) (8*l.length) HB8.out.symm rfl ba' qa (by simp only[List.length_append,HHD.out,HB4.out,HB8.out,List.length_cons,List.length_nil];omega) ?_)
  intro vb wb ho hk hg
  have fb:=hfa.app0 hna ho hk hg
  rw[EQ.out] at fb
  obtain⟨ab,db,rfl,bb,_⟩:=fb.1.1.bs
  have BB:=Lib.hid bb
  have NN:=Lib.hid fb.2
  clear ho hk hg fb bb hfa hna ba' qa
  go_wp2
  go_ret2
  exact⟨⟨ab,db,rfl,BB.out⟩,NW.out.tr NN.out⟩
theorem refbody7_any (f:Hd) (a:Option Addr) (cap:Nat) (l:List Nat) (w:World) (h:Bs w a cap l) (hn:a=none->cap=0) (hI:0<=f.I) :
    Calls Tryz.prog 88 #[.agg (f.cs (.slice a l.length cap))] w fun e w'=>AnsB (bdC f l) (okDE f l) e w'/\Nb w w':=by
 cases hok:okD f l with
 | true =>
   obtain⟨i,ef,et,_⟩:=okD_parts hok hI
   rw[show bdC f l=bodyD f.B f.E i l by rw[bdC,if_pos hok,et],show okDE f l=0 by rw[okDE,if_pos hok]]
   have hok2:okD ⟨2,(i:Int),false,false,f.B,f.E,false,0,0,0⟩ l=true:=by rw[<- ef];exact hok
   have:=refbody7_ok f.B f.E i a cap l w h hn hok2
   rw[<- ef] at this
   exact this
 | false =>
   rw[show bdC f l=[] by simp[bdC,hok],show okDE f l=2 by simp[okDE,hok]]
   cases hK:f.K==2 with
   | false=>exact refbody7_no f a cap l w h.len hK
   | true=>exact refbody7_bad f a cap l w h.len (by simpa using hK) (by simpa [okD,hK] using hok)
theorem refsum7_any (n:Nat) (w:World):Calls Tryz.prog 92 #[.int .i64 (n:Int)] w fun e w'=>e = .returned (.int .i64 (kindD n:Nat))/\w=w':=by
 by_cases h:16 < n
 ·have d:decide (16 < (n:Int))=true:=by simp;omega
  rw[show kindD n=3 by simp[kindD,h]]
  clear h
  go_enter Tryz.func92,Tryz.ntmps92
  go_wp2
  go_ret
  exact⟨rfl,rfl⟩
 ·have d:decide (16 < (n:Int))=false:=by simp;omega
  rw[show kindD n=2 by simp[kindD,h]]
  clear h
  go_enter Tryz.func92,Tryz.ntmps92
  go_wp2
  go_ret
  exact⟨rfl,rfl⟩
end Go.Proofs.YtipefblpppmabaaGreatDoor
