
/- The document's Key of a frame without Ext. No conditions but sizes. -/
import Derived.Test.YtkofdbccdfpllaaDoorOrS
set_option maxHeartbeats 3200000
set_option maxRecDepth 100000
namespace Go.Proofs.YtkofdbccdfpllaaDoor
set_option linter.unusedVariables false
set_option linter.unusedSimpArgs false
open Go.RowKit
theorem refkey10_std (K:Int) (i:Nat) (R B E S:Bool) (D V A:Int) (a:Option Addr) (cap:Nat) (l:List Nat) (w:World) (h:Bs w a cap l) (hok:okF ⟨K,(i:Nat),false,R,B,E,S,D,V,A⟩ l=true) (hi:i < 2048) :
    Calls Tryd.prog 14 #[.agg (Hd.cs ⟨K,(i:Nat),false,R,B,E,S,D,V,A⟩ (.slice a l.length cap))] w fun e w'=>e = .returned (.tuple #[.int .u64 (keyS K R i:Nat),.int .i64 0])/\Nb w w':=by
 have hL:=h.len
 have f0:=fun w'=>refcheck5_any ⟨K,(i:Nat),false,R,B,E,S,D,V,A⟩ a cap l w' hL
 rw[show checkN ⟨K,(i:Nat),false,R,B,E,S,D,V,A⟩ l=0 by simp[checkN,hok]] at f0
 simp only[Hd.cs] at f0 ⊢
 have F0:=Lib.hid f0
 obtain⟨w1,hw1⟩:∃ w1,w1=w.alloc (.cells #[.int .i64 K,.int .u32 i,.bool false,.bool R,.bool B,.bool E,.bool S,.int .u8 D,.int .u8 V,.int .u32 A,.slice a l.length cap] 37):=⟨_,rfl⟩
 have BX:=Lib.hid (show Blk w1 w.heap.size #[.int .i64 K,.int .u32 i,.bool false,.bool R,.bool B,.bool E,.bool S,.int .u8 D,.int .u8 V,.int .u32 A,.slice a l.length cap] 37 by rw[hw1];exact Blk.new _ _ _)
 have NW:=Lib.hid (show Nb w w1 by rw[hw1];exact Nb.rfl.al _)
 obtain⟨HH,hHH⟩:∃ HH,HH=bitsN i 11++[bitB R,0,bitB (K != 1),bitB (K==3)]:=⟨_,rfl⟩
 have hkb:kbS K R i=HH++List.replicate 19 0:=by rw[hHH,kbS,List.append_assoc]
 have hHl:HH.length=15:=by rw[hHH,List.length_append,bitsN_length];rfl
 have HNum:=Lib.hid (kbS_num K R i hi)
 have HBit:=Lib.hid (kbS_bit K R i)
 have HKB:=Lib.hid hkb
 have HHl:=Lib.hid hHl
 have P9:=Lib.hid (fun w'=>refbits_fr i 11 w' (by omega) (by omega))
 obtain⟨D8,hD8⟩:∃ D8,D8=bitsN i 11:=⟨_,rfl⟩
 rw[<- hD8] at P9 hHH
 have HD8:=Lib.hid (show D8.length=11 by rw[hD8,bitsN_length])
 have HEq:=Lib.hid hHH
 clear h hok f0 hkb hHl hD8 hHH
 have e64:IntKind.u64.wrap (i:Int)=i:=by rw[IntKind.wrap_u64];omega
 have hB1:=bitB_le R
 have hB2:=bitB_le (K != 1)
 have hB3:=bitB_le (K==3)
 go_enter Tryd.func14,Tryd.ntmps14
 go_wp2_with fail
 rw[<- hw1]
 clear hw1
 refine (F0.out _).mono ?_
 rintro e w5 ⟨rfl,n2⟩
 have N2:=Lib.hid n2
 have Q5:=Lib.hid (BX.out.nb n2)
 clear n2
 obtain⟨c0,c1,c2,c3,c4,c5,c6,c7,c8,c9,c10⟩:=Q5.out.c11
 go_wp2_with fail
 have NB:RowKit.Hid (Nb w5 w5.drew):=Lib.hid (show Nb w5 w5.drew from Nb.drewN w5 1)
 go_region_held3 (fun w'=>w'.cell? ⟨w.heap.size,0,none⟩=some (.int .i64 K)/\w'.cell? ⟨w.heap.size,1,none⟩=some (.int .u32 i)/\w'.cell? ⟨w.heap.size,3,none⟩=some (.bool R)) (first | go_keep | exact⟨(Q5.out.nb NB.out).cell 0,(Q5.out.nb NB.out).cell 1,(Q5.out.nb NB.out).cell 3⟩ | exact⟨(Q5.out.nb (NB.out.al _)).cell 0,(Q5.out.nb (NB.out.al _)).cell 1,(Q5.out.nb (NB.out.al _)).cell 3⟩)
  (first
   | (refine step_appB _ rfl (.tmp 33) (.tmp 45) rfl (.slice a6 D8.length d6) D8 ?_ ?_ (some ⟨w6.heap.size,0,none⟩) 4 [bitB R,0,bitB (K != 1),bitB (K==3)] 4 rfl ?_ ?_ (by simp) ?_ ?_
      ·simp[Act.eval,Act.put]
      ·exact (F6.out _ (Nb.rfl.al _)).1
      ·simp[Act.eval,Act.put]
      ·exact (Fresh.lit w6 [bitB R,0,bitB (K != 1),bitB (K==3)] _ (by simp) 4 (by simp) (by simp) (by intro x hx;simp at hx;omega)).1.asBs.1
      ·rw[HD8.out];simp
      intro v7 w7 ho hk hg
      have f57:=Fresh.app0 (F6.out _ (Nb.rfl.al _)) (NB.out.al _) ho hk hg
      have F7:=Lib.hid f57.1
      have NB:=Lib.hid f57.2
      clear ho hk hg f57)
   | (refine step_appB _ rfl (.tmp 33) (.tmp 45) rfl (.slice a6 D8.length d6) D8 ?_ ?_ (some ⟨w5.heap.size,0,none⟩) 4 [bitB R,0,bitB (K != 1),bitB (K==3)] 4 rfl ?_ ?_ (by simp) ?_ ?_
      ·simp[Act.eval,Act.put]
      ·exact (F6.out _ Nb.rfl).1
      ·simp[Act.eval,Act.put]
      ·exact (Fresh.lit w5.drew [bitB R,0,bitB (K != 1),bitB (K==3)] _ (by simp) 4 (by simp) (by simp) (by intro x hx;simp at hx;omega)).1.asBs.1.below M6.out
      ·rw[HD8.out];simp
      intro v7 w7 ho hk hg
      have f57:=Fresh.app0 (F6.out _ Nb.rfl) NB.out ho hk hg
      have F7:=Lib.hid f57.1
      have NB:=Lib.hid f57.2
      clear ho hk hg f57)
   | (go_at_call 23
      refine (P9.out _).mono ?_
      rintro e w6 ⟨⟨a6,d6,rfl,f6⟩,n6⟩
      have s6:Nb w5 w6/\Fresh w5 w6 (.slice a6 D8.length d6) D8:=by
       first
        | exact⟨NB.out.tr n6,f6.less NB.out.size⟩
        | exact⟨(NB.out.al _).tr n6,f6.less (NB.out.al _).size⟩
      have F6:=Lib.hid (fun w' (n:Nb w6 w')=>s6.2.keep n)
      have M6:=Lib.hid n6
      have NB:=Lib.hid s6.1
      clear f6 n6 s6)
   | (go_at_call 24
      refine (refbit6_any _ _).mono ?_
      rintro e wz ⟨rfl,rfl⟩))
 clear hB1 hB2 hB3 e64
 rename_i hHeld
 clear hHeld F6 M6 Q5 c0 c1 c2 c3 c4 c5 c6 c7 c8 c9 c10
 have F8:=Lib.hid (show Fresh w5 w7 v7 (HH++List.replicate 0 0) by rw[HEq.out,List.replicate_zero,List.append_nil];exact F7.out)
 clear F7 HEq HD8
 go_wp2_with fail
 go_loopw [4] (fun v wr=>∃ m:Nat,15<=m/\m<=34/\Fresh w5 wr v (HH++List.replicate (m - 15) 0)/\Nb w5 wr) (fun v _=>34 - lenS v)
 case atStart=>exact⟨15,by omega,by omega,F8.out,NB.out⟩
 case round =>
  obtain⟨m,hm,hm2,hf,hnb⟩:=hrel
  obtain⟨av,cv,hve,hbv,hzz⟩:=hf.1.bs
  clear hzz
  have hlv:(HH++List.replicate (m - 15) 0).length=m:=by rw[List.length_append,HHl.out,List.length_replicate];omega
  rw[hlv] at hve
  subst hve
  have F:=Lib.hid hf
  have N:=Lib.hid hnb
  have BV:=Lib.hid hbv
  have LV:=Lib.hid hlv
  clear hf hnb hbv hlv
  by_cases h19:m < 34
  ·have d34:decide ((m:Int) < 34)=true:=decide_eq_true (by omega)
   have FK:=Lib.hid (F.out.keep (Nb.rfl.al (.cells #[.int .u8 0] 5)))
   have FL:=Lib.hid (Fresh.lit wr [0] #[.int .u8 0] (by simp) 1 (by simp) (by simp) (by simp))
   go_wp2_with (at_builtin;refine wpList_appB _ rfl (.tmp 50) (.tmp 51) rfl _ _ rfl FK.out.1 _ _ [0] 1 rfl rfl FL.out.1.asBs.1 (by simp) (by rw[LV.out];simp;omega) ?_)
   intro v9 w9 ho hk hg
   obtain⟨f9,n9⟩:=FK.out.app0 (Nb.al N.out _) ho hk (fun g h=>by have:=hg g h;simpa using this)
   rw[<- List.append_assoc] at f9
   obtain⟨a9,c9,hv9,hb9,hz9⟩:=f9.1.bs
   rw[List.length_append,LV.out,List.length_singleton] at hv9
   subst hv9
   have F9:=Lib.hid f9
   have N9:=Lib.hid n9
   clear ho hk hg f9 n9 hb9 hz9
   go_wp2
   go_roundw
   case rel =>
    refine⟨m+1,by omega,by omega,?_,N9.out⟩
    rw[show m+1 - 15=(m - 15)+1 by omega,List.replicate_succ',<- List.append_assoc]
    exact F9.out
   case measure=>simp[lenS];omega
  ·obtain rfl:m=34:=by omega
   have hbv:=BV.out
   rw[show 34 - 15=19 from rfl,<- HKB.out] at hbv
   have hkl:=kbS_len K R i
   have C9:=num_any av cv (kbS K R i) wr hbv HBit.out (by rw[hkl];omega)
   rw[HNum.out,hkl] at C9
   have C:=Lib.hid C9
   clear C9 hbv hkl h19
   go_wp2_with fail
   refine C.out.mono ?_
   rintro e w8 ⟨rfl,rfl⟩
   go_wp2
   go_ret2
   exact⟨rfl,(NW.out.tr N2.out).tr N.out⟩
theorem refkey10_any (f:Hd) (a:Option Addr) (cap:Nat) (l:List Nat) (w:World) (h:Bs w a cap l) (hI:0<=f.I) :
    Calls Tryd.prog 14 #[.agg (f.cs (.slice a l.length cap))] w fun e w'=>AnsK f l e/\Nb w w':=by
 cases hok:okF f l with
 | false=>exact refkey10_bad f a cap l w h hok
 | true =>
   have hs:=shp_of hok hI
   unfold AnsK
   rw[show checkN f l=0 by simp[checkN,hok],show keyV f l=keyF f by simp[keyV,hok]]
   obtain⟨K,I,X,R,B,E,S,D,V,A⟩:=f
   obtain⟨i,rfl⟩:=Int.eq_ofNat_of_zero_le hI
   cases X with
   | false =>
     have hi:i < 2048:=by
      cases hs with
      | cl _ _ hi=>simpa using hi
      | cx _ hx _=>simp at hx
      | fd _ _ _ hi=>simpa using hi
      | xl _ _ _ hi=>simpa using hi
     rw[show keyF ⟨K,(i:Nat),false,R,B,E,S,D,V,A⟩=keyS K R i by simp[keyF]]
     exact refkey10_std K i R B E S D V A a cap l w h hok hi
   | true =>
     have hi:i < 536870912:=by
      cases hs with
      | cx _ _ hi=>simpa using hi
      | cl _ hx _=>simp at hx
      | fd _ hx _ _=>simp at hx
      | xl _ hx _ _=>simp at hx
     rw[show keyF ⟨K,(i:Nat),true,R,B,E,S,D,V,A⟩=keyX R i by simp[keyF]]
     exact refkey10_ext K i R B E S D V A a cap l w h hok hi
end Go.Proofs.YtkofdbccdfpllaaDoor
