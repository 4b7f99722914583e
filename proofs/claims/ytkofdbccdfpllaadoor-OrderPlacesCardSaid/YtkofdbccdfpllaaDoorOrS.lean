
/- The document's Key and Compare of frames. No conditions but sizes. -/
import Derived.Test.YtkofdbccdfpllaaDoorGor
import Derived.Test.YtkofdbccdfpllaaDoorGhh
import Derived.Test.YtkofdbccdfpllaaDoorGqx
import Derived.Test.YtkofdbccdfpllaaDoorClaR
import Derived.Test.YtkofdbccdfpllaaDoorGj
import Derived.Deep.RegionHeld3
set_option maxHeartbeats 3200000
set_option maxRecDepth 100000
namespace Go.Proofs.YtkofdbccdfpllaaDoor
set_option linter.unusedVariables false
set_option linter.unusedSimpArgs false
open Go.RowKit
theorem refkey10_bad (f:Hd) (a:Option Addr) (cap:Nat) (l:List Nat) (w:World) (h:Bs w a cap l) (hok:okF f l=false) :
    Calls Tryd.prog 14 #[.agg (f.cs (.slice a l.length cap))] w fun e w'=>AnsK f l e/\Nb w w':=by
 have hL:=h.len
 have F0:=Lib.hid (fun w'=>refcheck5_any f a cap l w' hL)
 unfold AnsK
 rw[show checkN f l=2 by simp[checkN,hok]] at F0 ⊢
 rw[show keyV f l=0 by simp[keyV,hok]]
 obtain⟨K,I,X,R,B,E,S,D,V,A⟩:=f
 simp only[Hd.cs] at F0 ⊢
 clear h hok
 go_enter Tryd.func14,Tryd.ntmps14
 go_wp2_with fail
 refine (F0.out _).mono ?_
 rintro e w1 ⟨rfl,n1⟩
 go_wp2
 go_ret2
 exact⟨rfl,(Nb.rfl.al _).tr n1⟩
theorem refkey10_ext (K:Int) (i:Nat) (R B E S:Bool) (D V A:Int) (a:Option Addr) (cap:Nat) (l:List Nat) (w:World) (h:Bs w a cap l) (hok:okF ⟨K,(i:Nat),true,R,B,E,S,D,V,A⟩ l=true) (hi:i < 536870912) :
    Calls Tryd.prog 14 #[.agg (Hd.cs ⟨K,(i:Nat),true,R,B,E,S,D,V,A⟩ (.slice a l.length cap))] w fun e w'=>e = .returned (.tuple #[.int .u64 (keyX R i:Nat),.int .i64 0])/\Nb w w':=by
 have hL:=h.len
 have f0:=fun w'=>refcheck5_any ⟨K,(i:Nat),true,R,B,E,S,D,V,A⟩ a cap l w' hL
 rw[show checkN ⟨K,(i:Nat),true,R,B,E,S,D,V,A⟩ l=0 by simp[checkN,hok]] at f0
 simp only[Hd.cs] at f0 ⊢
 have F0:=Lib.hid f0
 obtain⟨w1,hw1⟩:∃ w1,w1=w.alloc (.cells #[.int .i64 K,.int .u32 i,.bool true,.bool R,.bool B,.bool E,.bool S,.int .u8 D,.int .u8 V,.int .u32 A,.slice a l.length cap] 37):=⟨_,rfl⟩
 have BX:=Lib.hid (show Blk w1 w.heap.size #[.int .i64 K,.int .u32 i,.bool true,.bool R,.bool B,.bool E,.bool S,.int .u8 D,.int .u8 V,.int .u32 A,.slice a l.length cap] 37 by rw[hw1];exact Blk.new _ _ _)
 have NW:=Lib.hid (show Nb w w1 by rw[hw1];exact Nb.rfl.al _)
 have E1:=Lib.hid (show ((i / 262144:Nat):Int)=(i:Int) / 262144 from by omega)
 have E2:=Lib.hid (show ((i%262144:Nat):Int)=(i:Int)%262144 from by omega)
 have HI:=Lib.hid hi
 have HNum:=Lib.hid (kbX_num R i hi)
 have hbit:=kbX_bit R i
 have hlen:=kbX_len R i
 have HBit:=Lib.hid hbit
 have HLen:=Lib.hid hlen
 clear h hok f0 hbit hlen
 go_enter Tryd.func14,Tryd.ntmps14
 go_wp2_with fail
 rw[<- hw1]
 clear hw1
 refine (F0.out _).mono ?_
 rintro e w2 ⟨rfl,n2⟩
 have N2:=Lib.hid n2
 clear n2
 obtain⟨c0,c1,c2,c3,c4,c5,c6,c7,c8,c9,c10⟩:=(BX.out.nb N2.out).c11
 go_wp2_with fail
 have hc3:=fun wz=>refbits_fr (i / 262144) 11 wz (by have:=HI.out;omega) (by omega)
 simp only[E1.out,bitsN_length] at hc3
 refine (hc3 _).mono ?_
 clear hc3
 rintro e w3 ⟨⟨a3,d3,rfl,f3⟩,n3⟩
 have f3':=f3.less (w:=w2) (Nat.le_refl _)
 have hn3:Nb w2 w3:=n3
 clear n3 f3 c0 c1 c2 c3 c4 c5 c6 c7 c8 c9 c10
 have fl3:=Fresh.lit w3 [1,1] #[.int .u8 1,.int .u8 1] (by simp) 2 (by simp) (by simp) (by intro x hx;simp at hx;omega)
 have fk3:=f3'.keep (Nb.rfl.al (.cells #[.int .u8 1,.int .u8 1] 5))
 go_wp2_with (at_builtin;refine wpList_appB _ rfl (.tmp 14) (.tmp 15) rfl _ _ rfl fk3.1 _ _ [1,1] 2 rfl rfl fl3.1.asBs.1 (by simp) (by simp[bitsN_length]) ?_)
 intro v4 w4 ho hk hg
 obtain⟨f4,n4⟩:=fk3.app0 (hn3.al _) ho hk (fun g h=>by have:=hg g h;simpa using this)
 have F4:=Lib.hid f4
 have N4:=Lib.hid (N2.out.tr n4)
 have M4:=Lib.hid n4
 clear ho hk hg fk3 fl3 f4 n4 f3' hn3
 obtain⟨c0,c1,c2,c3,c4,c5,c6,c7,c8,c9,c10⟩:=(BX.out.nb N4.out).c11
 go_wp2_with fail
 clear c0 c1 c2 c3 c4 c5 c6 c7 c8 c9 c10
 have hc5:=fun wz=>refbits_fr (i%262144) 18 wz (by have:=HI.out;omega) (by omega)
 simp only[E2.out,bitsN_length] at hc5
 refine (hc5 _).mono ?_
 clear hc5
 rintro e w5 ⟨⟨a5,d5,rfl,f5⟩,n5⟩
 have hf5:=F4.out.keep n5
 have hn5:=M4.out.tr n5
 have b5:=f5.1.asBs.1
 clear n5 f5
 go_wp2_with (at_builtin;refine wpList_appB _ rfl (.tmp 17) (.tmp 22) rfl v4 _ rfl hf5.1 a5 d5 (bitsN (i%262144) 18) 18 (bitsN_length _ _).symm rfl b5 (b5.noneN (bitsN_length _ _) (by omega)) (by simp[bitsN_length]) ?_)
 intro v6 w6 ho hk hg
 obtain⟨f6,n6⟩:=hf5.app0 hn5 ho hk hg
 have F6:=Lib.hid f6
 have N6:=Lib.hid n6
 clear ho hk hg hf5 hn5 b5 f6 n6
 obtain⟨c0,c1,c2,c3,c4,c5,c6,c7,c8,c9,c10⟩:=(BX.out.nb (N2.out.tr N6.out)).c11
 go_wp2_with fail
 refine (refbit6_any R _).mono ?_
 rintro e wz ⟨rfl,rfl⟩
 clear c0 c1 c2 c3 c4 c5 c6 c7 c8 c9 c10
 have fl6:=Fresh.lit w6 [bitB R,0,0] #[.int .u8 (bitB R),.int .u8 0,.int .u8 0] (by simp) 3 (by simp) (by simp) (by intro x hx;simp at hx;have:=bitB_le R;omega)
 have fk6:=F6.out.keep (Nb.rfl.al (.cells #[.int .u8 (bitB R),.int .u8 0,.int .u8 0] 5))
 go_wp2_with (at_builtin;refine wpList_appB _ rfl (.tmp 24) (.tmp 28) rfl v6 _ rfl fk6.1 _ _ [bitB R,0,0] 3 rfl rfl fl6.1.asBs.1 (by simp) (by simp[bitsN_length]) ?_)
 intro v7 w7 ho hk hg
 obtain⟨f7,n7⟩:=fk6.app0 (Nb.al N6.out _) ho hk (fun g h=>by have:=hg g h;simpa using this)
 have N7:=Lib.hid ((NW.out.tr N2.out).tr n7)
 have f9:Fresh w2 w7 v7 (kbX R i):=by
  have h:=f7
  simpa [kbX] using h
 obtain⟨a9,d9,rfl,b9,_⟩:=f9.1.bs
 have C9:=Lib.hid (num_any a9 d9 (kbX R i) w7 b9 HBit.out (by rw[HLen.out];omega))
 rw[HNum.out] at C9
 clear ho hk hg fk6 fl6 f7 n7 f9 b9
 go_wp2_with fail
 refine C9.out.mono ?_
 rintro e w8 ⟨rfl,rfl⟩
 go_wp2
 go_ret2
 exact⟨rfl,N7.out⟩
end Go.Proofs.YtkofdbccdfpllaaDoor
