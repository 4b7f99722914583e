/- For every bank, every frame and every bool the law FilterShadows answers true and leaves its arguments as they were; the package's table of longer sizes is tied to the program's text. No conditions. -/
import Derived.Test.YtaohmgklhecjbaaDoorRows
import Derived.Test.YtaohmgklhecjbaaDoorCards
import Derived.Test.YtaohmgklhecjbaaDoorTie
import Derived.Test.YtaohmgklhecjbaaDoorFlS
import Derived.Test.YtaohmgklhecjbaaDoorFlO
import Derived.Test.YtaohmgklhecjbaaDoorGe
import Derived.Test.YtaohmgklhecjbaaDoorFlU
import Derived.Test.YtaohmgklhecjbaaDoorFlW
import Derived.WalkKit
import Derived.ProofKit
import Derived.OpenShut
import Derived.ShutString
import Derived.ChangeOld
import Derived.Below
import Derived.Carry
import Derived.Lib.SmallJoins
import Derived.Deep.RegionWith
import Derived.Deep.RegionHeld3
import Derived.LaidMore
import Derived.LaidLaws
import Derived.Stop.Joined
import Derived.SevenTiedAt
set_option maxHeartbeats 8000000
set_option maxRecDepth 100000
namespace Go.Proofs.YtaohmgklhecjbaaDoor.filterShadows
open Go.ChangeShapes Go.WideShapes Go.ChangeAt Go.RowKit Go.Joins
set_option linter.unusedVariables false
set_option linter.unusedSimpArgs false
theorem own:ownKnob Tryd.prog.godebug=none:=by kernel_rfl
theorem laidOut:laidOutB Tryd.prog=true:=by kernel_rfl
theorem arr2 {α:Type} {cs:Array α} (h:cs.size=2):∃ c0 c1,cs=#[c0,c1]:=by
 obtain⟨l⟩:=cs
 match l,h with
 | [c0,c1],_=>exact⟨c0,c1,rfl⟩
theorem arr11 {α:Type} {cs:Array α} (h:cs.size=11):∃ c0 c1 c2 c3 c4 c5 c6 c7 c8 c9 c10,cs=#[c0,c1,c2,c3,c4,c5,c6,c7,c8,c9,c10]:=by
 obtain⟨l⟩:=cs
 match l,h with
 | [c0,c1,c2,c3,c4,c5,c6,c7,c8,c9,c10],_=>exact⟨c0,c1,c2,c3,c4,c5,c6,c7,c8,c9,c10,rfl⟩
open Go.Sort
theorem walk (w:World) (hK:Longer w) (a0_0:Option Addr) (cap0_0:Nat) (l0_0:List Rl) (h0_0:Rls w a0_0 cap0_0 l0_0) (n0_0:a0_0=none->cap0_0=0) (r0_0:cap0_0*32<=140737488351232) (a0_1:Bool) (a1_0:Int) (w1_0:(Lit.int .i64 a1_0).wf=true) (a1_1:Int) (w1_1:(Lit.int .u32 a1_1).wf=true) (a1_2:Bool) (a1_3:Bool) (a1_4:Bool) (a1_5:Bool) (a1_6:Bool) (a1_7:Int) (w1_7:(Lit.int .u8 a1_7).wf=true) (a1_8:Int) (w1_8:(Lit.int .u8 a1_8).wf=true) (a1_9:Int) (w1_9:(Lit.int .u32 a1_9).wf=true) (a1_10:Option Addr) (cap1_10:Nat) (l1_10:List Nat) (h1_10:Bs w a1_10 cap1_10 l1_10) (n1_10:a1_10=none->cap1_10=0) (a2:Bool) :
    Calls Tryd.prog 6 #[.agg #[.slice a0_0 l0_0.length cap0_0,.bool a0_1],.agg #[.int .i64 a1_0,.int .u32 a1_1,.bool a1_2,.bool a1_3,.bool a1_4,.bool a1_5,.bool a1_6,.int .u8 a1_7,.int .u8 a1_8,.int .u32 a1_9,.slice a1_10 l1_10.length cap1_10],.bool a2] w fun e w'=>e = .returned (.bool true)/\Nb w w':=by
 have HK:=Lib.hid hK
 have hL0:=h0_0.len
 have hL1:=h1_10.len
 have HR:=Lib.hid h0_0
 have HD:=Lib.hid h1_10
 have AL:=Lib.hid (fun w' (n:Nb w w')=>alive15_any w' (hK.below n))
 have WF:=Lib.hid (show WdH (⟨a1_0,a1_1,a1_2,a1_3,a1_4,a1_5,a1_6,a1_7,a1_8,a1_9⟩:Hd) from ⟨wf32 w1_1,wf8 w1_7,wf8 w1_8,wf32 w1_9⟩)
 obtain⟨z0,hz0⟩:∃ z0,z0=(w.alloc (.cells #[.slice a0_0 l0_0.length cap0_0,.bool a0_1] 24)).alloc (.cells #[.int .i64 a1_0,.int .u32 a1_1,.bool a1_2,.bool a1_3,.bool a1_4,.bool a1_5,.bool a1_6,.int .u8 a1_7,.int .u8 a1_8,.int .u32 a1_9,.slice a1_10 l1_10.length cap1_10] 28):=⟨_,rfl⟩
 obtain⟨B,hB⟩:∃ B,B=w.heap.size:=⟨_,rfl⟩
 have NZ:=Lib.hid (show Nb w z0 by rw[hz0];exact (Nb.rfl.al _).al _)
 have BB:=Lib.hid (show Blk z0 B #[.slice a0_0 l0_0.length cap0_0,.bool a0_1] 24 by rw[hz0,hB];exact (Blk.new w _ _).nb (Nb.rfl.al _))
 have BF:=Lib.hid (show Blk z0 (B+1) #[.int .i64 a1_0,.int .u32 a1_1,.bool a1_2,.bool a1_3,.bool a1_4,.bool a1_5,.bool a1_6,.int .u8 a1_7,.int .u8 a1_8,.int .u32 a1_9,.slice a1_10 l1_10.length cap1_10] 28 by
  rw[hz0,hB]
  have:=Blk.new (w.alloc (.cells #[.slice a0_0 l0_0.length cap0_0,.bool a0_1] 24)) #[.int .i64 a1_0,.int .u32 a1_1,.bool a1_2,.bool a1_3,.bool a1_4,.bool a1_5,.bool a1_6,.int .u8 a1_7,.int .u8 a1_8,.int .u32 a1_9,.slice a1_10 l1_10.length cap1_10] 28
  rwa[World.size_alloc] at this)
 clear hK h0_0 n0_0 r0_0 h1_10 n1_10
 by_cases hbig:31 < l0_0.length
 ·have d0:decide ((31:Int) < (l0_0.length:Int))=true:=decide_eq_true (by omega)
  clear hbig
  go_enter Tryd.func6,Tryd.ntmps6
  go_wp2_with fail
  rw[<- hz0,<- hB]
  clear hz0 hB
  refine (AL.out _ NZ.out).mono ?_
  rintro e w1 ⟨rfl,n1⟩
  have N1:=Lib.hid (NZ.out.tr n1)
  have B1:=Lib.hid (BB.out.nb n1)
  have F1:=Lib.hid (BF.out.nb n1)
  obtain⟨e0,e1⟩:=B1.out.r2
  obtain⟨c0,c1,c2,c3,c4,c5,c6,c7,c8,c9,c10⟩:=F1.out.c11
  clear n1
  go_wp2
  go_ret
  exact⟨rfl,N1.out⟩
 have d0:decide ((31:Int) < (l0_0.length:Int))=false:=decide_eq_false (by omega)
 have hle:l0_0.length<=31:=by omega
 have fc:=fun w' (n:Nb w w')=>check5_any (⟨a1_0,a1_1,a1_2,a1_3,a1_4,a1_5,a1_6,a1_7,a1_8,a1_9⟩:Hd) a1_10 cap1_10 l1_10 w' (HD.out.below n) (HK.out.below n)
 have TO:=Lib.hid (fun w' (n:Nb w w')=>lawTo_any l0_0 a0_0 cap0_0 a0_1 w' (HR.out.below n) (by omega))
 have cp:=fun ax cx w' (h:Rls w' ax cx l0_0)=>check15_any l0_0 ax cx a0_1 w' h
 clear hbig
 cases hk:okF (⟨a1_0,a1_1,a1_2,a1_3,a1_4,a1_5,a1_6,a1_7,a1_8,a1_9⟩:Hd) l1_10 with
 | false =>
   rw[show checkN (⟨a1_0,a1_1,a1_2,a1_3,a1_4,a1_5,a1_6,a1_7,a1_8,a1_9⟩:Hd) l1_10=2 by simp[checkN,hk]] at fc
   simp only[Hd.cs] at fc
   have FC:=Lib.hid fc
   clear fc cp hk
   go_enter Tryd.func6,Tryd.ntmps6
   go_wp2_with fail
   rw[<- hz0,<- hB]
   clear hz0 hB
   refine (AL.out _ NZ.out).mono ?_
   rintro e w1 ⟨rfl,n1⟩
   have N1:=Lib.hid (NZ.out.tr n1)
   have B1:=Lib.hid (BB.out.nb n1)
   have F1:=Lib.hid (BF.out.nb n1)
   obtain⟨e0,e1⟩:=B1.out.r2
   obtain⟨c0,c1,c2,c3,c4,c5,c6,c7,c8,c9,c10⟩:=F1.out.c11
   clear n1
   go_wp2_with fail
   refine (FC.out _ N1.out).mono ?_
   rintro e w2 ⟨rfl,n2⟩
   have N2:=Lib.hid (N1.out.tr n2)
   have B2:=Lib.hid (B1.out.nb n2)
   have F2:=Lib.hid (F1.out.nb n2)
   clear e0 e1 c0 c1 c2 c3 c4 c5 c6 c7 c8 c9 c10
   obtain⟨e0,e1⟩:=B2.out.r2
   clear n2
   go_wp2
   go_ret
   exact⟨rfl,N2.out⟩
 | true =>
 rw[show checkN (⟨a1_0,a1_1,a1_2,a1_3,a1_4,a1_5,a1_6,a1_7,a1_8,a1_9⟩:Hd) l1_10=0 by simp[checkN,hk]] at fc
 cases hok:okB l0_0 with
 | false =>
   rw[show bkE l0_0=2 by simp[bkE,hok]] at cp
   have CP:=Lib.hid cp
   simp only[Hd.cs] at fc
   have FC:=Lib.hid fc
   clear fc cp hk hok
   go_enter Tryd.func6,Tryd.ntmps6
   go_wp2_with fail
   rw[<- hz0,<- hB]
   clear hz0 hB
   refine (AL.out _ NZ.out).mono ?_
   rintro e w1 ⟨rfl,n1⟩
   have N1:=Lib.hid (NZ.out.tr n1)
   have B1:=Lib.hid (BB.out.nb n1)
   have F1:=Lib.hid (BF.out.nb n1)
   obtain⟨e0,e1⟩:=B1.out.r2
   obtain⟨c0,c1,c2,c3,c4,c5,c6,c7,c8,c9,c10⟩:=F1.out.c11
   clear n1
   go_wp2_with fail
   refine (FC.out _ N1.out).mono ?_
   rintro e w2 ⟨rfl,n2⟩
   have N2:=Lib.hid (N1.out.tr n2)
   have B2:=Lib.hid (B1.out.nb n2)
   have F2:=Lib.hid (F1.out.nb n2)
   clear e0 e1 c0 c1 c2 c3 c4 c5 c6 c7 c8 c9 c10
   obtain⟨e0,e1⟩:=B2.out.r2
   clear n2
   go_wp2_with fail
   refine (TO.out w2 N2.out).mono ?_
   rintro e w3 ⟨⟨ax,cx,rfl,ox,gx⟩,n3⟩
   have OX:=Lib.hid ox
   have N3:=Lib.hid (N2.out.tr n3)
   have B3:=Lib.hid (B2.out.nb n3)
   have F3:=Lib.hid (F2.out.nb n3)
   clear n3 ox gx e0 e1
   go_wp2_with fail
   refine (CP.out ax cx w3 OX.out.rls.2).mono ?_
   rintro e w4 ⟨rfl,n4⟩
   have N4:=Lib.hid (N3.out.tr n4)
   have B4:=Lib.hid (B3.out.nb n4)
   have F4:=Lib.hid (F3.out.nb n4)
   clear n4
   go_wp2
   go_ret
   exact⟨rfl,N4.out⟩
 | true =>
 rw[show bkE l0_0=0 by simp[bkE,hok]] at cp
 have CP:=Lib.hid cp
 have hban:banF (⟨a1_0,a1_1,a1_2,a1_3,a1_4,a1_5,a1_6,a1_7,a1_8,a1_9⟩:Hd) l1_10 l0_0=true:=by simp[banF,hok,hk]
 obtain⟨hf1,hf2,hf3,hf4⟩:=all_find WF.out hk hok hle a2 a0_1
 obtain⟨hg1,hg2,hg3⟩:=flip_in hban a0_1
 have ip1:=fun ax cx w' (h:Rls w' ax cx (allR a2::l0_0)) (n:Nb w w')=>in15_any (⟨a1_0,a1_1,a1_2,a1_3,a1_4,a1_5,a1_6,a1_7,a1_8,a1_9⟩:Hd) a1_10 cap1_10 l1_10 ax cx (allR a2::l0_0) a0_1 w' (HD.out.below n) h (HK.out.below n)
 have fp1:=fun ax cx w' (h:Rls w' ax cx (allR a2::l0_0)) (n:Nb w w')=>find15_any (⟨a1_0,a1_1,a1_2,a1_3,a1_4,a1_5,a1_6,a1_7,a1_8,a1_9⟩:Hd) a1_10 cap1_10 l1_10 ax cx (allR a2::l0_0) a0_1 w' (HD.out.below n) h (HK.out.below n)
 have ip2:=fun ax cx w' (h:Rls w' ax cx l0_0) (n:Nb w w')=>in15_any (⟨a1_0,a1_1,a1_2,a1_3,a1_4,a1_5,a1_6,a1_7,a1_8,a1_9⟩:Hd) a1_10 cap1_10 l1_10 ax cx l0_0 a0_1 w' (HD.out.below n) h (HK.out.below n)
 have ip3:=fun ax cx w' (h:Rls w' ax cx (l0_0.map flipR)) (n:Nb w w')=>in15_any (⟨a1_0,a1_1,a1_2,a1_3,a1_4,a1_5,a1_6,a1_7,a1_8,a1_9⟩:Hd) a1_10 cap1_10 l1_10 ax cx (l0_0.map flipR) (!a0_1) w' (HD.out.below n) h (HK.out.below n)
 rw[hf3,hf4] at ip1
 rw[hf1,hf2] at fp1
 rw[hg1,hg2] at ip3
 rw[hg3] at ip2
 generalize inV (⟨a1_0,a1_1,a1_2,a1_3,a1_4,a1_5,a1_6,a1_7,a1_8,a1_9⟩:Hd) l1_10 l0_0 a0_1=v3 at ip2 ip3
 obtain⟨v4,hv4⟩:∃ v4,v4 = !v3:=⟨_,rfl⟩
 obtain⟨e4,he4⟩:∃ e4,e4 = !a0_1:=⟨_,rfl⟩
 have hne:(v3 != v4)=true:=by rw[hv4];cases v3<;>rfl
 have hne2:(v3==v4)=false:=by rw[hv4];cases v3<;>rfl
 have q2:(a2==a2)=true:=by simp
 simp only[Hd.cs,<- hv4,<- he4,List.length_cons,List.length_map] at fc ip1 fp1 ip2 ip3
 have FC:=Lib.hid fc
 have IP1:=Lib.hid ip1
 have FP1:=Lib.hid fp1
 have IP2:=Lib.hid ip2
 have IP3:=Lib.hid ip3
 have HE4:=Lib.hid he4
 clear fc cp hk hok ip1 fp1 ip2 ip3 hban hf1 hf2 hf3 hf4 hg1 hg2 hg3 hv4 he4
 go_enter Tryd.func6,Tryd.ntmps6
 go_wp2_with fail
 rw[<- hz0,<- hB]
 clear hz0 hB
 refine (AL.out _ NZ.out).mono ?_
 rintro e w1 ⟨rfl,n1⟩
 have N1:=Lib.hid (NZ.out.tr n1)
 have B1:=Lib.hid (BB.out.nb n1)
 have F1:=Lib.hid (BF.out.nb n1)
 obtain⟨e0,e1⟩:=B1.out.r2
 obtain⟨c0,c1,c2,c3,c4,c5,c6,c7,c8,c9,c10⟩:=F1.out.c11
 clear n1
 go_wp2_with fail
 refine (FC.out _ N1.out).mono ?_
 rintro e w2 ⟨rfl,n2⟩
 have N2:=Lib.hid (N1.out.tr n2)
 have B2:=Lib.hid (B1.out.nb n2)
 have F2:=Lib.hid (F1.out.nb n2)
 clear e0 e1 c0 c1 c2 c3 c4 c5 c6 c7 c8 c9 c10
 obtain⟨e0,e1⟩:=B2.out.r2
 clear n2
 go_wp2_with fail
 refine (TO.out w2 N2.out).mono ?_
 rintro e w3 ⟨⟨ax,cx,rfl,ox,gx⟩,n3⟩
 have OX:=Lib.hid ox
 have N3:=Lib.hid (N2.out.tr n3)
 have B3:=Lib.hid (B2.out.nb n3)
 have F3:=Lib.hid (F2.out.nb n3)
 clear n3 ox gx e0 e1
 go_wp2_with fail
 refine (CP.out ax cx w3 OX.out.rls.2).mono ?_
 rintro e w4 ⟨rfl,n4⟩
 have N4:=Lib.hid (N3.out.tr n4)
 have B4:=Lib.hid (B3.out.nb n4)
 have F4:=Lib.hid (F3.out.nb n4)
 clear n4
 clear OX
 obtain⟨e0,e1⟩:=B4.out.r2
 obtain⟨y4,hy4⟩:∃ y4,y4=w4.alloc (.cells (allR a2).ca 44):=⟨_,rfl⟩
 obtain⟨Ra,hRa⟩:∃ Ra,Ra=w4.heap.size:=⟨_,rfl⟩
 have m4:Nb w4 y4:=by rw[hy4];exact Nb.rfl.al _
 have R4:=Lib.hid (show Blk y4 Ra (allR a2).ca 44 by rw[hy4,hRa];exact Blk.new _ _ _)
 have M4:=Lib.hid (N4.out.tr m4)
 have B5:=Lib.hid (B4.out.nb m4)
 have F5:=Lib.hid (F4.out.nb m4)
 have hBw:B < w4.heap.size:=B4.out.lt
 clear m4
 simp only[allR,Rl.ca] at hy4 R4
 go_wp2_with fail
 rw[<- hy4,<- hRa]
 clear hy4 hRa e0 e1 hBw
 refine (TO.out y4 M4.out).mono ?_
 rintro e w5 ⟨⟨bx,dx,rfl,ob,gb⟩,n5⟩
 obtain⟨y5,hy5⟩:∃ y5,y5=w5.alloc (.cells #[.slice bx l0_0.length dx,.bool a0_1] 32):=⟨_,rfl⟩
 obtain⟨X,hX⟩:∃ X,X=w5.heap.size:=⟨_,rfl⟩
 obtain⟨y6,hy6⟩:∃ y6,y6=y5.alloc (.cells #[.int .i64 7,.int .u32 0,.int .u32 0,.int .u8 0,.int .u8 0,.int .u8 0,.int .u8 0,.int .u32 0,.int .u32 0,.bool a2] 44):=⟨_,rfl⟩
 have hG:X+1=y5.heap.size:=by rw[hy5,hX,World.size_alloc]
 have m5:Nb y4 y5:=by rw[hy5];exact n5.al _
 have m6:Nb y5 y6:=by rw[hy6];exact Nb.rfl.al _
 have X5:Blk y5 X #[.slice bx l0_0.length dx,.bool a0_1] 32:=by rw[hy5,hX];exact Blk.new _ _ _
 have X6:=Lib.hid (X5.nb m6)
 have OL:=Lib.hid (OwnR.lit (allR_wd a2) (show Blk y6 (X+1) (allR a2).ca 44 by rw[hy6,hG];exact Blk.new _ _ _))
 have OB6:=Lib.hid (ob.nb (show Nb w5 y6 from by rw[hy5] at m6;exact (Nb.rfl.al _).tr m6))
 have M6:=Lib.hid (m5.tr m6)
 have hyX:y4.heap.size<=X:=by rw[hX];exact n5.size
 have hG6:X+1 < y6.heap.size:=by rw[hG,hy6,World.size_alloc];omega
 obtain⟨r0,r1,r2,r3,r4,r5,r6,r7,r8,r9⟩:=(R4.out.nb n5).r10
 have hRw:Ra < w5.heap.size:=(R4.out.nb n5).lt
 have hF5:B+1 < y4.heap.size:=F5.out.lt
 have hbx1:¬B+1=X:=by omega
 have hbx2:¬X=B+1:=by omega
 have HY5:=Lib.hid hy5
 have HY6:=Lib.hid hy6
 have HX:=Lib.hid hX
 have HBN:=Lib.hid (show bx=none->dx=0 from by
  obtain⟨a',c',e',_,_,_,hnn⟩:=ob.shape
  simp only[Value.slice.injEq,true_and] at e'
  obtain⟨rfl,rfl⟩:=e'
  exact hnn)
 clear n5 m5 m6 X5 ob gb hy5 hy6 hX hG
 go_wp2_with (at_builtin;rw[<- HY5.out,<- HX.out,<- HY6.out];refine wpList_appR _ rfl (.tmp 41) (.tmp 43) rfl (.slice (some ⟨X+1,0,none⟩) 1 1) [allR a2] (by rfl) OL.out bx l0_0.length dx l0_0 rfl rfl OB6.out.rls.2 HBN.out (by rw[List.length_singleton];omega) ?_;intro v7 w7 ho7 hk7 hg7;obtain⟨va7,vc7,hv7,-,-,-,-⟩:=ho7.shape;rw[show ([allR a2]++l0_0).length=l0_0.length+1 by simp[Nat.add_comm]] at hv7;subst hv7;have O7:=Lib.hid ho7;have K7:=Lib.hid hk7;have G7:=Lib.hid hg7;have X7:=Lib.hid (X6.out.keep hk7 (fun e=>by have h:some (X+1)=some X:=e;injection h with h;omega));have m7:=X7.out.cell 0;have f7:=X7.out.frozen 0;have m71:=X7.out.cell 1;have hlt7:X < w7.heap.size:=X7.out.lt;have NB7:=Lib.hid (show Nb y4 w7 from M6.out.trans (hk7.toBelow M6.out.size (fun g e=>by have h:some (X+1)=some g:=e;injection h with h;omega)));obtain⟨c0,c1,c2,c3,c4,c5,c6,c7,c8,c9,c10⟩:=(F5.out.nb NB7.out).c11;have hlt8:B+1 < w7.heap.size:=(F5.out.nb NB7.out).lt;clear ho7 hk7 hg7)
 obtain⟨w8,hw8⟩:∃ w8,w8=w7.setCell ⟨X,0,none⟩ (.slice va7 (l0_0.length+1) vc7):=⟨_,rfl⟩
 have X8:=Lib.hid (show Blk w8 X #[.slice va7 (l0_0.length+1) vc7,.bool a0_1] 32 by rw[hw8];exact X7.out.set 0 _)
 have O8:=Lib.hid (show OwnR w8 (.slice va7 (l0_0.length+1) vc7) (allR a2::l0_0) by
  rw[hw8]
  exact O7.out.keep (Kp.set (F:=fun b=>b=X) rfl) (fun g e q=>by
   rcases G7.out g e with h1 | h1
   ·have h:some (X+1)=some g:=h1
    injection h with h
    omega
   ·omega))
 have NA:=Lib.hid (show Nb y4 w8 by rw[hw8];exact NB7.out.st (by show y4.heap.size<=X;exact hyX) _)
 rw[<- hw8]
 clear hw8 m7 m71 f7 hlt7 hlt8 c0 c1 c2 c3 c4 c5 c6 c7 c8 c9 c10 r0 r1 r2 r3 r4 r5 r6 r7 r8 r9 hRw
 obtain⟨x0,x1⟩:=X8.out.r2
 obtain⟨c0,c1,c2,c3,c4,c5,c6,c7,c8,c9,c10⟩:=(F5.out.nb NA.out).c11
 go_wp2_with fail
 refine (IP1.out va7 vc7 w8 O8.out.rls.2 (M4.out.tr NA.out)).mono ?_
 rintro e w9 ⟨rfl,n9⟩
 have N9:=Lib.hid n9
 clear n9 x0 x1 c0 c1 c2 c3 c4 c5 c6 c7 c8 c9 c10
 obtain⟨x0,x1⟩:=(X8.out.nb N9.out).r2
 obtain⟨c0,c1,c2,c3,c4,c5,c6,c7,c8,c9,c10⟩:=((F5.out.nb NA.out).nb N9.out).c11
 go_wp2_with fail
 refine (FP1.out va7 vc7 w9 (O8.out.nb N9.out).rls.2 (M4.out.tr (NA.out.tr N9.out))).mono ?_
 rintro e wA ⟨rfl,nA⟩
 have N10:=Lib.hid (NA.out.tr (N9.out.tr nA))
 clear nA x0 x1 c0 c1 c2 c3 c4 c5 c6 c7 c8 c9 c10
 obtain⟨e0,e1⟩:=(B5.out.nb N10.out).r2
 go_wp2_with fail
 refine (TO.out wA (M4.out.tr N10.out)).mono ?_
 rintro e wB ⟨⟨ay,cy,rfl,oy,gy⟩,nB⟩
 obtain⟨yL,hyL⟩:∃ yL,yL=wB.alloc (.cells #[.slice ay l0_0.length cy,.bool e4] 32):=⟨_,rfl⟩
 obtain⟨Y,hY⟩:∃ Y,Y=wB.heap.size:=⟨_,rfl⟩
 have mL:Nb wB yL:=by rw[hyL];exact Nb.rfl.al _
 have YL:=Lib.hid (show Blk yL Y #[.slice ay l0_0.length cy,.bool e4] 32 by rw[hyL,hY];exact Blk.new _ _ _)
 have OY:=Lib.hid (oy.nb mL)
 have NL:=Lib.hid (N10.out.tr (nB.tr mL))
 have HYG:=Lib.hid (show ∀ g,Value.ownBlock (.slice ay l0_0.length cy)=some g->g < Y/\y4.heap.size<=g from fun g e=>⟨by rw[hY];exact oy.lt e,Nat.le_trans N10.out.size (gy g e)⟩)
 have hne':(!a0_1)=e4:=HE4.out.symm
 clear nB mL oy gy e0 e1
 go_wp2
 rw[<- hyL,<- hY]
 clear hyL hY hne'
 go_loopw [67] (fun ix wr=>∃ (k:Nat) (M:List Rl),k<=l0_0.length/\ix = .int .i64 k/\M.length=l0_0.length/\OwnR wr (.slice ay l0_0.length cy) M/\(∀ j,j < k->M.getD j dRl=flipR (l0_0.getD j dRl))/\(∀ j,k<=j->M.getD j dRl=l0_0.getD j dRl)/\Kp (fun b=>Value.ownBlock (.slice ay l0_0.length cy)=some b) yL wr) (fun ix _=>l0_0.length - (intOf ix).toNat)
 case atStart=>exact⟨0,l0_0,Nat.zero_le _,rfl,rfl,OY.out,fun j hj=>by omega,fun j _=>rfl,Kp.rfl⟩
 case round =>
  obtain⟨k,M,hk,rfl,hm,ho,h1,h2,hn⟩:=hrel
  have OI:=Lib.hid ho
  have HM:=Lib.hid hm
  have H1:=Lib.hid h1
  have H2:=Lib.hid h2
  have KI:=Lib.hid hn
  have YI:=Lib.hid (YL.out.keep hn (fun e=>by have:=(HYG.out _ e).1;omega))
  have NI:=Lib.hid (show Nb y4 wr from NL.out.trans (hn.toBelow NL.out.size (fun g e=>(HYG.out g e).2)))
  obtain⟨s0,s1⟩:=YI.out.r2
  clear hm ho h1 h2 hn
  by_cases hlt:k < l0_0.length
  ·obtain⟨ay',cy',hve,hva,-,-,-⟩:=OI.out.shape
   rw[HM.out] at hve hva
   simp only[Value.slice.injEq,true_and] at hve
   obtain⟨rfl,rfl⟩:=hve
   obtain⟨g,rfl⟩:=hva (by omega)
   have hrw:=OI.out.rw.2
   have hk2:k < M.length:=by rw[HM.out];exact hlt
   obtain⟨r,hr⟩:∃ r,M.getD k dRl=r:=⟨_,rfl⟩
   obtain⟨c9,f9⟩:=hrw.cell hk2 (i:=9) (u := .bool r.N) (by rw[hr];rfl)
   have HS:=Lib.hid (hrw.set hk2 (i:=9) (by omega) (.bool (!r.N)) (flipR r) (flip_wd (OI.out.2 r (by rw[<- hr];exact Rl.mem hk2))) (fun q hq=>by
    rw[hr]
    rcases (by omega:q=0\/q=1\/q=2\/q=3\/q=4\/q=5\/q=6\/q=7\/q=8\/q=9) with rfl | rfl | rfl | rfl | rfl | rfl | rfl | rfl | rfl | rfl<;>rfl))
   have HRr:=Lib.hid (show M.getD k dRl=r from hr)
   have hi:(k:Int) < (l0_0.length:Int):=by omega
   have hgw:g < wr.heap.size:=OI.out.lt rfl
   obtain⟨nN,hnN⟩:∃ nN,nN=r.N:=⟨_,rfl⟩
   rw[<- hnN] at c9 HS
   clear hrw hr hva hnN
   go_wp2_with fail
   go_region
   go_wp2
   go_roundw
   case rel =>
    have hset:∀ j,(M.set k (flipR r)).getD j dRl=if j=k then flipR r else M.getD j dRl:=fun j=>by
     by_cases hj:j=k
     ·subst hj
      rw[if_pos rfl]
      simp[List.getD,hk2]
     ·rw[if_neg hj]
      simp[List.getD,List.getElem?_set_ne (Ne.symm hj)]
    refine⟨k+1,M.set k (flipR r),by omega,by go_num,by rw[List.length_set];exact HM.out,?_,fun j hj => ?_,fun j hj => ?_,?_⟩
    ·have h1:=HS.out.own
     rw[List.length_set,HM.out] at h1
     exact h1.nb (Below.drew (Below.refl _ _))
    ·rw[hset j]
     by_cases hjk:j=k
     ·rw[if_pos hjk,hjk,<- H2.out k (Nat.le_refl _),HRr.out]
     ·rw[if_neg hjk]
      exact H1.out j (by omega)
    ·rw[hset j,if_neg (by omega)]
     exact H2.out j (by omega)
    ·exact (KI.out.tr (Kp.set (F:=fun b=>Value.ownBlock (.slice (some ⟨g,0,none⟩) l0_0.length cy)=some b) (p:=⟨g,k*10+9,none⟩) (u := .bool (!nN)) rfl) (fun _ e => .inl e)).tr (Kp.ofNb (F:=fun _=>False) (Below.drew (Below.refl _ _))) (fun _ e=>e.elim)
   case measure=>simp[intOf];omega
  ·obtain rfl:k=l0_0.length:=by omega
   obtain rfl:M=l0_0.map flipR:=flip_list HM.out H1.out
   have B9:=Lib.hid (B5.out.nb NI.out)
   have F9:=Lib.hid (F5.out.nb NI.out)
   have KA:=Lib.hid (show ∀ w',Nb wr w'->w'.cell? ⟨B,0,none⟩=some (.slice a0_0 l0_0.length cap0_0)/\w'.cell? ⟨B,1,none⟩=some (.bool a0_1)/\w'.cell? ⟨B+1,0,none⟩=some (.int .i64 a1_0)/\w'.cell? ⟨B+1,1,none⟩=some (.int .u32 a1_1)/\w'.cell? ⟨B+1,2,none⟩=some (.bool a1_2)/\w'.cell? ⟨B+1,3,none⟩=some (.bool a1_3)/\w'.cell? ⟨B+1,4,none⟩=some (.bool a1_4)/\w'.cell? ⟨B+1,5,none⟩=some (.bool a1_5)/\w'.cell? ⟨B+1,6,none⟩=some (.bool a1_6)/\w'.cell? ⟨B+1,7,none⟩=some (.int .u8 a1_7)/\w'.cell? ⟨B+1,8,none⟩=some (.int .u8 a1_8)/\w'.cell? ⟨B+1,9,none⟩=some (.int .u32 a1_9)/\w'.cell? ⟨B+1,10,none⟩=some (.slice a1_10 l1_10.length cap1_10) from fun w' n=>by
    obtain⟨k0,k1⟩:=(B9.out.nb n).r2
    obtain⟨c0,c1,c2,c3,c4,c5,c6,c7,c8,c9,c10⟩:=(F9.out.nb n).c11
    exact⟨k0,k1,c0,c1,c2,c3,c4,c5,c6,c7,c8,c9,c10⟩)
   obtain⟨k0,k1⟩:=B9.out.r2
   obtain⟨c0,c1,c2,c3,c4,c5,c6,c7,c8,c9,c10⟩:=F9.out.c11
   have NB:RowKit.Hid (Nb wr wr.drew):=Lib.hid (Below.drew (Below.refl _ _))
   clear s0 s1
   go_wp2_with fail
   go_region_held3 (fun w'=>w'.cell? ⟨B,0,none⟩=some (.slice a0_0 l0_0.length cap0_0)/\w'.cell? ⟨B,1,none⟩=some (.bool a0_1)/\w'.cell? ⟨B+1,0,none⟩=some (.int .i64 a1_0)/\w'.cell? ⟨B+1,1,none⟩=some (.int .u32 a1_1)/\w'.cell? ⟨B+1,2,none⟩=some (.bool a1_2)/\w'.cell? ⟨B+1,3,none⟩=some (.bool a1_3)/\w'.cell? ⟨B+1,4,none⟩=some (.bool a1_4)/\w'.cell? ⟨B+1,5,none⟩=some (.bool a1_5)/\w'.cell? ⟨B+1,6,none⟩=some (.bool a1_6)/\w'.cell? ⟨B+1,7,none⟩=some (.int .u8 a1_7)/\w'.cell? ⟨B+1,8,none⟩=some (.int .u8 a1_8)/\w'.cell? ⟨B+1,9,none⟩=some (.int .u32 a1_9)/\w'.cell? ⟨B+1,10,none⟩=some (.slice a1_10 l1_10.length cap1_10))
    (first | go_keep | exact KA.out _ NB.out)
    (first
     | (go_at_call 10;refine (TO.out _ (M4.out.tr (NI.out.tr NB.out))).mono ?_;rintro e w11 ⟨⟨ag,cg,rfl,og,gg⟩,n11⟩;have NB:=Lib.hid (NB.out.tr n11))
     | (go_at_call 13;refine (IP2.out ag cg _ og.rls.2 (M4.out.tr (NI.out.tr NB.out))).mono ?_;rintro e w12 ⟨rfl,n12⟩;have NB:=Lib.hid (NB.out.tr n12)))
   all_goals clear k0 k1 c0 c1 c2 c3 c4 c5 c6 c7 c8 c9 c10 og gg
   all_goals obtain⟨s0,s1⟩:=(YI.out.nb NB.out).r2
   all_goals obtain⟨c0,c1,c2,c3,c4,c5,c6,c7,c8,c9,c10⟩:=(F9.out.nb NB.out).c11
   all_goals go_wp2_with fail
   all_goals (
    refine (IP3.out ay cy _ (OI.out.nb NB.out).rls.2 (M4.out.tr (NI.out.tr NB.out))).mono ?_
    rintro e w13 ⟨rfl,n13⟩
    have NB:=Lib.hid (NB.out.tr n13)
    clear n13
    go_wp2
    go_ret
    exact⟨rfl,M4.out.tr (NI.out.tr NB.out)⟩)
theorem door_met (os:Os) (args:Array Value):laidMetH Tryd.prog Rows.filterShadowsRow.laid ((World.doorLaid Tryd.prog 14 os).forCall (fun _ _=>0) ⟨#[],args,[]⟩).memory :=
 laidMetH_of_parts3 (fuel:=8) (laidMet_of_run' 8 (by kernel_rfl) (by kernel_rfl)) (by kernel_rfl) (by kernel_rfl)
theorem lifted (os:Os) (started:os.Started) (H:Type) (enc:TypeId × Value->H) :
    ReturnsInHanded {} Tryd.checked os 6 .any (fun w args=>(Rows.filterShadowsSpec.pre enc Tryd.prog Tryd.f6 [] false w args/\laidMetH Tryd.prog Rows.filterShadowsRow.laid w)/\sizedMet enc Tryd.prog Tryd.f6 (OpenSpec.ofChange Rows.filterShadowsSpec) false w args)
     (Rows.filterShadowsSpec.post enc Tryd.prog Tryd.f6 false true false false):=by
 refine returnsInHanded_of_change_and (C:=Tryd.checked) (X:=fun w _=>laidMetH Tryd.prog Rows.filterShadowsRow.laid w) (fun _ _ _ hh h=>h.of_heap hh) own started (by kernel_rfl) Tryd.func6
  (ChangeSpec.witness_shaped (enc:=enc) (C:=Tryd.checked) (os:=os) (X:=fun w _=>laidMetH Tryd.prog Rows.filterShadowsRow.laid w) false (World.doorLaid Tryd.prog 14 os) #[.agg #[.slice none 0 0,.bool false],.agg #[.int .i64 0,.int .u32 0,.bool false,.bool false,.bool false,.bool false,.bool false,.int .u8 0,.int .u8 0,.int .u32 0,.slice none 0 0],.bool false] 8 rfl (World.shaped_of_RefB (by kernel_rfl) (by kernel_rfl)) (by kernel_rfl) (by kernel_rfl) (by kernel_rfl) (door_met os _)) ?_
 intro W base args ds gs before hval0 hW _ hR hL _
 have hval:∀ (j:Nat) t v,Tryd.f6.params[j]? = some t->args[j]? = some v->Value.okWide Tryd.prog W .any base t v:=hval0
 have hW':=hW
 obtain⟨p,q,hA0,hV,rfl,hfz,hnd⟩:=hW
 have hA:DataW.TrodAll enc Tryd.prog W 0 (fun _=>true) true Tryd.f6.params.toList args.toList ds p:=hA0
 rw[Tryd.params6] at hA hval
 obtain⟨v0,vs0,d0,ds0,p0,q0,hargs,rfl,rfl,h0,r0⟩:=trodAll_cons hA
 obtain⟨v1,vs1,d1,ds1,p1,q1,rfl,rfl,rfl,h1,r1⟩:=trodAll_cons r0
 obtain⟨v2,vs2,d2,ds2,p2,q2,rfl,rfl,rfl,h2,r2⟩:=trodAll_cons r1
 obtain⟨rfl,rfl,rfl⟩:=trodAll_nil r2
 obtain rfl:args=#[v0,v1,v2]:=by cases args;simp_all
 obtain⟨rfl,rfl⟩:=trodVars_none hV
 have k0:=h0
 have lt0:∀ x∈p0,x.block < W.heap.size:=by obtain⟨m,hm⟩:=k0;exact DataW.trod_lt m _ _ _ hm
 have k1:=h1
 have lt1:∀ x∈p1,x.block < W.heap.size:=by obtain⟨m,hm⟩:=k1;exact DataW.trod_lt m _ _ _ hm
 have k2:=h2
 have lt2:∀ x∈p2,x.block < W.heap.size:=by obtain⟨m,hm⟩:=k2;exact DataW.trod_lt m _ _ _ hm
 clear hA0
 rw[Tryd.params6] at hR
 have hR0:(DataW.weightsEach Tryd.prog ([24,28,4]++Rows.filterShadowsSpec.plain.varTypes Tryd.prog) ([d0,d1,d2]++[])).all (·<=reachBytes)=true:=hR
 simp only[List.cons_append,List.nil_append,DataW.weightsEach,List.append_nil,List.all_append,Bool.and_eq_true] at hR0
 obtain⟨hR0,hR1,hR2,_⟩:=hR0
 obtain⟨cs0,rfl,hz0⟩:=okWide_struct Tryd.underlying24 (hval 0 24 v0 rfl rfl)
 obtain⟨c0_0,c0_1,rfl⟩:=arr2 (hz0.trans (by kernel_rfl))
 obtain⟨fu0,hf0⟩:=h0
 have hc0:DataW.trod enc Tryd.prog W 0 (fun _=>true) true fu0 24 [c0_0,c0_1]=some (d0,p0):=hf0
 obtain⟨a0_0,cap0_0,l0_0,a0_1,e0_0,e0_1,hb0_0,n0_0,rr0_0⟩:=bank_open hc0 hR0
 subst e0_0 e0_1
 obtain⟨cs1,rfl,hz1⟩:=okWide_struct Tryd.underlying28 (hval 1 28 v1 rfl rfl)
 obtain⟨c1_0,c1_1,c1_2,c1_3,c1_4,c1_5,c1_6,c1_7,c1_8,c1_9,c1_10,rfl⟩:=arr11 (hz1.trans (by kernel_rfl))
 obtain⟨fu1,hf1⟩:=h1
 have hc1:DataW.trod enc Tryd.prog W 0 (fun _=>true) true fu1 28 [c1_0,c1_1,c1_2,c1_3,c1_4,c1_5,c1_6,c1_7,c1_8,c1_9,c1_10]=some (d1,p1):=hf1
 obtain⟨m1_0,y1_0,g1_0⟩:=open_fld Tryd.underlying28 hc1 0 _ rfl
 have t1_0:DataW.trod enc Tryd.prog W 0 (fun _=>true) true m1_0 3 (([c1_0,c1_1,c1_2,c1_3,c1_4,c1_5,c1_6,c1_7,c1_8,c1_9,c1_10].drop 0).take (Tryd.prog.cellsOf 3))=some y1_0:=g1_0
 rw[show Tryd.prog.cellsOf 3=1 from by kernel_rfl] at t1_0
 have u1_0:DataW.trod enc Tryd.prog W 0 (fun _=>true) true m1_0 3 [c1_0]=some y1_0:=t1_0
 obtain⟨m1_1,y1_1,g1_1⟩:=open_fld Tryd.underlying28 hc1 1 _ rfl
 have t1_1:DataW.trod enc Tryd.prog W 0 (fun _=>true) true m1_1 25 (([c1_0,c1_1,c1_2,c1_3,c1_4,c1_5,c1_6,c1_7,c1_8,c1_9,c1_10].drop 1).take (Tryd.prog.cellsOf 25))=some y1_1:=g1_1
 rw[show Tryd.prog.cellsOf 25=1 from by kernel_rfl] at t1_1
 have u1_1:DataW.trod enc Tryd.prog W 0 (fun _=>true) true m1_1 25 [c1_1]=some y1_1:=t1_1
 obtain⟨m1_2,y1_2,g1_2⟩:=open_fld Tryd.underlying28 hc1 2 _ rfl
 have t1_2:DataW.trod enc Tryd.prog W 0 (fun _=>true) true m1_2 4 (([c1_0,c1_1,c1_2,c1_3,c1_4,c1_5,c1_6,c1_7,c1_8,c1_9,c1_10].drop 2).take (Tryd.prog.cellsOf 4))=some y1_2:=g1_2
 rw[show Tryd.prog.cellsOf 4=1 from by kernel_rfl] at t1_2
 have u1_2:DataW.trod enc Tryd.prog W 0 (fun _=>true) true m1_2 4 [c1_2]=some y1_2:=t1_2
 obtain⟨m1_3,y1_3,g1_3⟩:=open_fld Tryd.underlying28 hc1 3 _ rfl
 have t1_3:DataW.trod enc Tryd.prog W 0 (fun _=>true) true m1_3 4 (([c1_0,c1_1,c1_2,c1_3,c1_4,c1_5,c1_6,c1_7,c1_8,c1_9,c1_10].drop 3).take (Tryd.prog.cellsOf 4))=some y1_3:=g1_3
 rw[show Tryd.prog.cellsOf 4=1 from by kernel_rfl] at t1_3
 have u1_3:DataW.trod enc Tryd.prog W 0 (fun _=>true) true m1_3 4 [c1_3]=some y1_3:=t1_3
 obtain⟨m1_4,y1_4,g1_4⟩:=open_fld Tryd.underlying28 hc1 4 _ rfl
 have t1_4:DataW.trod enc Tryd.prog W 0 (fun _=>true) true m1_4 4 (([c1_0,c1_1,c1_2,c1_3,c1_4,c1_5,c1_6,c1_7,c1_8,c1_9,c1_10].drop 4).take (Tryd.prog.cellsOf 4))=some y1_4:=g1_4
 rw[show Tryd.prog.cellsOf 4=1 from by kernel_rfl] at t1_4
 have u1_4:DataW.trod enc Tryd.prog W 0 (fun _=>true) true m1_4 4 [c1_4]=some y1_4:=t1_4
 obtain⟨m1_5,y1_5,g1_5⟩:=open_fld Tryd.underlying28 hc1 5 _ rfl
 have t1_5:DataW.trod enc Tryd.prog W 0 (fun _=>true) true m1_5 4 (([c1_0,c1_1,c1_2,c1_3,c1_4,c1_5,c1_6,c1_7,c1_8,c1_9,c1_10].drop 5).take (Tryd.prog.cellsOf 4))=some y1_5:=g1_5
 rw[show Tryd.prog.cellsOf 4=1 from by kernel_rfl] at t1_5
 have u1_5:DataW.trod enc Tryd.prog W 0 (fun _=>true) true m1_5 4 [c1_5]=some y1_5:=t1_5
 obtain⟨m1_6,y1_6,g1_6⟩:=open_fld Tryd.underlying28 hc1 6 _ rfl
 have t1_6:DataW.trod enc Tryd.prog W 0 (fun _=>true) true m1_6 4 (([c1_0,c1_1,c1_2,c1_3,c1_4,c1_5,c1_6,c1_7,c1_8,c1_9,c1_10].drop 6).take (Tryd.prog.cellsOf 4))=some y1_6:=g1_6
 rw[show Tryd.prog.cellsOf 4=1 from by kernel_rfl] at t1_6
 have u1_6:DataW.trod enc Tryd.prog W 0 (fun _=>true) true m1_6 4 [c1_6]=some y1_6:=t1_6
 obtain⟨m1_7,y1_7,g1_7⟩:=open_fld Tryd.underlying28 hc1 7 _ rfl
 have t1_7:DataW.trod enc Tryd.prog W 0 (fun _=>true) true m1_7 5 (([c1_0,c1_1,c1_2,c1_3,c1_4,c1_5,c1_6,c1_7,c1_8,c1_9,c1_10].drop 7).take (Tryd.prog.cellsOf 5))=some y1_7:=g1_7
 rw[show Tryd.prog.cellsOf 5=1 from by kernel_rfl] at t1_7
 have u1_7:DataW.trod enc Tryd.prog W 0 (fun _=>true) true m1_7 5 [c1_7]=some y1_7:=t1_7
 obtain⟨m1_8,y1_8,g1_8⟩:=open_fld Tryd.underlying28 hc1 8 _ rfl
 have t1_8:DataW.trod enc Tryd.prog W 0 (fun _=>true) true m1_8 5 (([c1_0,c1_1,c1_2,c1_3,c1_4,c1_5,c1_6,c1_7,c1_8,c1_9,c1_10].drop 8).take (Tryd.prog.cellsOf 5))=some y1_8:=g1_8
 rw[show Tryd.prog.cellsOf 5=1 from by kernel_rfl] at t1_8
 have u1_8:DataW.trod enc Tryd.prog W 0 (fun _=>true) true m1_8 5 [c1_8]=some y1_8:=t1_8
 obtain⟨m1_9,y1_9,g1_9⟩:=open_fld Tryd.underlying28 hc1 9 _ rfl
 have t1_9:DataW.trod enc Tryd.prog W 0 (fun _=>true) true m1_9 25 (([c1_0,c1_1,c1_2,c1_3,c1_4,c1_5,c1_6,c1_7,c1_8,c1_9,c1_10].drop 9).take (Tryd.prog.cellsOf 25))=some y1_9:=g1_9
 rw[show Tryd.prog.cellsOf 25=1 from by kernel_rfl] at t1_9
 have u1_9:DataW.trod enc Tryd.prog W 0 (fun _=>true) true m1_9 25 [c1_9]=some y1_9:=t1_9
 obtain⟨m1_10,y1_10,g1_10⟩:=open_fld Tryd.underlying28 hc1 10 _ rfl
 have t1_10:DataW.trod enc Tryd.prog W 0 (fun _=>true) true m1_10 26 (([c1_0,c1_1,c1_2,c1_3,c1_4,c1_5,c1_6,c1_7,c1_8,c1_9,c1_10].drop 10).take (Tryd.prog.cellsOf 26))=some y1_10:=g1_10
 rw[show Tryd.prog.cellsOf 26=1 from by kernel_rfl] at t1_10
 have u1_10:DataW.trod enc Tryd.prog W 0 (fun _=>true) true m1_10 26 [c1_10]=some y1_10:=t1_10
 obtain⟨a1_0,e1_0,x1_0,w1_0⟩:=DataW.trod_int Tryd.underlying3 u1_0
 obtain rfl:c1_0 = .int .i64 a1_0:=by simpa using e1_0
 obtain⟨a1_1,e1_1,x1_1,w1_1⟩:=DataW.trod_int Tryd.underlying25 u1_1
 obtain rfl:c1_1 = .int .u32 a1_1:=by simpa using e1_1
 obtain⟨a1_2,e1_2,x1_2⟩:=DataW.trod_bool Tryd.underlying4 u1_2
 obtain rfl:c1_2 = .bool a1_2:=by simpa using e1_2
 obtain⟨a1_3,e1_3,x1_3⟩:=DataW.trod_bool Tryd.underlying4 u1_3
 obtain rfl:c1_3 = .bool a1_3:=by simpa using e1_3
 obtain⟨a1_4,e1_4,x1_4⟩:=DataW.trod_bool Tryd.underlying4 u1_4
 obtain rfl:c1_4 = .bool a1_4:=by simpa using e1_4
 obtain⟨a1_5,e1_5,x1_5⟩:=DataW.trod_bool Tryd.underlying4 u1_5
 obtain rfl:c1_5 = .bool a1_5:=by simpa using e1_5
 obtain⟨a1_6,e1_6,x1_6⟩:=DataW.trod_bool Tryd.underlying4 u1_6
 obtain rfl:c1_6 = .bool a1_6:=by simpa using e1_6
 obtain⟨a1_7,e1_7,x1_7,w1_7⟩:=DataW.trod_int Tryd.underlying5 u1_7
 obtain rfl:c1_7 = .int .u8 a1_7:=by simpa using e1_7
 obtain⟨a1_8,e1_8,x1_8,w1_8⟩:=DataW.trod_int Tryd.underlying5 u1_8
 obtain rfl:c1_8 = .int .u8 a1_8:=by simpa using e1_8
 obtain⟨a1_9,e1_9,x1_9,w1_9⟩:=DataW.trod_int Tryd.underlying25 u1_9
 obtain rfl:c1_9 = .int .u32 a1_9:=by simpa using e1_9
 obtain⟨a1_10,cap1_10,l1_10,e1_10,hb1_10,n1_10⟩:=bytes_open u1_10
 subst e1_10
 obtain⟨a2,rfl,rfl,rfl⟩:=open_bool Tryd.underlying4 (hval 2 4 v2 rfl rfl) h2
 refine (walk W (longer_of hL) a0_0 cap0_0 l0_0 hb0_0 n0_0 rr0_0 a0_1 a1_0 w1_0 a1_1 w1_1 a1_2 a1_3 a1_4 a1_5 a1_6 a1_7 w1_7 a1_8 w1_8 a1_9 w1_9 a1_10 cap1_10 l1_10 hb1_10 n1_10 a2).mono fun e W' ⟨he,bel⟩ => ?_
 subst he
 exact⟨_,rfl,_,_,_,[],_,[],hW',trodAll_mk1 (shut_bool Tryd.underlying4 _),(trodAll_cons_mk (Below.trod laidOut (by kernel_rfl) (of_decide_eq_true (by kernel_rfl)) k0 bel lt0) (trodAll_cons_mk (Below.trod laidOut (by kernel_rfl) (of_decide_eq_true (by kernel_rfl)) k1 bel lt1) (trodAll_cons_mk (Below.trod laidOut (by kernel_rfl) (of_decide_eq_true (by kernel_rfl)) k2 bel lt2) trodAll_mk0))),rfl,bel.frame _,fun h=>by cases h⟩
theorem over:Rows.filterShadowsRow.holds Tryd.pinned (OpenSpec.ofChange Rows.filterShadowsSpec) :=
 OpenClaim.holds_of_wide 6 Tryd.f6 rfl rfl rfl rfl rfl rfl rfl ⟨rfl,rfl,rfl,rfl,rfl⟩ rfl rfl rfl rfl rfl (by kernel_rfl) Tryd.func6 (by kernel_rfl)
  (of_decide_eq_true (by kernel_rfl)) (by unfold Func.isWrapper;first | (rw[if_pos (by decide +kernel)];kernel_rfl) | (rw[if_neg (by decide +kernel)];exact⟨rfl,rfl⟩))
  (fun os started H enc _=>lifted os started H enc)
theorem plain (f : FuncId) (fn : Func) (hf : Tryd.pinned.checked.prog.funcNamed "omnibus/omnibuslaw15.FilterShadows" = some f) (hfn : Tryd.pinned.checked.prog.funcs[f]? = some fn) :
    false=Tryd.pinned.checked.prog.looks []/\∀ (j:Nat) t,fn.params[j]? = some t->Tryd.pinned.checked.prog.wantsStandIn t=false:=by
 obtain rfl : f = 6 := Option.some.inj ((show Tryd.prog.funcNamed "omnibus/omnibuslaw15.FilterShadows" = some 6 by kernel_rfl).symm.trans hf) |>.symm
 obtain rfl:fn=Tryd.f6:=(Option.some.inj (Tryd.func6.symm.trans hfn)).symm
 refine⟨by kernel_rfl,fun j t ht => ?_⟩
 rw[Tryd.params6] at ht
 have hm:t∈[24,28,4]:=by have:=Array.mem_of_getElem? ht;simp at this ⊢;omega
 have hall:([24,28,4].all fun u => !Tryd.prog.wantsStandIn u)=true:=by kernel_rfl
 exact (show Tryd.prog.wantsStandIn t=false by simpa using List.all_eq_true.1 hall t hm)
theorem proved:Rows.FilterShadowsCardSaid :=
 Claim7.holds_tied_plain_at .later [] _ _ _ _ over (fun _ h=>by cases h) (by kernel_rfl) (fun _ h=>by cases h) filterShadows_row_tie rfl ⟨rfl,rfl⟩ (by kernel_rfl) rfl plain (by kernel_rfl)
#print axioms proved
end Go.Proofs.YtaohmgklhecjbaaDoor.filterShadows
