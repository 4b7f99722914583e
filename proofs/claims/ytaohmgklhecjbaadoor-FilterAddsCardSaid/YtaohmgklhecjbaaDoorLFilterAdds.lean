/- For every bank, every rule and every frame the law FilterAdds answers true and leaves its arguments as they were; the package's table of longer sizes is tied to the program's text. No conditions. -/
import Derived.Test.YtaohmgklhecjbaaDoorRows
import Derived.Test.YtaohmgklhecjbaaDoorCards
import Derived.Test.YtaohmgklhecjbaaDoorTie
import Derived.Test.YtaohmgklhecjbaaDoorFlS
import Derived.Test.YtaohmgklhecjbaaDoorFlO
import Derived.Test.YtaohmgklhecjbaaDoorGe
import Derived.Test.YtaohmgklhecjbaaDoorFlY
import Derived.WalkKit
import Derived.ProofKit
import Derived.OpenShut
import Derived.ShutString
import Derived.ChangeOld
import Derived.Below
import Derived.Carry
import Derived.Lib.SmallJoins
import Derived.Deep.RegionWith
import Derived.Deep.RegionHeld3
import Derived.LaidMore
import Derived.LaidLaws
import Derived.Stop.Joined
import Derived.SevenTiedAt
set_option maxHeartbeats 40000000
set_option maxRecDepth 100000
namespace Go.Proofs.YtaohmgklhecjbaaDoor.filterAdds
open Go.ChangeShapes Go.WideShapes Go.ChangeAt Go.RowKit Go.Joins
set_option linter.unusedVariables false
set_option linter.unusedSimpArgs false
theorem own:ownKnob Tryd.prog.godebug=none:=by kernel_rfl
theorem laidOut:laidOutB Tryd.prog=true:=by kernel_rfl
theorem arr2 {α:Type} {cs:Array α} (h:cs.size=2):∃ c0 c1,cs=#[c0,c1]:=by
 obtain⟨l⟩:=cs
 match l,h with
 | [c0,c1],_=>exact⟨c0,c1,rfl⟩
theorem arr10 {α:Type} {cs:Array α} (h:cs.size=10):∃ c0 c1 c2 c3 c4 c5 c6 c7 c8 c9,cs=#[c0,c1,c2,c3,c4,c5,c6,c7,c8,c9]:=by
 obtain⟨l⟩:=cs
 match l,h with
 | [c0,c1,c2,c3,c4,c5,c6,c7,c8,c9],_=>exact⟨c0,c1,c2,c3,c4,c5,c6,c7,c8,c9,rfl⟩
theorem arr11 {α:Type} {cs:Array α} (h:cs.size=11):∃ c0 c1 c2 c3 c4 c5 c6 c7 c8 c9 c10,cs=#[c0,c1,c2,c3,c4,c5,c6,c7,c8,c9,c10]:=by
 obtain⟨l⟩:=cs
 match l,h with
 | [c0,c1,c2,c3,c4,c5,c6,c7,c8,c9,c10],_=>exact⟨c0,c1,c2,c3,c4,c5,c6,c7,c8,c9,c10,rfl⟩
theorem walk (w:World) (hK:Longer w) (a0_0:Option Addr) (cap0_0:Nat) (l0_0:List Rl) (h0_0:Rls w a0_0 cap0_0 l0_0) (n0_0:a0_0=none->cap0_0=0) (r0_0:cap0_0*32<=140737488351232) (a0_1:Bool) (a1_0:Int) (w1_0:(Lit.int .i64 a1_0).wf=true) (a1_1:Int) (w1_1:(Lit.int .u32 a1_1).wf=true) (a1_2:Int) (w1_2:(Lit.int .u32 a1_2).wf=true) (a1_3:Int) (w1_3:(Lit.int .u8 a1_3).wf=true) (a1_4:Int) (w1_4:(Lit.int .u8 a1_4).wf=true) (a1_5:Int) (w1_5:(Lit.int .u8 a1_5).wf=true) (a1_6:Int) (w1_6:(Lit.int .u8 a1_6).wf=true) (a1_7:Int) (w1_7:(Lit.int .u32 a1_7).wf=true) (a1_8:Int) (w1_8:(Lit.int .u32 a1_8).wf=true) (a1_9:Bool) (a2_0:Int) (w2_0:(Lit.int .i64 a2_0).wf=true) (a2_1:Int) (w2_1:(Lit.int .u32 a2_1).wf=true) (a2_2:Bool) (a2_3:Bool) (a2_4:Bool) (a2_5:Bool) (a2_6:Bool) (a2_7:Int) (w2_7:(Lit.int .u8 a2_7).wf=true) (a2_8:Int) (w2_8:(Lit.int .u8 a2_8).wf=true) (a2_9:Int) (w2_9:(Lit.int .u32 a2_9).wf=true) (a2_10:Option Addr) (cap2_10:Nat) (l2_10:List Nat) (h2_10:Bs w a2_10 cap2_10 l2_10) (n2_10:a2_10=none->cap2_10=0) :
    Calls Tryd.prog 8 #[.agg #[.slice a0_0 l0_0.length cap0_0,.bool a0_1],.agg #[.int .i64 a1_0,.int .u32 a1_1,.int .u32 a1_2,.int .u8 a1_3,.int .u8 a1_4,.int .u8 a1_5,.int .u8 a1_6,.int .u32 a1_7,.int .u32 a1_8,.bool a1_9],.agg #[.int .i64 a2_0,.int .u32 a2_1,.bool a2_2,.bool a2_3,.bool a2_4,.bool a2_5,.bool a2_6,.int .u8 a2_7,.int .u8 a2_8,.int .u32 a2_9,.slice a2_10 l2_10.length cap2_10]] w fun e w'=>e = .returned (.bool true)/\Nb w w':=by
 have HK:=Lib.hid hK
 have hL0:=h0_0.len
 have hL2:=h2_10.len
 have HR:=Lib.hid h0_0
 have HD:=Lib.hid h2_10
 have hsz:l0_0.length*32<=140737488351232:=by
  have:=h0_0.hcap
  omega
 have AL:=Lib.hid (fun w' (n:Nb w w')=>alive15_any w' (hK.below n))
 have WF:=Lib.hid (show WdH (⟨a2_0,a2_1,a2_2,a2_3,a2_4,a2_5,a2_6,a2_7,a2_8,a2_9⟩:Hd) from ⟨wf32 w2_1,wf8 w2_7,wf8 w2_8,wf32 w2_9⟩)
 have WR:=Lib.hid (show WdR (⟨a1_0,a1_1,a1_2,a1_3,a1_4,a1_5,a1_6,a1_7,a1_8,a1_9⟩:Rl) from ⟨w1_0,wf32 w1_1,wf32 w1_2,wf8 w1_3,wf8 w1_4,wf8 w1_5,wf8 w1_6,wf32 w1_7,wf32 w1_8⟩)
 obtain⟨z0,hz0⟩:∃ z0,z0=((w.alloc (.cells #[.slice a0_0 l0_0.length cap0_0,.bool a0_1] 24)).alloc (.cells #[.int .i64 a1_0,.int .u32 a1_1,.int .u32 a1_2,.int .u8 a1_3,.int .u8 a1_4,.int .u8 a1_5,.int .u8 a1_6,.int .u32 a1_7,.int .u32 a1_8,.bool a1_9] 42)).alloc (.cells #[.int .i64 a2_0,.int .u32 a2_1,.bool a2_2,.bool a2_3,.bool a2_4,.bool a2_5,.bool a2_6,.int .u8 a2_7,.int .u8 a2_8,.int .u32 a2_9,.slice a2_10 l2_10.length cap2_10] 28):=⟨_,rfl⟩
 obtain⟨B,hB⟩:∃ B,B=w.heap.size:=⟨_,rfl⟩
 have NZ:=Lib.hid (show Nb w z0 by rw[hz0];exact ((Nb.rfl.al _).al _).al _)
 have BB:=Lib.hid (show Blk z0 B #[.slice a0_0 l0_0.length cap0_0,.bool a0_1] 24 by rw[hz0,hB];exact (Blk.new w _ _).nb ((Nb.rfl.al _).al _))
 have BM:=Lib.hid (show Blk z0 (B+1) #[.int .i64 a1_0,.int .u32 a1_1,.int .u32 a1_2,.int .u8 a1_3,.int .u8 a1_4,.int .u8 a1_5,.int .u8 a1_6,.int .u32 a1_7,.int .u32 a1_8,.bool a1_9] 42 by
  rw[hz0,hB]
  have:=(Blk.new (w.alloc (.cells #[.slice a0_0 l0_0.length cap0_0,.bool a0_1] 24)) #[.int .i64 a1_0,.int .u32 a1_1,.int .u32 a1_2,.int .u8 a1_3,.int .u8 a1_4,.int .u8 a1_5,.int .u8 a1_6,.int .u32 a1_7,.int .u32 a1_8,.bool a1_9] 42).nb (Nb.rfl.al (.cells #[.int .i64 a2_0,.int .u32 a2_1,.bool a2_2,.bool a2_3,.bool a2_4,.bool a2_5,.bool a2_6,.int .u8 a2_7,.int .u8 a2_8,.int .u32 a2_9,.slice a2_10 l2_10.length cap2_10] 28))
  rwa[World.size_alloc] at this)
 have BF:=Lib.hid (show Blk z0 (B+1+1) #[.int .i64 a2_0,.int .u32 a2_1,.bool a2_2,.bool a2_3,.bool a2_4,.bool a2_5,.bool a2_6,.int .u8 a2_7,.int .u8 a2_8,.int .u32 a2_9,.slice a2_10 l2_10.length cap2_10] 28 by
  rw[hz0,hB]
  have:=Blk.new ((w.alloc (.cells #[.slice a0_0 l0_0.length cap0_0,.bool a0_1] 24)).alloc (.cells #[.int .i64 a1_0,.int .u32 a1_1,.int .u32 a1_2,.int .u8 a1_3,.int .u8 a1_4,.int .u8 a1_5,.int .u8 a1_6,.int .u32 a1_7,.int .u32 a1_8,.bool a1_9] 42)) #[.int .i64 a2_0,.int .u32 a2_1,.bool a2_2,.bool a2_3,.bool a2_4,.bool a2_5,.bool a2_6,.int .u8 a2_7,.int .u8 a2_8,.int .u32 a2_9,.slice a2_10 l2_10.length cap2_10] 28
  rwa[World.size_alloc,World.size_alloc] at this)
 have TO:=Lib.hid (fun w' (n:Nb w w')=>lawTo_any l0_0 a0_0 cap0_0 a0_1 w' (HR.out.below n) (by omega))
 have hfc:=fun w' (n:Nb w w')=>check5_any (⟨a2_0,a2_1,a2_2,a2_3,a2_4,a2_5,a2_6,a2_7,a2_8,a2_9⟩:Hd) a2_10 cap2_10 l2_10 w' (HD.out.below n) (HK.out.below n)
 obtain⟨L2,hL2e⟩:∃ L2,L2=l0_0++[(⟨a1_0,a1_1,a1_2,a1_3,a1_4,a1_5,a1_6,a1_7,a1_8,a1_9⟩:Rl)]:=⟨_,rfl⟩
 have hlen2:L2.length=l0_0.length+1:=by rw[hL2e];simp
 have hcp:=fun ax cx w' (h:Rls w' ax cx L2)=>check15_any L2 ax cx a0_1 w' h
 have hft:=fun w' (n:Nb w w')=>fits_any (⟨a2_0,a2_1,a2_2,a2_3,a2_4,a2_5,a2_6,a2_7,a2_8,a2_9⟩:Hd) a2_10 cap2_10 l2_10 (⟨a1_0,a1_1,a1_2,a1_3,a1_4,a1_5,a1_6,a1_7,a1_8,a1_9⟩:Rl) w' (HD.out.below n) (HK.out.below n)
 have fx:=fun ax cx w' (h:Rls w' ax cx l0_0) (n:Nb w w')=>find15_any (⟨a2_0,a2_1,a2_2,a2_3,a2_4,a2_5,a2_6,a2_7,a2_8,a2_9⟩:Hd) a2_10 cap2_10 l2_10 ax cx l0_0 a0_1 w' (HD.out.below n) h (HK.out.below n)
 have fy:=fun ax cx w' (h:Rls w' ax cx L2) (n:Nb w w')=>find15_any (⟨a2_0,a2_1,a2_2,a2_3,a2_4,a2_5,a2_6,a2_7,a2_8,a2_9⟩:Hd) a2_10 cap2_10 l2_10 ax cx L2 a0_1 w' (HD.out.below n) h (HK.out.below n)
 have ix:=fun ax cx w' (h:Rls w' ax cx l0_0) (n:Nb w w')=>in15_any (⟨a2_0,a2_1,a2_2,a2_3,a2_4,a2_5,a2_6,a2_7,a2_8,a2_9⟩:Hd) a2_10 cap2_10 l2_10 ax cx l0_0 a0_1 w' (HD.out.below n) h (HK.out.below n)
 have iy:=fun ax cx w' (h:Rls w' ax cx L2) (n:Nb w w')=>in15_any (⟨a2_0,a2_1,a2_2,a2_3,a2_4,a2_5,a2_6,a2_7,a2_8,a2_9⟩:Hd) a2_10 cap2_10 l2_10 ax cx L2 a0_1 w' (HD.out.below n) h (HK.out.below n)
 simp only[Hd.cs,Rl.ca] at hfc hcp hft fx fy ix iy
 obtain⟨b1,hb1⟩:∃ b,b=bkE L2:=⟨_,rfl⟩
 obtain⟨b2,hb2⟩:∃ b,b=checkN (⟨a2_0,a2_1,a2_2,a2_3,a2_4,a2_5,a2_6,a2_7,a2_8,a2_9⟩:Hd) l2_10:=⟨_,rfl⟩
 obtain⟨e3,he3⟩:∃ b,b=findE (⟨a2_0,a2_1,a2_2,a2_3,a2_4,a2_5,a2_6,a2_7,a2_8,a2_9⟩:Hd) l2_10 l0_0:=⟨_,rfl⟩
 obtain⟨n3,hn3⟩:∃ b,b=findN (⟨a2_0,a2_1,a2_2,a2_3,a2_4,a2_5,a2_6,a2_7,a2_8,a2_9⟩:Hd) l2_10 l0_0:=⟨_,rfl⟩
 obtain⟨e4,he4⟩:∃ b,b=findE (⟨a2_0,a2_1,a2_2,a2_3,a2_4,a2_5,a2_6,a2_7,a2_8,a2_9⟩:Hd) l2_10 L2:=⟨_,rfl⟩
 obtain⟨n4,hn4⟩:∃ b,b=findN (⟨a2_0,a2_1,a2_2,a2_3,a2_4,a2_5,a2_6,a2_7,a2_8,a2_9⟩:Hd) l2_10 L2:=⟨_,rfl⟩
 obtain⟨i5,hi5⟩:∃ b,b=inV (⟨a2_0,a2_1,a2_2,a2_3,a2_4,a2_5,a2_6,a2_7,a2_8,a2_9⟩:Hd) l2_10 l0_0 a0_1:=⟨_,rfl⟩
 obtain⟨e5,he5⟩:∃ b,b=inE (⟨a2_0,a2_1,a2_2,a2_3,a2_4,a2_5,a2_6,a2_7,a2_8,a2_9⟩:Hd) l2_10 l0_0:=⟨_,rfl⟩
 obtain⟨i6,hi6⟩:∃ b,b=inV (⟨a2_0,a2_1,a2_2,a2_3,a2_4,a2_5,a2_6,a2_7,a2_8,a2_9⟩:Hd) l2_10 L2 a0_1:=⟨_,rfl⟩
 obtain⟨e6,he6⟩:∃ b,b=inE (⟨a2_0,a2_1,a2_2,a2_3,a2_4,a2_5,a2_6,a2_7,a2_8,a2_9⟩:Hd) l2_10 L2:=⟨_,rfl⟩
 obtain⟨t7,ht7⟩:∃ b,b=fitR (⟨a2_0,a2_1,a2_2,a2_3,a2_4,a2_5,a2_6,a2_7,a2_8,a2_9⟩:Hd) l2_10 (⟨a1_0,a1_1,a1_2,a1_3,a1_4,a1_5,a1_6,a1_7,a1_8,a1_9⟩:Rl):=⟨_,rfl⟩
 rw[<- hb2] at hfc
 rw[<- hb1,hlen2] at hcp
 rw[<- ht7] at hft
 rw[<- he3,<- hn3] at fx
 rw[<- he4,<- hn4,hlen2] at fy
 rw[<- hi5,<- he5] at ix
 rw[<- hi6,<- he6,hlen2] at iy
 have SUM:=Lib.hid (adds_sum WF.out hL2e hb1 hb2 he3 hn3 he4 hn4 hi5 he5 hi6 he6 ht7)
 have HL2:=Lib.hid hL2e
 have HLEN:=Lib.hid hlen2
 have FC:=Lib.hid hfc
 have CP:=Lib.hid hcp
 have FT:=Lib.hid hft
 have FX:=Lib.hid fx
 have FY:=Lib.hid fy
 have IX:=Lib.hid ix
 have IY:=Lib.hid iy
 clear hfc hcp hft fx fy ix iy hL2e hlen2 hb1 hb2 he3 hn3 he4 hn4 hi5 he5 hi6 he6 ht7
 clear hK h0_0 h2_10 n0_0 n2_10
 go_enter Tryd.func8,Tryd.ntmps8
 go_wp2_with fail
 rw[<- hz0,<- hB]
 clear hz0 hB
 refine (AL.out _ NZ.out).mono ?_
 rintro e w1 ⟨rfl,n1⟩
 have N1:=Lib.hid (NZ.out.tr n1)
 have B1:=Lib.hid (BB.out.nb n1)
 have M1:=Lib.hid (BM.out.nb n1)
 have F1:=Lib.hid (BF.out.nb n1)
 obtain⟨e0,e1⟩:=B1.out.r2
 obtain⟨m0,m1,m2,m3,m4,m5,m6,m7,m8,m9⟩:=M1.out.r10
 have hBM:B+1 < w1.heap.size:=M1.out.lt
 have hBB:B < w1.heap.size:=B1.out.lt
 have hBq1:¬B=w1.heap.size:=by omega
 have hBq2:¬B+1=w1.heap.size:=by omega
 clear n1
 go_wp2_with fail
 go_cut [7,8] from 20 to 22 (fun s7 s8 wx=>∃ (X O:Nat) (ax:Option Addr) (cx:Nat),s7 = .pointer (some ⟨X,0,none⟩)/\s8 = .pointer (some ⟨O,0,none⟩)/\Nb w1 wx/\OwnR wx (.slice ax l0_0.length cx) l0_0/\Blk wx X #[.slice ax l0_0.length cx,.bool a0_1] 32/\Blk wx O #[.int .i64 a1_0,.int .u32 a1_1,.int .u32 a1_2,.int .u8 a1_3,.int .u8 a1_4,.int .u8 a1_5,.int .u8 a1_6,.int .u32 a1_7,.int .u32 a1_8,.bool a1_9] 44)
 case first =>
  go_region_with (go_at_call 10;refine (TO.out _ (by first | exact N1.out.tr (Below.drew (Below.refl _ _)) | exact N1.out.tr (Below.drew (Nb.al Nb.rfl _)) | exact N1.out.tr (Below.drew (Nb.al (Nb.al Nb.rfl _) _)))).mono ?_;rintro e w5 ⟨⟨ax,cx,rfl,ox,gx⟩,n5⟩;have NN:Nb w1 w5:=Nb.tr (by first | exact Below.drew (Below.refl _ _) | exact Below.drew (Nb.al Nb.rfl _) | exact Below.drew (Nb.al (Nb.al Nb.rfl _) _)) n5;obtain⟨p0,p1,p2,p3,p4,p5,p6,p7,p8,p9⟩:=(M1.out.nb NN).r10;have hp:B+1 < w5.heap.size:=(M1.out.nb NN).lt;have hq1:¬B=w5.heap.size:=(by omega);have hq2:¬B+1=w5.heap.size:=(by omega);have hq3:B < w5.heap.size:=(by omega);(first | (have Z7:Blk w5 (w1.heap.size) #[.slice none 0 0,.bool false] 32:=(by refine Blk.nb ?_ n5;exact (Blk.new w1 _ _));have z70:=Z7.cell 0;have z71:=Z7.cell 1;have z7f:=Z7.frozen 0;have z7g:=Z7.frozen 1;have z7l:w1.heap.size < w5.heap.size:=Z7.lt) | (have Z7:Blk w5 (w1.heap.size) #[.slice none 0 0,.bool false] 32:=(by refine Blk.nb ?_ n5;exact ((Blk.new w1 _ _).nb (Below.drew (Nb.al Nb.rfl _))));have z70:=Z7.cell 0;have z71:=Z7.cell 1;have z7f:=Z7.frozen 0;have z7g:=Z7.frozen 1;have z7l:w1.heap.size < w5.heap.size:=Z7.lt) | (have Z7:Blk w5 (w1.heap.size+1) #[.slice none 0 0,.bool false] 32:=(by refine Blk.nb ?_ n5;exact (Blk.twoY (Blk.new (w1.alloc (.cells #[.int .i64 0,.int .u32 0,.int .u32 0,.int .u8 0,.int .u8 0,.int .u8 0,.int .u8 0,.int .u32 0,.int .u32 0,.bool false] 44)) #[.slice none 0 0,.bool false] 32)));have z70:=Z7.cell 0;have z71:=Z7.cell 1;have z7f:=Z7.frozen 0;have z7g:=Z7.frozen 1;have z7l:w1.heap.size+1 < w5.heap.size:=Z7.lt) | skip);(first | (have Z8:Blk w5 (w1.heap.size) #[.int .i64 0,.int .u32 0,.int .u32 0,.int .u8 0,.int .u8 0,.int .u8 0,.int .u8 0,.int .u32 0,.int .u32 0,.bool false] 44:=(by refine Blk.nb ?_ n5;exact (Blk.new w1 _ _));obtain⟨y0,y1,y2,y3,y4,y5,y6,y7,y8,y9⟩:=Z8.r10;have v0:=Z8.frozen 0;have v1:=Z8.frozen 1;have v2:=Z8.frozen 2;have v3:=Z8.frozen 3;have v4:=Z8.frozen 4;have v5:=Z8.frozen 5;have v6:=Z8.frozen 6;have v7:=Z8.frozen 7;have v8:=Z8.frozen 8;have v9:=Z8.frozen 9;have z8l:w1.heap.size < w5.heap.size:=Z8.lt) | (have Z8:Blk w5 (w1.heap.size) #[.int .i64 0,.int .u32 0,.int .u32 0,.int .u8 0,.int .u8 0,.int .u8 0,.int .u8 0,.int .u32 0,.int .u32 0,.bool false] 44:=(by refine Blk.nb ?_ n5;exact ((Blk.new w1 _ _).nb (Below.drew (Nb.al Nb.rfl _))));obtain⟨y0,y1,y2,y3,y4,y5,y6,y7,y8,y9⟩:=Z8.r10;have v0:=Z8.frozen 0;have v1:=Z8.frozen 1;have v2:=Z8.frozen 2;have v3:=Z8.frozen 3;have v4:=Z8.frozen 4;have v5:=Z8.frozen 5;have v6:=Z8.frozen 6;have v7:=Z8.frozen 7;have v8:=Z8.frozen 8;have v9:=Z8.frozen 9;have z8l:w1.heap.size < w5.heap.size:=Z8.lt) | (have Z8:Blk w5 (w1.heap.size+1) #[.int .i64 0,.int .u32 0,.int .u32 0,.int .u8 0,.int .u8 0,.int .u8 0,.int .u8 0,.int .u32 0,.int .u32 0,.bool false] 44:=(by refine Blk.nb ?_ n5;exact (Blk.twoY (Blk.new (w1.alloc (.cells #[.slice none 0 0,.bool false] 32)) #[.int .i64 0,.int .u32 0,.int .u32 0,.int .u8 0,.int .u8 0,.int .u8 0,.int .u8 0,.int .u32 0,.int .u32 0,.bool false] 44)));obtain⟨y0,y1,y2,y3,y4,y5,y6,y7,y8,y9⟩:=Z8.r10;have v0:=Z8.frozen 0;have v1:=Z8.frozen 1;have v2:=Z8.frozen 2;have v3:=Z8.frozen 3;have v4:=Z8.frozen 4;have v5:=Z8.frozen 5;have v6:=Z8.frozen 6;have v7:=Z8.frozen 7;have v8:=Z8.frozen 8;have v9:=Z8.frozen 9;have z8l:w1.heap.size+1 < w5.heap.size:=Z8.lt) | skip))
  all_goals first
   | (go_meet;first
       | (refine⟨_,_,ax,cx,rfl,rfl,?_⟩;with_reducible exact adds_A NN ox)
       | (refine⟨_,_,ax,cx,rfl,rfl,?_⟩;with_reducible exact adds_B NN ox)
       | (have hg:∀ g,Value.ownBlock (.slice ax l0_0.length cx)=some g->¬g=w1.heap.size:=(by first | with_reducible exact fun g e=>Nat.ne_of_gt (Nat.lt_of_lt_of_le (lt_one w1 _) (gx g e)) | with_reducible exact fun g e=>Nat.ne_of_gt (Nat.lt_of_lt_of_le (lt_two w1 _ _).1 (gx g e)));first
         | (refine⟨_,_,ax,cx,rfl,rfl,?_⟩;with_reducible exact adds_C NN ox Z7 hg)
         | (refine⟨_,_,ax,cx,rfl,rfl,?_⟩;with_reducible exact adds_E NN ox Z8 hg)
         | (have hg1:∀ g,Value.ownBlock (.slice ax l0_0.length cx)=some g->¬g=w1.heap.size+1:=(by with_reducible exact fun g e=>Nat.ne_of_gt (Nat.lt_of_lt_of_le (lt_two w1 _ _).2 (gx g e)));first
           | (refine⟨_,_,ax,cx,rfl,rfl,?_⟩;with_reducible exact adds_D NN ox Z7 Z8 hg hg1)
           | (refine⟨_,_,ax,cx,rfl,rfl,?_⟩;with_reducible exact adds_F NN ox Z7 Z8 hg hg1))))
   | (go_wp2_with fail;go_meet;first
       | (refine⟨_,_,ax,cx,rfl,rfl,?_⟩;with_reducible exact adds_A NN ox)
       | (refine⟨_,_,ax,cx,rfl,rfl,?_⟩;with_reducible exact adds_B NN ox)
       | (have hg:∀ g,Value.ownBlock (.slice ax l0_0.length cx)=some g->¬g=w1.heap.size:=(by first | with_reducible exact fun g e=>Nat.ne_of_gt (Nat.lt_of_lt_of_le (lt_one w1 _) (gx g e)) | with_reducible exact fun g e=>Nat.ne_of_gt (Nat.lt_of_lt_of_le (lt_two w1 _ _).1 (gx g e)));first
         | (refine⟨_,_,ax,cx,rfl,rfl,?_⟩;with_reducible exact adds_C NN ox Z7 hg)
         | (refine⟨_,_,ax,cx,rfl,rfl,?_⟩;with_reducible exact adds_E NN ox Z8 hg)
         | (have hg1:∀ g,Value.ownBlock (.slice ax l0_0.length cx)=some g->¬g=w1.heap.size+1:=(by with_reducible exact fun g e=>Nat.ne_of_gt (Nat.lt_of_lt_of_le (lt_two w1 _ _).2 (gx g e)));first
           | (refine⟨_,_,ax,cx,rfl,rfl,?_⟩;with_reducible exact adds_D NN ox Z7 Z8 hg hg1)
           | (refine⟨_,_,ax,cx,rfl,rfl,?_⟩;with_reducible exact adds_F NN ox Z7 Z8 hg hg1))))
 case rest =>
  obtain⟨X,O,ax,cx,rfl,rfl,nx,ox,bx,bo⟩:=hcut
  have NX:=Lib.hid (N1.out.tr nx)
  have OX:=Lib.hid ox
  have BX:=Lib.hid bx
  have BO:=Lib.hid bo
  have BW:=Lib.hid (B1.out.nb nx)
  have FW:=Lib.hid (F1.out.nb nx)
  have MW:=Lib.hid (M1.out.nb nx)
  clear e0 e1 m0 m1 m2 m3 m4 m5 m6 m7 m8 m9 hBM hBB hBq1 hBq2 nx ox bx bo
  obtain⟨e0,e1⟩:=BW.out.r2
  have hBw:B < wc.heap.size:=BW.out.lt
  go_wp2_with fail
  refine (TO.out wc NX.out).mono ?_
  rintro e w5 ⟨⟨ay,cy,rfl,ob,gb⟩,n5⟩
  obtain⟨y5,hy5⟩:∃ y5,y5=w5.alloc (.cells #[.slice ay l0_0.length cy,.bool a0_1] 32):=⟨_,rfl⟩
  obtain⟨Y,hY⟩:∃ Y,Y=w5.heap.size:=⟨_,rfl⟩
  obtain⟨y6,hy6⟩:∃ y6,y6=y5.alloc (.cells #[.int .i64 a1_0,.int .u32 a1_1,.int .u32 a1_2,.int .u8 a1_3,.int .u8 a1_4,.int .u8 a1_5,.int .u8 a1_6,.int .u32 a1_7,.int .u32 a1_8,.bool a1_9] 44):=⟨_,rfl⟩
  have hG:Y+1=y5.heap.size:=by rw[hy5,hY,World.size_alloc]
  have m5:Nb wc y5:=by rw[hy5];exact n5.al _
  have m6:Nb y5 y6:=by rw[hy6];exact Nb.rfl.al _
  have X5:Blk y5 Y #[.slice ay l0_0.length cy,.bool a0_1] 32:=by rw[hy5,hY];exact Blk.new _ _ _
  have Y6:=Lib.hid (X5.nb m6)
  have OL:=Lib.hid (OwnR.lit WR.out (show Blk y6 (Y+1) (Rl.ca (⟨a1_0,a1_1,a1_2,a1_3,a1_4,a1_5,a1_6,a1_7,a1_8,a1_9⟩:Rl)) 44 by rw[hy6,hG];exact Blk.new _ _ _))
  have OB6:=Lib.hid (ob.nb (show Nb w5 y6 from by rw[hy5] at m6;exact (Nb.rfl.al _).tr m6))
  have M6:=Lib.hid (m5.tr m6)
  have hyX:wc.heap.size<=Y:=by rw[hY];exact n5.size
  obtain⟨r0,r1,r2,r3,r4,r5,r6,r7,r8,r9⟩:=(BO.out.nb n5).r10
  have hRw:O < w5.heap.size:=(BO.out.nb n5).lt
  have hRx:O < wc.heap.size:=BO.out.lt
  have hbx1:¬O=Y:=by omega
  have hbx2:¬Y=O:=by omega
  have hbx3:¬B=Y:=by omega
  have hbx4:¬Y=B:=by omega
  have HY5:=Lib.hid hy5
  have HY6:=Lib.hid hy6
  have HX:=Lib.hid hY
  have GB:=Lib.hid gb
  have LB:=Lib.hid (fun g (e:Value.ownBlock (.slice ay l0_0.length cy)=some g)=>(show g < Y by rw[hY];exact ob.lt e))
  have HBN:=Lib.hid (show ay=none->cy=0 from by
   obtain⟨a',c',e',_,_,_,hnn⟩:=ob.shape
   simp only[Value.slice.injEq,true_and] at e'
   obtain⟨rfl,rfl⟩:=e'
   exact hnn)
  clear n5 m5 m6 X5 ob gb hy5 hy6 hY hG e0 e1
  have hY6:Y < y6.heap.size:=Y6.out.lt
  by_cases hbig:31 < l0_0.length
  ·have d0:decide ((31:Int) < (l0_0.length:Int))=true:=decide_eq_true (by omega)
   go_wp2_with (at_builtin;rw[<- HY5.out,<- HX.out,<- HY6.out];refine wpList_appR _ rfl (.tmp 26) (.tmp 28) rfl (.slice ay l0_0.length cy) l0_0 (by rfl) OB6.out (some ⟨Y+1,0,none⟩) 1 1 [(⟨a1_0,a1_1,a1_2,a1_3,a1_4,a1_5,a1_6,a1_7,a1_8,a1_9⟩:Rl)] rfl rfl OL.out.rls.2 (fun h=>by cases h) (by rw[List.length_singleton];omega) ?_;intro v7 w7 ho7 hk7 hg7;obtain⟨va7,vc7,hv7,-,-,-,-⟩:=ho7.shape;rw[<- HL2.out] at ho7;rw[<- HL2.out,HLEN.out] at hv7;subst hv7;have O7:=Lib.hid ho7;have G7:=Lib.hid hg7;have Y7:=Lib.hid (Y6.out.keep hk7 (fun e=>by have:=LB.out _ e;omega));have m7:=Y7.out.cell 0;have f7:=Y7.out.frozen 0;have m71:=Y7.out.cell 1;have hlt7:Y < w7.heap.size:=Y7.out.lt;have NB7:=Lib.hid (show Nb wc w7 from M6.out.trans (hk7.toBelow M6.out.size (fun g e=>GB.out g e)));obtain⟨e0,e1⟩:=(BW.out.nb NB7.out).r2;have hB7:B < w7.heap.size:=(BW.out.nb NB7.out).lt;clear ho7 hk7 hg7)
   go_ret
   exact⟨rfl,(NX.out.tr NB7.out).st (by have:=NX.out.size;show w.heap.size<=Y;omega) _⟩
  have d0:decide ((31:Int) < (l0_0.length:Int))=false:=decide_eq_false (by omega)
  go_wp2_with (at_builtin;rw[<- HY5.out,<- HX.out,<- HY6.out];refine wpList_appR _ rfl (.tmp 26) (.tmp 28) rfl (.slice ay l0_0.length cy) l0_0 (by rfl) OB6.out (some ⟨Y+1,0,none⟩) 1 1 [(⟨a1_0,a1_1,a1_2,a1_3,a1_4,a1_5,a1_6,a1_7,a1_8,a1_9⟩:Rl)] rfl rfl OL.out.rls.2 (fun h=>by cases h) (by rw[List.length_singleton];omega) ?_;intro v7 w7 ho7 hk7 hg7;obtain⟨va7,vc7,hv7,-,-,-,-⟩:=ho7.shape;rw[<- HL2.out] at ho7;rw[<- HL2.out,HLEN.out] at hv7;subst hv7;have O7:=Lib.hid ho7;have G7:=Lib.hid hg7;have Y7:=Lib.hid (Y6.out.keep hk7 (fun e=>by have:=LB.out _ e;omega));have m7:=Y7.out.cell 0;have f7:=Y7.out.frozen 0;have m71:=Y7.out.cell 1;have hlt7:Y < w7.heap.size:=Y7.out.lt;have NB7:=Lib.hid (show Nb wc w7 from M6.out.trans (hk7.toBelow M6.out.size (fun g e=>GB.out g e)));obtain⟨e0,e1⟩:=(BW.out.nb NB7.out).r2;have hB7:B < w7.heap.size:=(BW.out.nb NB7.out).lt;clear ho7 hk7 hg7)
  obtain⟨w8,hw8⟩:∃ w8,w8=w7.setCell ⟨Y,0,none⟩ (.slice va7 (l0_0.length+1) vc7):=⟨_,rfl⟩
  have Y8:=Lib.hid (show Blk w8 Y #[.slice va7 (l0_0.length+1) vc7,.bool a0_1] 32 by rw[hw8];exact Y7.out.set 0 _)
  have O8:=Lib.hid (show OwnR w8 (.slice va7 (l0_0.length+1) vc7) L2 by
   rw[hw8]
   exact O7.out.keep (Kp.set (F:=fun b=>b=Y) rfl) (fun g e q=>by
    rcases G7.out g e with h1 | h1
    ·have:=LB.out g h1
     omega
    ·omega))
  have NA:=Lib.hid (show Nb wc w8 by rw[hw8];exact NB7.out.st (by show wc.heap.size<=Y;exact hyX) _)
  rw[<- hw8]
  clear hw8 m7 m71 f7 hlt7 r0 r1 r2 r3 r4 r5 r6 r7 r8 r9 hRw e0 e1 hB7
  have R8:=Lib.hid (show Rls w8 va7 vc7 L2 from O8.out.rls.2)
  refine (CP.out va7 vc7 w8 R8.out).mono ?_
  rintro e w9 ⟨rfl,n9⟩
  have N9:=Lib.hid (NA.out.tr n9)
  have Y9:=Lib.hid (Y8.out.nb n9)
  have R9:=Lib.hid (R8.out.below n9)
  clear n9
  obtain⟨c0,c1,c2,c3,c4,c5,c6,c7,c8,c9,c10⟩:=(FW.out.nb N9.out).c11
  rcases SUM.out with h1 | ⟨h1,h2⟩ | ⟨h1,h2,h3,h4,h5⟩
  ·subst h1
   go_wp2
   go_ret
   exact⟨rfl,NX.out.tr N9.out⟩
  ·subst h1 h2
   go_wp2_with fail
   refine (FC.out w9 (NX.out.tr N9.out)).mono ?_
   rintro e wA ⟨rfl,nA⟩
   go_wp2
   go_ret
   exact⟨rfl,NX.out.tr (N9.out.tr nA)⟩
  subst h1 h2 h3 h4
  have H5:=Lib.hid h5
  clear h5
  go_wp2_with fail
  refine (FC.out w9 (NX.out.tr N9.out)).mono ?_
  rintro e wA ⟨rfl,nA⟩
  have N10:=Lib.hid (N9.out.tr nA)
  have Y10:=Lib.hid (Y9.out.nb nA)
  have R10:=Lib.hid (R9.out.below nA)
  clear nA c0 c1 c2 c3 c4 c5 c6 c7 c8 c9 c10
  obtain⟨x0,x1⟩:=(BX.out.nb N10.out).r2
  obtain⟨c0,c1,c2,c3,c4,c5,c6,c7,c8,c9,c10⟩:=(FW.out.nb N10.out).c11
  go_wp2_with fail
  refine (FX.out ax cx wA (OX.out.nb N10.out).rls.2 (NX.out.tr N10.out)).mono ?_
  rintro e wB ⟨rfl,nB⟩
  have N11:=Lib.hid (N10.out.tr nB)
  have Y11:=Lib.hid (Y10.out.nb nB)
  have R11:=Lib.hid (R10.out.below nB)
  clear nB c0 c1 c2 c3 c4 c5 c6 c7 c8 c9 c10 x0 x1
  obtain⟨x0,x1⟩:=Y11.out.r2
  obtain⟨c0,c1,c2,c3,c4,c5,c6,c7,c8,c9,c10⟩:=(FW.out.nb N11.out).c11
  go_wp2_with fail
  refine (FY.out va7 vc7 wB R11.out (NX.out.tr N11.out)).mono ?_
  rintro e wD ⟨rfl,nD⟩
  have N12:=Lib.hid (N11.out.tr nD)
  have Y12:=Lib.hid (Y11.out.nb nD)
  have R12:=Lib.hid (R11.out.below nD)
  clear nD c0 c1 c2 c3 c4 c5 c6 c7 c8 c9 c10 x0 x1
  obtain⟨x0,x1⟩:=Y12.out.r2
  obtain⟨c0,c1,c2,c3,c4,c5,c6,c7,c8,c9,c10⟩:=(FW.out.nb N12.out).c11
  go_wp2_with fail
  refine (IY.out va7 vc7 wD R12.out (NX.out.tr N12.out)).mono ?_
  rintro e wE ⟨rfl,nE⟩
  have N13:=Lib.hid (N12.out.tr nE)
  clear nE c0 c1 c2 c3 c4 c5 c6 c7 c8 c9 c10 x0 x1
  obtain⟨x0,x1⟩:=(BX.out.nb N13.out).r2
  obtain⟨c0,c1,c2,c3,c4,c5,c6,c7,c8,c9,c10⟩:=(FW.out.nb N13.out).c11
  go_wp2_with fail
  refine (IX.out ax cx wE (OX.out.nb N13.out).rls.2 (NX.out.tr N13.out)).mono ?_
  rintro e wF ⟨rfl,nF⟩
  have N14:=Lib.hid (N13.out.tr nF)
  clear nF c0 c1 c2 c3 c4 c5 c6 c7 c8 c9 c10 x0 x1
  obtain⟨e0,e1⟩:=(BW.out.nb N14.out).r2
  obtain⟨m0,m1,m2,m3,m4,m5,m6,m7,m8,m9⟩:=(MW.out.nb N14.out).r10
  rcases H5.out with ⟨h1,h2,h3,h4⟩ | ⟨h1,h2,h3,h4,h5⟩ | ⟨h1,h2,h3,h4,h5⟩
  ·subst h1 h2 h3 h4
   have q1:∀ n:Nat,((n:Int)==(n:Int))=true:=by simp
   have q2:∀ b:Bool,(b==b)=true:=by simp
   go_wp2
   go_ret
   exact⟨rfl,NX.out.tr N14.out⟩
  all_goals
   obtain⟨r0,r1,r2,r3,r4,r5,r6,r7,r8,r9⟩:=(BO.out.nb N14.out).r10
   obtain⟨c0,c1,c2,c3,c4,c5,c6,c7,c8,c9,c10⟩:=(FW.out.nb N14.out).c11
  ·subst h1 h2 h3 h4 h5
   go_wp2_with fail
   refine (FT.out wF (NX.out.tr N14.out)).mono ?_
   rintro e wG ⟨rfl,nG⟩
   have N15:=Lib.hid (N14.out.tr nG)
   clear nG e0 e1 m0 m1 m2 m3 m4 m5 m6 m7 m8 m9 r0 r1 r2 r3 r4 r5 r6 r7 r8 r9 c0 c1 c2 c3 c4 c5 c6 c7 c8 c9 c10
   obtain⟨e0,e1⟩:=(BW.out.nb N15.out).r2
   obtain⟨m0,m1,m2,m3,m4,m5,m6,m7,m8,m9⟩:=(MW.out.nb N15.out).r10
   have q1:∀ n:Nat,((n:Int)==(n:Int))=true:=by simp
   have q2:∀ b:Bool,(b==b)=true:=by simp
   go_wp2
   go_ret
   exact⟨rfl,NX.out.tr N15.out⟩
  ·subst h1 h2 h3 h4 h5
   go_wp2_with fail
   refine (FT.out wF (NX.out.tr N14.out)).mono ?_
   rintro e wG ⟨rfl,nG⟩
   have N15:=Lib.hid (N14.out.tr nG)
   clear nG e0 e1 m0 m1 m2 m3 m4 m5 m6 m7 m8 m9 r0 r1 r2 r3 r4 r5 r6 r7 r8 r9 c0 c1 c2 c3 c4 c5 c6 c7 c8 c9 c10
   obtain⟨e0,e1⟩:=(BW.out.nb N15.out).r2
   obtain⟨m0,m1,m2,m3,m4,m5,m6,m7,m8,m9⟩:=(MW.out.nb N15.out).r10
   have q2:∀ b:Bool,(b==b)=true:=by simp
   go_wp2
   go_ret
   exact⟨rfl,NX.out.tr N15.out⟩
theorem door_met (os:Os) (args:Array Value):laidMetH Tryd.prog Rows.filterAddsRow.laid ((World.doorLaid Tryd.prog 14 os).forCall (fun _ _=>0) ⟨#[],args,[]⟩).memory :=
 laidMetH_of_parts3 (fuel:=8) (laidMet_of_run' 8 (by kernel_rfl) (by kernel_rfl)) (by kernel_rfl) (by kernel_rfl)
theorem lifted (os:Os) (started:os.Started) (H:Type) (enc:TypeId × Value->H) :
    ReturnsInHanded {} Tryd.checked os 8 .any (fun w args=>(Rows.filterAddsSpec.pre enc Tryd.prog Tryd.f8 [] false w args/\laidMetH Tryd.prog Rows.filterAddsRow.laid w)/\sizedMet enc Tryd.prog Tryd.f8 (OpenSpec.ofChange Rows.filterAddsSpec) false w args)
     (Rows.filterAddsSpec.post enc Tryd.prog Tryd.f8 false true false false):=by
 refine returnsInHanded_of_change_and (C:=Tryd.checked) (X:=fun w _=>laidMetH Tryd.prog Rows.filterAddsRow.laid w) (fun _ _ _ hh h=>h.of_heap hh) own started (by kernel_rfl) Tryd.func8
  (ChangeSpec.witness_shaped (enc:=enc) (C:=Tryd.checked) (os:=os) (X:=fun w _=>laidMetH Tryd.prog Rows.filterAddsRow.laid w) false (World.doorLaid Tryd.prog 14 os) #[.agg #[.slice none 0 0,.bool false],.agg #[.int .i64 0,.int .u32 0,.int .u32 0,.int .u8 0,.int .u8 0,.int .u8 0,.int .u8 0,.int .u32 0,.int .u32 0,.bool false],.agg #[.int .i64 0,.int .u32 0,.bool false,.bool false,.bool false,.bool false,.bool false,.int .u8 0,.int .u8 0,.int .u32 0,.slice none 0 0]] 8 rfl (World.shaped_of_RefB (by kernel_rfl) (by kernel_rfl)) (by kernel_rfl) (by kernel_rfl) (by kernel_rfl) (door_met os _)) ?_
 intro W base args ds gs before hval0 hW _ hR hL _
 have hval:∀ (j:Nat) t v,Tryd.f8.params[j]? = some t->args[j]? = some v->Value.okWide Tryd.prog W .any base t v:=hval0
 have hW':=hW
 obtain⟨p,q,hA0,hV,rfl,hfz,hnd⟩:=hW
 have hA:DataW.TrodAll enc Tryd.prog W 0 (fun _=>true) true Tryd.f8.params.toList args.toList ds p:=hA0
 rw[Tryd.params8] at hA hval
 obtain⟨v0,vs0,d0,ds0,p0,q0,hargs,rfl,rfl,h0,r0⟩:=trodAll_cons hA
 obtain⟨v1,vs1,d1,ds1,p1,q1,rfl,rfl,rfl,h1,r1⟩:=trodAll_cons r0
 obtain⟨v2,vs2,d2,ds2,p2,q2,rfl,rfl,rfl,h2,r2⟩:=trodAll_cons r1
 obtain⟨rfl,rfl,rfl⟩:=trodAll_nil r2
 obtain rfl:args=#[v0,v1,v2]:=by cases args;simp_all
 obtain⟨rfl,rfl⟩:=trodVars_none hV
 have k0:=h0
 have lt0:∀ x∈p0,x.block < W.heap.size:=by obtain⟨m,hm⟩:=k0;exact DataW.trod_lt m _ _ _ hm
 have k1:=h1
 have lt1:∀ x∈p1,x.block < W.heap.size:=by obtain⟨m,hm⟩:=k1;exact DataW.trod_lt m _ _ _ hm
 have k2:=h2
 have lt2:∀ x∈p2,x.block < W.heap.size:=by obtain⟨m,hm⟩:=k2;exact DataW.trod_lt m _ _ _ hm
 clear hA0
 rw[Tryd.params8] at hR
 have hR0:(DataW.weightsEach Tryd.prog ([24,42,28]++Rows.filterAddsSpec.plain.varTypes Tryd.prog) ([d0,d1,d2]++[])).all (·<=reachBytes)=true:=hR
 simp only[List.cons_append,List.nil_append,DataW.weightsEach,List.append_nil,List.all_append,Bool.and_eq_true] at hR0
 obtain⟨hR0,hR1,hR2,_⟩:=hR0
 obtain⟨cs0,rfl,hz0⟩:=okWide_struct Tryd.underlying24 (hval 0 24 v0 rfl rfl)
 obtain⟨c0_0,c0_1,rfl⟩:=arr2 (hz0.trans (by kernel_rfl))
 obtain⟨fu0,hf0⟩:=h0
 have hc0:DataW.trod enc Tryd.prog W 0 (fun _=>true) true fu0 24 [c0_0,c0_1]=some (d0,p0):=hf0
 obtain⟨a0_0,cap0_0,l0_0,a0_1,e0_0,e0_1,hb0_0,n0_0,rr0_0⟩:=bank_open hc0 hR0
 subst e0_0 e0_1
 obtain⟨cs1,rfl,hz1⟩:=okWide_struct Tryd.underlying42 (hval 1 42 v1 rfl rfl)
 obtain⟨c1_0,c1_1,c1_2,c1_3,c1_4,c1_5,c1_6,c1_7,c1_8,c1_9,rfl⟩:=arr10 (hz1.trans (by kernel_rfl))
 obtain⟨fu1,hf1⟩:=h1
 have hc1:DataW.trod enc Tryd.prog W 0 (fun _=>true) true fu1 42 [c1_0,c1_1,c1_2,c1_3,c1_4,c1_5,c1_6,c1_7,c1_8,c1_9]=some (d1,p1):=hf1
 obtain⟨m1_0,y1_0,g1_0⟩:=open_fld Tryd.underlying42 hc1 0 _ rfl
 have t1_0:DataW.trod enc Tryd.prog W 0 (fun _=>true) true m1_0 3 (([c1_0,c1_1,c1_2,c1_3,c1_4,c1_5,c1_6,c1_7,c1_8,c1_9].drop 0).take (Tryd.prog.cellsOf 3))=some y1_0:=g1_0
 rw[show Tryd.prog.cellsOf 3=1 from by kernel_rfl] at t1_0
 have u1_0:DataW.trod enc Tryd.prog W 0 (fun _=>true) true m1_0 3 [c1_0]=some y1_0:=t1_0
 obtain⟨m1_1,y1_1,g1_1⟩:=open_fld Tryd.underlying42 hc1 1 _ rfl
 have t1_1:DataW.trod enc Tryd.prog W 0 (fun _=>true) true m1_1 25 (([c1_0,c1_1,c1_2,c1_3,c1_4,c1_5,c1_6,c1_7,c1_8,c1_9].drop 1).take (Tryd.prog.cellsOf 25))=some y1_1:=g1_1
 rw[show Tryd.prog.cellsOf 25=1 from by kernel_rfl] at t1_1
 have u1_1:DataW.trod enc Tryd.prog W 0 (fun _=>true) true m1_1 25 [c1_1]=some y1_1:=t1_1
 obtain⟨m1_2,y1_2,g1_2⟩:=open_fld Tryd.underlying42 hc1 2 _ rfl
 have t1_2:DataW.trod enc Tryd.prog W 0 (fun _=>true) true m1_2 25 (([c1_0,c1_1,c1_2,c1_3,c1_4,c1_5,c1_6,c1_7,c1_8,c1_9].drop 2).take (Tryd.prog.cellsOf 25))=some y1_2:=g1_2
 rw[show Tryd.prog.cellsOf 25=1 from by kernel_rfl] at t1_2
 have u1_2:DataW.trod enc Tryd.prog W 0 (fun _=>true) true m1_2 25 [c1_2]=some y1_2:=t1_2
 obtain⟨m1_3,y1_3,g1_3⟩:=open_fld Tryd.underlying42 hc1 3 _ rfl
 have t1_3:DataW.trod enc Tryd.prog W 0 (fun _=>true) true m1_3 5 (([c1_0,c1_1,c1_2,c1_3,c1_4,c1_5,c1_6,c1_7,c1_8,c1_9].drop 3).take (Tryd.prog.cellsOf 5))=some y1_3:=g1_3
 rw[show Tryd.prog.cellsOf 5=1 from by kernel_rfl] at t1_3
 have u1_3:DataW.trod enc Tryd.prog W 0 (fun _=>true) true m1_3 5 [c1_3]=some y1_3:=t1_3
 obtain⟨m1_4,y1_4,g1_4⟩:=open_fld Tryd.underlying42 hc1 4 _ rfl
 have t1_4:DataW.trod enc Tryd.prog W 0 (fun _=>true) true m1_4 5 (([c1_0,c1_1,c1_2,c1_3,c1_4,c1_5,c1_6,c1_7,c1_8,c1_9].drop 4).take (Tryd.prog.cellsOf 5))=some y1_4:=g1_4
 rw[show Tryd.prog.cellsOf 5=1 from by kernel_rfl] at t1_4
 have u1_4:DataW.trod enc Tryd.prog W 0 (fun _=>true) true m1_4 5 [c1_4]=some y1_4:=t1_4
 obtain⟨m1_5,y1_5,g1_5⟩:=open_fld Tryd.underlying42 hc1 5 _ rfl
 have t1_5:DataW.trod enc Tryd.prog W 0 (fun _=>true) true m1_5 5 (([c1_0,c1_1,c1_2,c1_3,c1_4,c1_5,c1_6,c1_7,c1_8,c1_9].drop 5).take (Tryd.prog.cellsOf 5))=some y1_5:=g1_5
 rw[show Tryd.prog.cellsOf 5=1 from by kernel_rfl] at t1_5
 have u1_5:DataW.trod enc Tryd.prog W 0 (fun _=>true) true m1_5 5 [c1_5]=some y1_5:=t1_5
 obtain⟨m1_6,y1_6,g1_6⟩:=open_fld Tryd.underlying42 hc1 6 _ rfl
 have t1_6:DataW.trod enc Tryd.prog W 0 (fun _=>true) true m1_6 5 (([c1_0,c1_1,c1_2,c1_3,c1_4,c1_5,c1_6,c1_7,c1_8,c1_9].drop 6).take (Tryd.prog.cellsOf 5))=some y1_6:=g1_6
 rw[show Tryd.prog.cellsOf 5=1 from by kernel_rfl] at t1_6
 have u1_6:DataW.trod enc Tryd.prog W 0 (fun _=>true) true m1_6 5 [c1_6]=some y1_6:=t1_6
 obtain⟨m1_7,y1_7,g1_7⟩:=open_fld Tryd.underlying42 hc1 7 _ rfl
 have t1_7:DataW.trod enc Tryd.prog W 0 (fun _=>true) true m1_7 25 (([c1_0,c1_1,c1_2,c1_3,c1_4,c1_5,c1_6,c1_7,c1_8,c1_9].drop 7).take (Tryd.prog.cellsOf 25))=some y1_7:=g1_7
 rw[show Tryd.prog.cellsOf 25=1 from by kernel_rfl] at t1_7
 have u1_7:DataW.trod enc Tryd.prog W 0 (fun _=>true) true m1_7 25 [c1_7]=some y1_7:=t1_7
 obtain⟨m1_8,y1_8,g1_8⟩:=open_fld Tryd.underlying42 hc1 8 _ rfl
 have t1_8:DataW.trod enc Tryd.prog W 0 (fun _=>true) true m1_8 25 (([c1_0,c1_1,c1_2,c1_3,c1_4,c1_5,c1_6,c1_7,c1_8,c1_9].drop 8).take (Tryd.prog.cellsOf 25))=some y1_8:=g1_8
 rw[show Tryd.prog.cellsOf 25=1 from by kernel_rfl] at t1_8
 have u1_8:DataW.trod enc Tryd.prog W 0 (fun _=>true) true m1_8 25 [c1_8]=some y1_8:=t1_8
 obtain⟨m1_9,y1_9,g1_9⟩:=open_fld Tryd.underlying42 hc1 9 _ rfl
 have t1_9:DataW.trod enc Tryd.prog W 0 (fun _=>true) true m1_9 4 (([c1_0,c1_1,c1_2,c1_3,c1_4,c1_5,c1_6,c1_7,c1_8,c1_9].drop 9).take (Tryd.prog.cellsOf 4))=some y1_9:=g1_9
 rw[show Tryd.prog.cellsOf 4=1 from by kernel_rfl] at t1_9
 have u1_9:DataW.trod enc Tryd.prog W 0 (fun _=>true) true m1_9 4 [c1_9]=some y1_9:=t1_9
 obtain⟨a1_0,e1_0,x1_0,w1_0⟩:=DataW.trod_int Tryd.underlying3 u1_0
 obtain rfl:c1_0 = .int .i64 a1_0:=by simpa using e1_0
 obtain⟨a1_1,e1_1,x1_1,w1_1⟩:=DataW.trod_int Tryd.underlying25 u1_1
 obtain rfl:c1_1 = .int .u32 a1_1:=by simpa using e1_1
 obtain⟨a1_2,e1_2,x1_2,w1_2⟩:=DataW.trod_int Tryd.underlying25 u1_2
 obtain rfl:c1_2 = .int .u32 a1_2:=by simpa using e1_2
 obtain⟨a1_3,e1_3,x1_3,w1_3⟩:=DataW.trod_int Tryd.underlying5 u1_3
 obtain rfl:c1_3 = .int .u8 a1_3:=by simpa using e1_3
 obtain⟨a1_4,e1_4,x1_4,w1_4⟩:=DataW.trod_int Tryd.underlying5 u1_4
 obtain rfl:c1_4 = .int .u8 a1_4:=by simpa using e1_4
 obtain⟨a1_5,e1_5,x1_5,w1_5⟩:=DataW.trod_int Tryd.underlying5 u1_5
 obtain rfl:c1_5 = .int .u8 a1_5:=by simpa using e1_5
 obtain⟨a1_6,e1_6,x1_6,w1_6⟩:=DataW.trod_int Tryd.underlying5 u1_6
 obtain rfl:c1_6 = .int .u8 a1_6:=by simpa using e1_6
 obtain⟨a1_7,e1_7,x1_7,w1_7⟩:=DataW.trod_int Tryd.underlying25 u1_7
 obtain rfl:c1_7 = .int .u32 a1_7:=by simpa using e1_7
 obtain⟨a1_8,e1_8,x1_8,w1_8⟩:=DataW.trod_int Tryd.underlying25 u1_8
 obtain rfl:c1_8 = .int .u32 a1_8:=by simpa using e1_8
 obtain⟨a1_9,e1_9,x1_9⟩:=DataW.trod_bool Tryd.underlying4 u1_9
 obtain rfl:c1_9 = .bool a1_9:=by simpa using e1_9
 obtain⟨cs2,rfl,hz2⟩:=okWide_struct Tryd.underlying28 (hval 2 28 v2 rfl rfl)
 obtain⟨c2_0,c2_1,c2_2,c2_3,c2_4,c2_5,c2_6,c2_7,c2_8,c2_9,c2_10,rfl⟩:=arr11 (hz2.trans (by kernel_rfl))
 obtain⟨fu2,hf2⟩:=h2
 have hc2:DataW.trod enc Tryd.prog W 0 (fun _=>true) true fu2 28 [c2_0,c2_1,c2_2,c2_3,c2_4,c2_5,c2_6,c2_7,c2_8,c2_9,c2_10]=some (d2,p2):=hf2
 obtain⟨m2_0,y2_0,g2_0⟩:=open_fld Tryd.underlying28 hc2 0 _ rfl
 have t2_0:DataW.trod enc Tryd.prog W 0 (fun _=>true) true m2_0 3 (([c2_0,c2_1,c2_2,c2_3,c2_4,c2_5,c2_6,c2_7,c2_8,c2_9,c2_10].drop 0).take (Tryd.prog.cellsOf 3))=some y2_0:=g2_0
 rw[show Tryd.prog.cellsOf 3=1 from by kernel_rfl] at t2_0
 have u2_0:DataW.trod enc Tryd.prog W 0 (fun _=>true) true m2_0 3 [c2_0]=some y2_0:=t2_0
 obtain⟨m2_1,y2_1,g2_1⟩:=open_fld Tryd.underlying28 hc2 1 _ rfl
 have t2_1:DataW.trod enc Tryd.prog W 0 (fun _=>true) true m2_1 25 (([c2_0,c2_1,c2_2,c2_3,c2_4,c2_5,c2_6,c2_7,c2_8,c2_9,c2_10].drop 1).take (Tryd.prog.cellsOf 25))=some y2_1:=g2_1
 rw[show Tryd.prog.cellsOf 25=1 from by kernel_rfl] at t2_1
 have u2_1:DataW.trod enc Tryd.prog W 0 (fun _=>true) true m2_1 25 [c2_1]=some y2_1:=t2_1
 obtain⟨m2_2,y2_2,g2_2⟩:=open_fld Tryd.underlying28 hc2 2 _ rfl
 have t2_2:DataW.trod enc Tryd.prog W 0 (fun _=>true) true m2_2 4 (([c2_0,c2_1,c2_2,c2_3,c2_4,c2_5,c2_6,c2_7,c2_8,c2_9,c2_10].drop 2).take (Tryd.prog.cellsOf 4))=some y2_2:=g2_2
 rw[show Tryd.prog.cellsOf 4=1 from by kernel_rfl] at t2_2
 have u2_2:DataW.trod enc Tryd.prog W 0 (fun _=>true) true m2_2 4 [c2_2]=some y2_2:=t2_2
 obtain⟨m2_3,y2_3,g2_3⟩:=open_fld Tryd.underlying28 hc2 3 _ rfl
 have t2_3:DataW.trod enc Tryd.prog W 0 (fun _=>true) true m2_3 4 (([c2_0,c2_1,c2_2,c2_3,c2_4,c2_5,c2_6,c2_7,c2_8,c2_9,c2_10].drop 3).take (Tryd.prog.cellsOf 4))=some y2_3:=g2_3
 rw[show Tryd.prog.cellsOf 4=1 from by kernel_rfl] at t2_3
 have u2_3:DataW.trod enc Tryd.prog W 0 (fun _=>true) true m2_3 4 [c2_3]=some y2_3:=t2_3
 obtain⟨m2_4,y2_4,g2_4⟩:=open_fld Tryd.underlying28 hc2 4 _ rfl
 have t2_4:DataW.trod enc Tryd.prog W 0 (fun _=>true) true m2_4 4 (([c2_0,c2_1,c2_2,c2_3,c2_4,c2_5,c2_6,c2_7,c2_8,c2_9,c2_10].drop 4).take (Tryd.prog.cellsOf 4))=some y2_4:=g2_4
 rw[show Tryd.prog.cellsOf 4=1 from by kernel_rfl] at t2_4
 have u2_4:DataW.trod enc Tryd.prog W 0 (fun _=>true) true m2_4 4 [c2_4]=some y2_4:=t2_4
 obtain⟨m2_5,y2_5,g2_5⟩:=open_fld Tryd.underlying28 hc2 5 _ rfl
 have t2_5:DataW.trod enc Tryd.prog W 0 (fun _=>true) true m2_5 4 (([c2_0,c2_1,c2_2,c2_3,c2_4,c2_5,c2_6,c2_7,c2_8,c2_9,c2_10].drop 5).take (Tryd.prog.cellsOf 4))=some y2_5:=g2_5
 rw[show Tryd.prog.cellsOf 4=1 from by kernel_rfl] at t2_5
 have u2_5:DataW.trod enc Tryd.prog W 0 (fun _=>true) true m2_5 4 [c2_5]=some y2_5:=t2_5
 obtain⟨m2_6,y2_6,g2_6⟩:=open_fld Tryd.underlying28 hc2 6 _ rfl
 have t2_6:DataW.trod enc Tryd.prog W 0 (fun _=>true) true m2_6 4 (([c2_0,c2_1,c2_2,c2_3,c2_4,c2_5,c2_6,c2_7,c2_8,c2_9,c2_10].drop 6).take (Tryd.prog.cellsOf 4))=some y2_6:=g2_6
 rw[show Tryd.prog.cellsOf 4=1 from by kernel_rfl] at t2_6
 have u2_6:DataW.trod enc Tryd.prog W 0 (fun _=>true) true m2_6 4 [c2_6]=some y2_6:=t2_6
 obtain⟨m2_7,y2_7,g2_7⟩:=open_fld Tryd.underlying28 hc2 7 _ rfl
 have t2_7:DataW.trod enc Tryd.prog W 0 (fun _=>true) true m2_7 5 (([c2_0,c2_1,c2_2,c2_3,c2_4,c2_5,c2_6,c2_7,c2_8,c2_9,c2_10].drop 7).take (Tryd.prog.cellsOf 5))=some y2_7:=g2_7
 rw[show Tryd.prog.cellsOf 5=1 from by kernel_rfl] at t2_7
 have u2_7:DataW.trod enc Tryd.prog W 0 (fun _=>true) true m2_7 5 [c2_7]=some y2_7:=t2_7
 obtain⟨m2_8,y2_8,g2_8⟩:=open_fld Tryd.underlying28 hc2 8 _ rfl
 have t2_8:DataW.trod enc Tryd.prog W 0 (fun _=>true) true m2_8 5 (([c2_0,c2_1,c2_2,c2_3,c2_4,c2_5,c2_6,c2_7,c2_8,c2_9,c2_10].drop 8).take (Tryd.prog.cellsOf 5))=some y2_8:=g2_8
 rw[show Tryd.prog.cellsOf 5=1 from by kernel_rfl] at t2_8
 have u2_8:DataW.trod enc Tryd.prog W 0 (fun _=>true) true m2_8 5 [c2_8]=some y2_8:=t2_8
 obtain⟨m2_9,y2_9,g2_9⟩:=open_fld Tryd.underlying28 hc2 9 _ rfl
 have t2_9:DataW.trod enc Tryd.prog W 0 (fun _=>true) true m2_9 25 (([c2_0,c2_1,c2_2,c2_3,c2_4,c2_5,c2_6,c2_7,c2_8,c2_9,c2_10].drop 9).take (Tryd.prog.cellsOf 25))=some y2_9:=g2_9
 rw[show Tryd.prog.cellsOf 25=1 from by kernel_rfl] at t2_9
 have u2_9:DataW.trod enc Tryd.prog W 0 (fun _=>true) true m2_9 25 [c2_9]=some y2_9:=t2_9
 obtain⟨m2_10,y2_10,g2_10⟩:=open_fld Tryd.underlying28 hc2 10 _ rfl
 have t2_10:DataW.trod enc Tryd.prog W 0 (fun _=>true) true m2_10 26 (([c2_0,c2_1,c2_2,c2_3,c2_4,c2_5,c2_6,c2_7,c2_8,c2_9,c2_10].drop 10).take (Tryd.prog.cellsOf 26))=some y2_10:=g2_10
 rw[show Tryd.prog.cellsOf 26=1 from by kernel_rfl] at t2_10
 have u2_10:DataW.trod enc Tryd.prog W 0 (fun _=>true) true m2_10 26 [c2_10]=some y2_10:=t2_10
 obtain⟨a2_0,e2_0,x2_0,w2_0⟩:=DataW.trod_int Tryd.underlying3 u2_0
 obtain rfl:c2_0 = .int .i64 a2_0:=by simpa using e2_0
 obtain⟨a2_1,e2_1,x2_1,w2_1⟩:=DataW.trod_int Tryd.underlying25 u2_1
 obtain rfl:c2_1 = .int .u32 a2_1:=by simpa using e2_1
 obtain⟨a2_2,e2_2,x2_2⟩:=DataW.trod_bool Tryd.underlying4 u2_2
 obtain rfl:c2_2 = .bool a2_2:=by simpa using e2_2
 obtain⟨a2_3,e2_3,x2_3⟩:=DataW.trod_bool Tryd.underlying4 u2_3
 obtain rfl:c2_3 = .bool a2_3:=by simpa using e2_3
 obtain⟨a2_4,e2_4,x2_4⟩:=DataW.trod_bool Tryd.underlying4 u2_4
 obtain rfl:c2_4 = .bool a2_4:=by simpa using e2_4
 obtain⟨a2_5,e2_5,x2_5⟩:=DataW.trod_bool Tryd.underlying4 u2_5
 obtain rfl:c2_5 = .bool a2_5:=by simpa using e2_5
 obtain⟨a2_6,e2_6,x2_6⟩:=DataW.trod_bool Tryd.underlying4 u2_6
 obtain rfl:c2_6 = .bool a2_6:=by simpa using e2_6
 obtain⟨a2_7,e2_7,x2_7,w2_7⟩:=DataW.trod_int Tryd.underlying5 u2_7
 obtain rfl:c2_7 = .int .u8 a2_7:=by simpa using e2_7
 obtain⟨a2_8,e2_8,x2_8,w2_8⟩:=DataW.trod_int Tryd.underlying5 u2_8
 obtain rfl:c2_8 = .int .u8 a2_8:=by simpa using e2_8
 obtain⟨a2_9,e2_9,x2_9,w2_9⟩:=DataW.trod_int Tryd.underlying25 u2_9
 obtain rfl:c2_9 = .int .u32 a2_9:=by simpa using e2_9
 obtain⟨a2_10,cap2_10,l2_10,e2_10,hb2_10,n2_10⟩:=bytes_open u2_10
 subst e2_10
 refine (walk W (longer_of hL) a0_0 cap0_0 l0_0 hb0_0 n0_0 rr0_0 a0_1 a1_0 w1_0 a1_1 w1_1 a1_2 w1_2 a1_3 w1_3 a1_4 w1_4 a1_5 w1_5 a1_6 w1_6 a1_7 w1_7 a1_8 w1_8 a1_9 a2_0 w2_0 a2_1 w2_1 a2_2 a2_3 a2_4 a2_5 a2_6 a2_7 w2_7 a2_8 w2_8 a2_9 w2_9 a2_10 cap2_10 l2_10 hb2_10 n2_10).mono fun e W' ⟨he,bel⟩ => ?_
 subst he
 exact⟨_,rfl,_,_,_,[],_,[],hW',trodAll_mk1 (shut_bool Tryd.underlying4 _),(trodAll_cons_mk (Below.trod laidOut (by kernel_rfl) (of_decide_eq_true (by kernel_rfl)) k0 bel lt0) (trodAll_cons_mk (Below.trod laidOut (by kernel_rfl) (of_decide_eq_true (by kernel_rfl)) k1 bel lt1) (trodAll_cons_mk (Below.trod laidOut (by kernel_rfl) (of_decide_eq_true (by kernel_rfl)) k2 bel lt2) trodAll_mk0))),rfl,bel.frame _,fun h=>by cases h⟩
theorem over:Rows.filterAddsRow.holds Tryd.pinned (OpenSpec.ofChange Rows.filterAddsSpec) :=
 OpenClaim.holds_of_wide 8 Tryd.f8 rfl rfl rfl rfl rfl rfl rfl ⟨rfl,rfl,rfl,rfl,rfl⟩ rfl rfl rfl rfl rfl (by kernel_rfl) Tryd.func8 (by kernel_rfl)
  (of_decide_eq_true (by kernel_rfl)) (by unfold Func.isWrapper;first | (rw[if_pos (by decide +kernel)];kernel_rfl) | (rw[if_neg (by decide +kernel)];exact⟨rfl,rfl⟩))
  (fun os started H enc _=>lifted os started H enc)
theorem plain (f : FuncId) (fn : Func) (hf : Tryd.pinned.checked.prog.funcNamed "omnibus/omnibuslaw15.FilterAdds" = some f) (hfn : Tryd.pinned.checked.prog.funcs[f]? = some fn) :
    false=Tryd.pinned.checked.prog.looks []/\∀ (j:Nat) t,fn.params[j]? = some t->Tryd.pinned.checked.prog.wantsStandIn t=false:=by
 obtain rfl : f = 8 := Option.some.inj ((show Tryd.prog.funcNamed "omnibus/omnibuslaw15.FilterAdds" = some 8 by kernel_rfl).symm.trans hf) |>.symm
 obtain rfl:fn=Tryd.f8:=(Option.some.inj (Tryd.func8.symm.trans hfn)).symm
 refine⟨by kernel_rfl,fun j t ht => ?_⟩
 rw[Tryd.params8] at ht
 have hm:t∈[24,42,28]:=by have:=Array.mem_of_getElem? ht;simp at this ⊢;omega
 have hall:([24,42,28].all fun u => !Tryd.prog.wantsStandIn u)=true:=by kernel_rfl
 exact (show Tryd.prog.wantsStandIn t=false by simpa using List.all_eq_true.1 hall t hm)
theorem proved:Rows.FilterAddsCardSaid :=
 Claim7.holds_tied_plain_at .later [] _ _ _ _ over (fun _ h=>by cases h) (by kernel_rfl) (fun _ h=>by cases h) filterAdds_row_tie rfl ⟨rfl,rfl⟩ (by kernel_rfl) rfl plain (by kernel_rfl)
#print axioms proved
end Go.Proofs.YtaohmgklhecjbaaDoor.filterAdds
