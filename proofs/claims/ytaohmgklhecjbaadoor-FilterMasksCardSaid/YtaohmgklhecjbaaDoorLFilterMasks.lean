/- For every pair of frames and every rule the law FilterMasks answers true and leaves its arguments as they were; the package's table of longer sizes is tied to the program's text. No conditions. -/
import Derived.Test.YtaohmgklhecjbaaDoorRows
import Derived.Test.YtaohmgklhecjbaaDoorCards
import Derived.Test.YtaohmgklhecjbaaDoorTie
import Derived.Test.YtaohmgklhecjbaaDoorFlS
import Derived.Test.YtaohmgklhecjbaaDoorFlO
import Derived.Test.YtaohmgklhecjbaaDoorGe
import Derived.Test.YtaohmgklhecjbaaDoorFlU
import Derived.Test.YtaohmgklhecjbaaDoorFlW
import Derived.WalkKit
import Derived.ProofKit
import Derived.OpenShut
import Derived.ShutString
import Derived.ChangeOld
import Derived.Below
import Derived.Carry
import Derived.Lib.SmallJoins
import Derived.Deep.RegionWith
import Derived.Deep.RegionHeld3
import Derived.LaidMore
import Derived.LaidLaws
import Derived.Stop.Joined
import Derived.SevenTiedAt
set_option maxHeartbeats 40000000
set_option maxRecDepth 100000
namespace Go.Proofs.YtaohmgklhecjbaaDoor.filterMasks
open Go.ChangeShapes Go.WideShapes Go.ChangeAt Go.RowKit Go.Joins
set_option linter.unusedVariables false
set_option linter.unusedSimpArgs false
theorem own:ownKnob Tryd.prog.godebug=none:=by kernel_rfl
theorem laidOut:laidOutB Tryd.prog=true:=by kernel_rfl
theorem arr10 {α:Type} {cs:Array α} (h:cs.size=10):∃ c0 c1 c2 c3 c4 c5 c6 c7 c8 c9,cs=#[c0,c1,c2,c3,c4,c5,c6,c7,c8,c9]:=by
 obtain⟨l⟩:=cs
 match l,h with
 | [c0,c1,c2,c3,c4,c5,c6,c7,c8,c9],_=>exact⟨c0,c1,c2,c3,c4,c5,c6,c7,c8,c9,rfl⟩
theorem arr11 {α:Type} {cs:Array α} (h:cs.size=11):∃ c0 c1 c2 c3 c4 c5 c6 c7 c8 c9 c10,cs=#[c0,c1,c2,c3,c4,c5,c6,c7,c8,c9,c10]:=by
 obtain⟨l⟩:=cs
 match l,h with
 | [c0,c1,c2,c3,c4,c5,c6,c7,c8,c9,c10],_=>exact⟨c0,c1,c2,c3,c4,c5,c6,c7,c8,c9,c10,rfl⟩
theorem walk (w:World) (hK:Longer w) (a0_0:Int) (w0_0:(Lit.int .i64 a0_0).wf=true) (a0_1:Int) (w0_1:(Lit.int .u32 a0_1).wf=true) (a0_2:Bool) (a0_3:Bool) (a0_4:Bool) (a0_5:Bool) (a0_6:Bool) (a0_7:Int) (w0_7:(Lit.int .u8 a0_7).wf=true) (a0_8:Int) (w0_8:(Lit.int .u8 a0_8).wf=true) (a0_9:Int) (w0_9:(Lit.int .u32 a0_9).wf=true) (a0_10:Option Addr) (cap0_10:Nat) (l0_10:List Nat) (h0_10:Bs w a0_10 cap0_10 l0_10) (n0_10:a0_10=none->cap0_10=0) (a1_0:Int) (w1_0:(Lit.int .i64 a1_0).wf=true) (a1_1:Int) (w1_1:(Lit.int .u32 a1_1).wf=true) (a1_2:Bool) (a1_3:Bool) (a1_4:Bool) (a1_5:Bool) (a1_6:Bool) (a1_7:Int) (w1_7:(Lit.int .u8 a1_7).wf=true) (a1_8:Int) (w1_8:(Lit.int .u8 a1_8).wf=true) (a1_9:Int) (w1_9:(Lit.int .u32 a1_9).wf=true) (a1_10:Option Addr) (cap1_10:Nat) (l1_10:List Nat) (h1_10:Bs w a1_10 cap1_10 l1_10) (n1_10:a1_10=none->cap1_10=0) (a2_0:Int) (w2_0:(Lit.int .i64 a2_0).wf=true) (a2_1:Int) (w2_1:(Lit.int .u32 a2_1).wf=true) (a2_2:Int) (w2_2:(Lit.int .u32 a2_2).wf=true) (a2_3:Int) (w2_3:(Lit.int .u8 a2_3).wf=true) (a2_4:Int) (w2_4:(Lit.int .u8 a2_4).wf=true) (a2_5:Int) (w2_5:(Lit.int .u8 a2_5).wf=true) (a2_6:Int) (w2_6:(Lit.int .u8 a2_6).wf=true) (a2_7:Int) (w2_7:(Lit.int .u32 a2_7).wf=true) (a2_8:Int) (w2_8:(Lit.int .u32 a2_8).wf=true) (a2_9:Bool) :
    Calls Tryd.prog 7 #[.agg #[.int .i64 a0_0,.int .u32 a0_1,.bool a0_2,.bool a0_3,.bool a0_4,.bool a0_5,.bool a0_6,.int .u8 a0_7,.int .u8 a0_8,.int .u32 a0_9,.slice a0_10 l0_10.length cap0_10],.agg #[.int .i64 a1_0,.int .u32 a1_1,.bool a1_2,.bool a1_3,.bool a1_4,.bool a1_5,.bool a1_6,.int .u8 a1_7,.int .u8 a1_8,.int .u32 a1_9,.slice a1_10 l1_10.length cap1_10],.agg #[.int .i64 a2_0,.int .u32 a2_1,.int .u32 a2_2,.int .u8 a2_3,.int .u8 a2_4,.int .u8 a2_5,.int .u8 a2_6,.int .u32 a2_7,.int .u32 a2_8,.bool a2_9]] w fun e w'=>e = .returned (.bool true)/\Nb w w':=by
 have HK:=Lib.hid hK
 have hL0:=h0_10.len
 have hL1:=h1_10.len
 have HD:=Lib.hid h0_10
 have HE:=Lib.hid h1_10
 have AL:=Lib.hid (fun w' (n:Nb w w')=>alive15_any w' (hK.below n))
 have WF:=Lib.hid (show WdH (⟨a0_0,a0_1,a0_2,a0_3,a0_4,a0_5,a0_6,a0_7,a0_8,a0_9⟩:Hd) from ⟨wf32 w0_1,wf8 w0_7,wf8 w0_8,wf32 w0_9⟩)
 have WG:=Lib.hid (show WdH (⟨a1_0,a1_1,a1_2,a1_3,a1_4,a1_5,a1_6,a1_7,a1_8,a1_9⟩:Hd) from ⟨wf32 w1_1,wf8 w1_7,wf8 w1_8,wf32 w1_9⟩)
 have WM:=Lib.hid (show (0<=a2_2/\a2_2 < 4294967296)/\(0<=a2_4/\a2_4 < 256)/\(0<=a2_6/\a2_6 < 256)/\(0<=a2_8/\a2_8 < 4294967296) from ⟨wf32 w2_2,wf8 w2_4,wf8 w2_6,wf32 w2_8⟩)
 obtain⟨z0,hz0⟩:∃ z0,z0=((w.alloc (.cells #[.int .i64 a0_0,.int .u32 a0_1,.bool a0_2,.bool a0_3,.bool a0_4,.bool a0_5,.bool a0_6,.int .u8 a0_7,.int .u8 a0_8,.int .u32 a0_9,.slice a0_10 l0_10.length cap0_10] 28)).alloc (.cells #[.int .i64 a1_0,.int .u32 a1_1,.bool a1_2,.bool a1_3,.bool a1_4,.bool a1_5,.bool a1_6,.int .u8 a1_7,.int .u8 a1_8,.int .u32 a1_9,.slice a1_10 l1_10.length cap1_10] 28)).alloc (.cells #[.int .i64 a2_0,.int .u32 a2_1,.int .u32 a2_2,.int .u8 a2_3,.int .u8 a2_4,.int .u8 a2_5,.int .u8 a2_6,.int .u32 a2_7,.int .u32 a2_8,.bool a2_9] 42):=⟨_,rfl⟩
 obtain⟨B,hB⟩:∃ B,B=w.heap.size:=⟨_,rfl⟩
 have NZ:=Lib.hid (show Nb w z0 by rw[hz0];exact ((Nb.rfl.al _).al _).al _)
 have BF:=Lib.hid (show Blk z0 B #[.int .i64 a0_0,.int .u32 a0_1,.bool a0_2,.bool a0_3,.bool a0_4,.bool a0_5,.bool a0_6,.int .u8 a0_7,.int .u8 a0_8,.int .u32 a0_9,.slice a0_10 l0_10.length cap0_10] 28 by rw[hz0,hB];exact (Blk.new w _ _).nb ((Nb.rfl.al _).al _))
 have BG:=Lib.hid (show Blk z0 (B+1) #[.int .i64 a1_0,.int .u32 a1_1,.bool a1_2,.bool a1_3,.bool a1_4,.bool a1_5,.bool a1_6,.int .u8 a1_7,.int .u8 a1_8,.int .u32 a1_9,.slice a1_10 l1_10.length cap1_10] 28 by
  rw[hz0,hB]
  have:=(Blk.new (w.alloc (.cells #[.int .i64 a0_0,.int .u32 a0_1,.bool a0_2,.bool a0_3,.bool a0_4,.bool a0_5,.bool a0_6,.int .u8 a0_7,.int .u8 a0_8,.int .u32 a0_9,.slice a0_10 l0_10.length cap0_10] 28)) #[.int .i64 a1_0,.int .u32 a1_1,.bool a1_2,.bool a1_3,.bool a1_4,.bool a1_5,.bool a1_6,.int .u8 a1_7,.int .u8 a1_8,.int .u32 a1_9,.slice a1_10 l1_10.length cap1_10] 28).nb (Nb.rfl.al (.cells #[.int .i64 a2_0,.int .u32 a2_1,.int .u32 a2_2,.int .u8 a2_3,.int .u8 a2_4,.int .u8 a2_5,.int .u8 a2_6,.int .u32 a2_7,.int .u32 a2_8,.bool a2_9] 42))
  rwa[World.size_alloc] at this)
 have BM:=Lib.hid (show Blk z0 (B+1+1) #[.int .i64 a2_0,.int .u32 a2_1,.int .u32 a2_2,.int .u8 a2_3,.int .u8 a2_4,.int .u8 a2_5,.int .u8 a2_6,.int .u32 a2_7,.int .u32 a2_8,.bool a2_9] 42 by
  rw[hz0,hB]
  have:=Blk.new ((w.alloc (.cells #[.int .i64 a0_0,.int .u32 a0_1,.bool a0_2,.bool a0_3,.bool a0_4,.bool a0_5,.bool a0_6,.int .u8 a0_7,.int .u8 a0_8,.int .u32 a0_9,.slice a0_10 l0_10.length cap0_10] 28)).alloc (.cells #[.int .i64 a1_0,.int .u32 a1_1,.bool a1_2,.bool a1_3,.bool a1_4,.bool a1_5,.bool a1_6,.int .u8 a1_7,.int .u8 a1_8,.int .u32 a1_9,.slice a1_10 l1_10.length cap1_10] 28)) #[.int .i64 a2_0,.int .u32 a2_1,.int .u32 a2_2,.int .u8 a2_3,.int .u8 a2_4,.int .u8 a2_5,.int .u8 a2_6,.int .u32 a2_7,.int .u32 a2_8,.bool a2_9] 42
  rwa[World.size_alloc,World.size_alloc] at this)
 have cf:=fun w' (n:Nb w w')=>check5_any (⟨a0_0,a0_1,a0_2,a0_3,a0_4,a0_5,a0_6,a0_7,a0_8,a0_9⟩:Hd) a0_10 cap0_10 l0_10 w' (HD.out.below n) (HK.out.below n)
 have cg:=fun w' (n:Nb w w')=>check5_any (⟨a1_0,a1_1,a1_2,a1_3,a1_4,a1_5,a1_6,a1_7,a1_8,a1_9⟩:Hd) a1_10 cap1_10 l1_10 w' (HE.out.below n) (HK.out.below n)
 have ff:=fun r w' (n:Nb w w')=>fits_any (⟨a0_0,a0_1,a0_2,a0_3,a0_4,a0_5,a0_6,a0_7,a0_8,a0_9⟩:Hd) a0_10 cap0_10 l0_10 r w' (HD.out.below n) (HK.out.below n)
 have fg:=fun r w' (n:Nb w w')=>fits_any (⟨a1_0,a1_1,a1_2,a1_3,a1_4,a1_5,a1_6,a1_7,a1_8,a1_9⟩:Hd) a1_10 cap1_10 l1_10 r w' (HE.out.below n) (HK.out.below n)
 clear hK h0_10 h1_10 n0_10 n1_10
 cases hk:okF (⟨a0_0,a0_1,a0_2,a0_3,a0_4,a0_5,a0_6,a0_7,a0_8,a0_9⟩:Hd) l0_10 with
 | false =>
   have f7:=ff (allR false)
   rw[show fitR (⟨a0_0,a0_1,a0_2,a0_3,a0_4,a0_5,a0_6,a0_7,a0_8,a0_9⟩:Hd) l0_10 (allR false)=false by simp[fitR,hk]] at f7
   rw[show checkN (⟨a0_0,a0_1,a0_2,a0_3,a0_4,a0_5,a0_6,a0_7,a0_8,a0_9⟩:Hd) l0_10=2 by simp[checkN,hk]] at cf
   simp only[Hd.cs,Rl.ca,allR] at cf f7
   have CF:=Lib.hid cf
   have F7:=Lib.hid f7
   clear cf cg ff fg f7 hk
   go_enter Tryd.func7,Tryd.ntmps7
   go_wp2_with fail
   rw[<- hz0,<- hB]
   clear hz0 hB
   refine (AL.out _ NZ.out).mono ?_
   rintro e w1 ⟨rfl,n1⟩
   have N1:=Lib.hid (NZ.out.tr n1)
   have F1:=Lib.hid (BF.out.nb n1)
   have G1:=Lib.hid (BG.out.nb n1)
   have M1:=Lib.hid (BM.out.nb n1)
   obtain⟨c0,c1,c2,c3,c4,c5,c6,c7,c8,c9,c10⟩:=F1.out.c11
   clear n1
   go_wp2_with fail
   refine (CF.out _ N1.out).mono ?_
   rintro e w2 ⟨rfl,n2⟩
   have N2:=Lib.hid (N1.out.tr n2)
   clear c0 c1 c2 c3 c4 c5 c6 c7 c8 c9 c10
   obtain⟨c0,c1,c2,c3,c4,c5,c6,c7,c8,c9,c10⟩:=(F1.out.nb n2).c11
   clear n2
   go_wp2_with fail
   refine (F7.out _ N2.out).mono ?_
   rintro e w3 ⟨rfl,n3⟩
   go_wp2
   go_ret
   exact⟨rfl,N2.out.tr n3⟩
 | true =>
 rw[show checkN (⟨a0_0,a0_1,a0_2,a0_3,a0_4,a0_5,a0_6,a0_7,a0_8,a0_9⟩:Hd) l0_10=0 by simp[checkN,hk]] at cf
 cases hk2:okF (⟨a1_0,a1_1,a1_2,a1_3,a1_4,a1_5,a1_6,a1_7,a1_8,a1_9⟩:Hd) l1_10 with
 | false =>
   have f7:=ff (allR false)
   rw[show fitR (⟨a0_0,a0_1,a0_2,a0_3,a0_4,a0_5,a0_6,a0_7,a0_8,a0_9⟩:Hd) l0_10 (allR false)=true by
    unfold fitR
    rw[hk,allR_of WF.out hk false]
    rfl] at f7
   rw[show checkN (⟨a1_0,a1_1,a1_2,a1_3,a1_4,a1_5,a1_6,a1_7,a1_8,a1_9⟩:Hd) l1_10=2 by simp[checkN,hk2]] at cg
   simp only[Hd.cs,Rl.ca,allR] at cf cg f7
   have CF:=Lib.hid cf
   have CG:=Lib.hid cg
   have F7:=Lib.hid f7
   clear cf cg ff fg f7 hk hk2
   go_enter Tryd.func7,Tryd.ntmps7
   go_wp2_with fail
   rw[<- hz0,<- hB]
   clear hz0 hB
   refine (AL.out _ NZ.out).mono ?_
   rintro e w1 ⟨rfl,n1⟩
   have N1:=Lib.hid (NZ.out.tr n1)
   have F1:=Lib.hid (BF.out.nb n1)
   have G1:=Lib.hid (BG.out.nb n1)
   have M1:=Lib.hid (BM.out.nb n1)
   obtain⟨c0,c1,c2,c3,c4,c5,c6,c7,c8,c9,c10⟩:=F1.out.c11
   clear n1
   go_wp2_with fail
   refine (CF.out _ N1.out).mono ?_
   rintro e w2 ⟨rfl,n2⟩
   have N2:=Lib.hid (N1.out.tr n2)
   have F2:=Lib.hid (F1.out.nb n2)
   obtain⟨g0,g1,g2,g3,g4,g5,g6,g7,g8,g9,g10⟩:=(G1.out.nb n2).c11
   clear n2 c0 c1 c2 c3 c4 c5 c6 c7 c8 c9 c10
   go_wp2_with fail
   refine (CG.out _ N2.out).mono ?_
   rintro e w3 ⟨rfl,n3⟩
   have N3:=Lib.hid (N2.out.tr n3)
   have F3:=Lib.hid (F2.out.nb n3)
   clear n3 g0 g1 g2 g3 g4 g5 g6 g7 g8 g9 g10
   obtain⟨c0,c1,c2,c3,c4,c5,c6,c7,c8,c9,c10⟩:=F3.out.c11
   go_wp2_with fail
   refine (F7.out _ N3.out).mono ?_
   rintro e w4 ⟨rfl,n4⟩
   have N4:=Lib.hid (N3.out.tr n4)
   clear c0 c1 c2 c3 c4 c5 c6 c7 c8 c9 c10
   obtain⟨c0,c1,c2,c3,c4,c5,c6,c7,c8,c9,c10⟩:=(F3.out.nb n4).c11
   clear n4
   go_wp2_with fail
   refine (CF.out _ N4.out).mono ?_
   rintro e w5 ⟨rfl,n5⟩
   go_wp2
   go_ret
   exact⟨rfl,N4.out.tr n5⟩
 | true =>
 rw[show checkN (⟨a1_0,a1_1,a1_2,a1_3,a1_4,a1_5,a1_6,a1_7,a1_8,a1_9⟩:Hd) l1_10=0 by simp[checkN,hk2]] at cg
 have hkk:=okF_kind hk
 simp only at hkk
 have f1:=ff ⟨kindN a0_0,a0_1,a2_2,a0_7,a2_4,a0_8,a2_6,a0_9,a2_8,false⟩
 have f2:=fg ⟨kindN a0_0,a0_1,4294967295,a0_7,255,a0_8,255,a0_9,4294967295,false⟩
 have f3:=fg ⟨kindN a0_0,a0_1,a2_2,a0_7,a2_4,a0_8,a2_6,a0_9,a2_8,false⟩
 have hwr:WdR ⟨kindN a0_0,a0_1,a2_2,a0_7,a2_4,a0_8,a2_6,a0_9,a2_8,false⟩:=⟨by
  rcases hkk with rfl | rfl | rfl
  ·exact (show (Lit.int .i64 (kindN 1)).wf=true by decide +kernel)
  ·exact (show (Lit.int .i64 (kindN 2)).wf=true by decide +kernel)
  ·exact (show (Lit.int .i64 (kindN 3)).wf=true by decide +kernel),WF.out.I,WM.out.1,WF.out.D,WM.out.2.1,WF.out.V,WM.out.2.2.1,WF.out.A,WM.out.2.2.2⟩
 rw[mask_own WF.out hwr hk hkk rfl rfl rfl rfl rfl (by simp)] at f1
 rw[mask_whole WF.out WG.out hk2 hkk rfl rfl rfl rfl rfl rfl rfl rfl rfl] at f2
 have hown:=mask_own WF.out hwr hk2 hkk rfl rfl rfl rfl rfl
 simp only at f2 hown
 generalize hs0:(a0_0==a1_0)=s0 at f2 hown
 generalize hs1:(a0_1==a1_1)=s1 at f2 hown
 generalize hs2:(a0_7==a1_7)=s2 at f2 hown
 generalize hs3:(a0_8==a1_8)=s3 at f2 hown
 generalize hs4:(a0_9==a1_9)=s4 at f2 hown
 have f4:=fun (h:(s0&&(s1&&(s2&&(s3&&s4))))=true) w' (n:Nb w w')=>by
  have:=f3 w' n
  rw[hown h] at this
  exact this
 obtain⟨kn,hkn⟩:∃ kn,kn=kindN a0_0:=⟨_,rfl⟩
 simp only[Hd.cs,Rl.ca,<- hkn] at cf cg f1 f2 f4
 have CF:=Lib.hid cf
 have CG:=Lib.hid cg
 have Q1:=Lib.hid f1
 have Q4:=Lib.hid f4
 clear cf cg ff fg f1 f3 f4 hk hk2 hown hwr WF WG WM
 rcases hkk with rfl | rfl | rfl
 ·have hkn':kn=1:=hkn
  clear hkn
  subst hkn'
  go_enter Tryd.func7,Tryd.ntmps7
  go_wp2_with fail
  rw[<- hz0,<- hB]
  clear hz0 hB
  refine (AL.out _ NZ.out).mono ?_
  rintro e w1 ⟨rfl,n1⟩
  have N1:=Lib.hid (NZ.out.tr n1)
  have F1:=Lib.hid (BF.out.nb n1)
  have G1:=Lib.hid (BG.out.nb n1)
  have M1:=Lib.hid (BM.out.nb n1)
  obtain⟨c0,c1,c2,c3,c4,c5,c6,c7,c8,c9,c10⟩:=F1.out.c11
  clear n1
  go_wp2_with fail
  refine (CF.out _ N1.out).mono ?_
  rintro e w2 ⟨rfl,n2⟩
  have N2:=Lib.hid (N1.out.tr n2)
  have F2:=Lib.hid (F1.out.nb n2)
  have G2:=Lib.hid (G1.out.nb n2)
  have M2:=Lib.hid (M1.out.nb n2)
  obtain⟨g0,g1,g2,g3,g4,g5,g6,g7,g8,g9,g10⟩:=G2.out.c11
  clear n2 c0 c1 c2 c3 c4 c5 c6 c7 c8 c9 c10
  go_wp2_with fail
  refine (CG.out _ N2.out).mono ?_
  rintro e w3 ⟨rfl,n3⟩
  have N3:=Lib.hid (N2.out.tr n3)
  have F3:=Lib.hid (F2.out.nb n3)
  have G3:=Lib.hid (G2.out.nb n3)
  have M3:=Lib.hid (M2.out.nb n3)
  have hB3:B < w3.heap.size:=F3.out.lt
  have hG3:B+1 < w3.heap.size:=G3.out.lt
  have hM3:B+1+1 < w3.heap.size:=M3.out.lt
  clear n3 g0 g1 g2 g3 g4 g5 g6 g7 g8 g9 g10
  obtain⟨c0,c1,c2,c3,c4,c5,c6,c7,c8,c9,c10⟩:=F3.out.c11
  obtain⟨g0,g1,g2,g3,g4,g5,g6,g7,g8,g9,g10⟩:=G3.out.c11
  obtain⟨m0,m1,m2,m3,m4,m5,m6,m7,m8,m9⟩:=M3.out.r10
  cases s0
  ·simp only[Bool.false_and,Bool.true_and] at f2
   have Q2:=Lib.hid f2
   clear f2
   obtain⟨y,hy⟩:∃ y,y=(w3.alloc (.cells #[.int .i64 1,.int .u32 a0_1,.int .u32 a2_2,.int .u8 a0_7,.int .u8 a2_4,.int .u8 a0_8,.int .u8 a2_6,.int .u32 a0_9,.int .u32 a2_8,.bool false] 44)).alloc (.cells #[.int .i64 1,.int .u32 a0_1,.int .u32 4294967295,.int .u8 a0_7,.int .u8 255,.int .u8 a0_8,.int .u8 255,.int .u32 a0_9,.int .u32 4294967295,.bool false] 44):=⟨_,rfl⟩
   obtain⟨Rb,hRb⟩:∃ Rb,Rb=w3.heap.size:=⟨_,rfl⟩
   have NY:=Lib.hid (show Nb w3 y by rw[hy];exact (Nb.rfl.al _).al _)
   have BR:=Lib.hid (show Blk y Rb #[.int .i64 1,.int .u32 a0_1,.int .u32 a2_2,.int .u8 a0_7,.int .u8 a2_4,.int .u8 a0_8,.int .u8 a2_6,.int .u32 a0_9,.int .u32 a2_8,.bool false] 44 by rw[hy,hRb];exact (Blk.new w3 _ _).nb (Nb.rfl.al _))
   have BW:=Lib.hid (show Blk y (Rb+1) #[.int .i64 1,.int .u32 a0_1,.int .u32 4294967295,.int .u8 a0_7,.int .u8 255,.int .u8 a0_8,.int .u8 255,.int .u32 a0_9,.int .u32 4294967295,.bool false] 44 by
    rw[hy,hRb]
    have:=Blk.new (w3.alloc (.cells #[.int .i64 1,.int .u32 a0_1,.int .u32 a2_2,.int .u8 a0_7,.int .u8 a2_4,.int .u8 a0_8,.int .u8 a2_6,.int .u32 a0_9,.int .u32 a2_8,.bool false] 44)) #[.int .i64 1,.int .u32 a0_1,.int .u32 4294967295,.int .u8 a0_7,.int .u8 255,.int .u8 a0_8,.int .u8 255,.int .u32 a0_9,.int .u32 4294967295,.bool false] 44
    rwa[World.size_alloc] at this)
   go_wp2_with fail
   rw[<- hy,<- hRb]
   clear hy hRb c0 c1 c2 c3 c4 c5 c6 c7 c8 c9 c10 g0 g1 g2 g3 g4 g5 g6 g7 g8 g9 g10 m0 m1 m2 m3 m4 m5 m6 m7 m8 m9
   refine (Q1.out _ (N3.out.tr NY.out)).mono ?_
   rintro e w4 ⟨rfl,n4⟩
   have N4:=Lib.hid (NY.out.tr n4)
   obtain⟨d0,d1,d2,d3,d4,d5,d6,d7,d8,d9⟩:=(BW.out.nb n4).r10
   obtain⟨g0,g1,g2,g3,g4,g5,g6,g7,g8,g9,g10⟩:=(G3.out.nb N4.out).c11
   go_wp2_with fail
   refine (Q2.out _ (N3.out.tr N4.out)).mono ?_
   rintro e w5 ⟨rfl,n5⟩
   have N5:=Lib.hid (N4.out.tr n5)
   clear d0 d1 d2 d3 d4 d5 d6 d7 d8 d9 g0 g1 g2 g3 g4 g5 g6 g7 g8 g9 g10
   go_wp2
   go_ret
   exact⟨rfl,N3.out.tr N5.out⟩
  ·skip
   cases s1
   ·simp only[Bool.false_and,Bool.true_and] at f2
    have Q2:=Lib.hid f2
    clear f2
    obtain⟨y,hy⟩:∃ y,y=(w3.alloc (.cells #[.int .i64 1,.int .u32 a0_1,.int .u32 a2_2,.int .u8 a0_7,.int .u8 a2_4,.int .u8 a0_8,.int .u8 a2_6,.int .u32 a0_9,.int .u32 a2_8,.bool false] 44)).alloc (.cells #[.int .i64 1,.int .u32 a0_1,.int .u32 4294967295,.int .u8 a0_7,.int .u8 255,.int .u8 a0_8,.int .u8 255,.int .u32 a0_9,.int .u32 4294967295,.bool false] 44):=⟨_,rfl⟩
    obtain⟨Rb,hRb⟩:∃ Rb,Rb=w3.heap.size:=⟨_,rfl⟩
    have NY:=Lib.hid (show Nb w3 y by rw[hy];exact (Nb.rfl.al _).al _)
    have BR:=Lib.hid (show Blk y Rb #[.int .i64 1,.int .u32 a0_1,.int .u32 a2_2,.int .u8 a0_7,.int .u8 a2_4,.int .u8 a0_8,.int .u8 a2_6,.int .u32 a0_9,.int .u32 a2_8,.bool false] 44 by rw[hy,hRb];exact (Blk.new w3 _ _).nb (Nb.rfl.al _))
    have BW:=Lib.hid (show Blk y (Rb+1) #[.int .i64 1,.int .u32 a0_1,.int .u32 4294967295,.int .u8 a0_7,.int .u8 255,.int .u8 a0_8,.int .u8 255,.int .u32 a0_9,.int .u32 4294967295,.bool false] 44 by
     rw[hy,hRb]
     have:=Blk.new (w3.alloc (.cells #[.int .i64 1,.int .u32 a0_1,.int .u32 a2_2,.int .u8 a0_7,.int .u8 a2_4,.int .u8 a0_8,.int .u8 a2_6,.int .u32 a0_9,.int .u32 a2_8,.bool false] 44)) #[.int .i64 1,.int .u32 a0_1,.int .u32 4294967295,.int .u8 a0_7,.int .u8 255,.int .u8 a0_8,.int .u8 255,.int .u32 a0_9,.int .u32 4294967295,.bool false] 44
     rwa[World.size_alloc] at this)
    go_wp2_with fail
    rw[<- hy,<- hRb]
    clear hy hRb c0 c1 c2 c3 c4 c5 c6 c7 c8 c9 c10 g0 g1 g2 g3 g4 g5 g6 g7 g8 g9 g10 m0 m1 m2 m3 m4 m5 m6 m7 m8 m9
    refine (Q1.out _ (N3.out.tr NY.out)).mono ?_
    rintro e w4 ⟨rfl,n4⟩
    have N4:=Lib.hid (NY.out.tr n4)
    obtain⟨d0,d1,d2,d3,d4,d5,d6,d7,d8,d9⟩:=(BW.out.nb n4).r10
    obtain⟨g0,g1,g2,g3,g4,g5,g6,g7,g8,g9,g10⟩:=(G3.out.nb N4.out).c11
    go_wp2_with fail
    refine (Q2.out _ (N3.out.tr N4.out)).mono ?_
    rintro e w5 ⟨rfl,n5⟩
    have N5:=Lib.hid (N4.out.tr n5)
    clear d0 d1 d2 d3 d4 d5 d6 d7 d8 d9 g0 g1 g2 g3 g4 g5 g6 g7 g8 g9 g10
    go_wp2
    go_ret
    exact⟨rfl,N3.out.tr N5.out⟩
   ·skip
    cases s2
    ·simp only[Bool.false_and,Bool.true_and] at f2
     have Q2:=Lib.hid f2
     clear f2
     obtain⟨y,hy⟩:∃ y,y=(w3.alloc (.cells #[.int .i64 1,.int .u32 a0_1,.int .u32 a2_2,.int .u8 a0_7,.int .u8 a2_4,.int .u8 a0_8,.int .u8 a2_6,.int .u32 a0_9,.int .u32 a2_8,.bool false] 44)).alloc (.cells #[.int .i64 1,.int .u32 a0_1,.int .u32 4294967295,.int .u8 a0_7,.int .u8 255,.int .u8 a0_8,.int .u8 255,.int .u32 a0_9,.int .u32 4294967295,.bool false] 44):=⟨_,rfl⟩
     obtain⟨Rb,hRb⟩:∃ Rb,Rb=w3.heap.size:=⟨_,rfl⟩
     have NY:=Lib.hid (show Nb w3 y by rw[hy];exact (Nb.rfl.al _).al _)
     have BR:=Lib.hid (show Blk y Rb #[.int .i64 1,.int .u32 a0_1,.int .u32 a2_2,.int .u8 a0_7,.int .u8 a2_4,.int .u8 a0_8,.int .u8 a2_6,.int .u32 a0_9,.int .u32 a2_8,.bool false] 44 by rw[hy,hRb];exact (Blk.new w3 _ _).nb (Nb.rfl.al _))
     have BW:=Lib.hid (show Blk y (Rb+1) #[.int .i64 1,.int .u32 a0_1,.int .u32 4294967295,.int .u8 a0_7,.int .u8 255,.int .u8 a0_8,.int .u8 255,.int .u32 a0_9,.int .u32 4294967295,.bool false] 44 by
      rw[hy,hRb]
      have:=Blk.new (w3.alloc (.cells #[.int .i64 1,.int .u32 a0_1,.int .u32 a2_2,.int .u8 a0_7,.int .u8 a2_4,.int .u8 a0_8,.int .u8 a2_6,.int .u32 a0_9,.int .u32 a2_8,.bool false] 44)) #[.int .i64 1,.int .u32 a0_1,.int .u32 4294967295,.int .u8 a0_7,.int .u8 255,.int .u8 a0_8,.int .u8 255,.int .u32 a0_9,.int .u32 4294967295,.bool false] 44
      rwa[World.size_alloc] at this)
     go_wp2_with fail
     rw[<- hy,<- hRb]
     clear hy hRb c0 c1 c2 c3 c4 c5 c6 c7 c8 c9 c10 g0 g1 g2 g3 g4 g5 g6 g7 g8 g9 g10 m0 m1 m2 m3 m4 m5 m6 m7 m8 m9
     refine (Q1.out _ (N3.out.tr NY.out)).mono ?_
     rintro e w4 ⟨rfl,n4⟩
     have N4:=Lib.hid (NY.out.tr n4)
     obtain⟨d0,d1,d2,d3,d4,d5,d6,d7,d8,d9⟩:=(BW.out.nb n4).r10
     obtain⟨g0,g1,g2,g3,g4,g5,g6,g7,g8,g9,g10⟩:=(G3.out.nb N4.out).c11
     go_wp2_with fail
     refine (Q2.out _ (N3.out.tr N4.out)).mono ?_
     rintro e w5 ⟨rfl,n5⟩
     have N5:=Lib.hid (N4.out.tr n5)
     clear d0 d1 d2 d3 d4 d5 d6 d7 d8 d9 g0 g1 g2 g3 g4 g5 g6 g7 g8 g9 g10
     go_wp2
     go_ret
     exact⟨rfl,N3.out.tr N5.out⟩
    ·skip
     cases s3
     ·simp only[Bool.false_and,Bool.true_and] at f2
      have Q2:=Lib.hid f2
      clear f2
      obtain⟨y,hy⟩:∃ y,y=(w3.alloc (.cells #[.int .i64 1,.int .u32 a0_1,.int .u32 a2_2,.int .u8 a0_7,.int .u8 a2_4,.int .u8 a0_8,.int .u8 a2_6,.int .u32 a0_9,.int .u32 a2_8,.bool false] 44)).alloc (.cells #[.int .i64 1,.int .u32 a0_1,.int .u32 4294967295,.int .u8 a0_7,.int .u8 255,.int .u8 a0_8,.int .u8 255,.int .u32 a0_9,.int .u32 4294967295,.bool false] 44):=⟨_,rfl⟩
      obtain⟨Rb,hRb⟩:∃ Rb,Rb=w3.heap.size:=⟨_,rfl⟩
      have NY:=Lib.hid (show Nb w3 y by rw[hy];exact (Nb.rfl.al _).al _)
      have BR:=Lib.hid (show Blk y Rb #[.int .i64 1,.int .u32 a0_1,.int .u32 a2_2,.int .u8 a0_7,.int .u8 a2_4,.int .u8 a0_8,.int .u8 a2_6,.int .u32 a0_9,.int .u32 a2_8,.bool false] 44 by rw[hy,hRb];exact (Blk.new w3 _ _).nb (Nb.rfl.al _))
      have BW:=Lib.hid (show Blk y (Rb+1) #[.int .i64 1,.int .u32 a0_1,.int .u32 4294967295,.int .u8 a0_7,.int .u8 255,.int .u8 a0_8,.int .u8 255,.int .u32 a0_9,.int .u32 4294967295,.bool false] 44 by
       rw[hy,hRb]
       have:=Blk.new (w3.alloc (.cells #[.int .i64 1,.int .u32 a0_1,.int .u32 a2_2,.int .u8 a0_7,.int .u8 a2_4,.int .u8 a0_8,.int .u8 a2_6,.int .u32 a0_9,.int .u32 a2_8,.bool false] 44)) #[.int .i64 1,.int .u32 a0_1,.int .u32 4294967295,.int .u8 a0_7,.int .u8 255,.int .u8 a0_8,.int .u8 255,.int .u32 a0_9,.int .u32 4294967295,.bool false] 44
       rwa[World.size_alloc] at this)
      go_wp2_with fail
      rw[<- hy,<- hRb]
      clear hy hRb c0 c1 c2 c3 c4 c5 c6 c7 c8 c9 c10 g0 g1 g2 g3 g4 g5 g6 g7 g8 g9 g10 m0 m1 m2 m3 m4 m5 m6 m7 m8 m9
      refine (Q1.out _ (N3.out.tr NY.out)).mono ?_
      rintro e w4 ⟨rfl,n4⟩
      have N4:=Lib.hid (NY.out.tr n4)
      obtain⟨d0,d1,d2,d3,d4,d5,d6,d7,d8,d9⟩:=(BW.out.nb n4).r10
      obtain⟨g0,g1,g2,g3,g4,g5,g6,g7,g8,g9,g10⟩:=(G3.out.nb N4.out).c11
      go_wp2_with fail
      refine (Q2.out _ (N3.out.tr N4.out)).mono ?_
      rintro e w5 ⟨rfl,n5⟩
      have N5:=Lib.hid (N4.out.tr n5)
      clear d0 d1 d2 d3 d4 d5 d6 d7 d8 d9 g0 g1 g2 g3 g4 g5 g6 g7 g8 g9 g10
      go_wp2
      go_ret
      exact⟨rfl,N3.out.tr N5.out⟩
     ·skip
      cases s4
      ·simp only[Bool.false_and,Bool.true_and] at f2
       have Q2:=Lib.hid f2
       clear f2
       obtain⟨y,hy⟩:∃ y,y=(w3.alloc (.cells #[.int .i64 1,.int .u32 a0_1,.int .u32 a2_2,.int .u8 a0_7,.int .u8 a2_4,.int .u8 a0_8,.int .u8 a2_6,.int .u32 a0_9,.int .u32 a2_8,.bool false] 44)).alloc (.cells #[.int .i64 1,.int .u32 a0_1,.int .u32 4294967295,.int .u8 a0_7,.int .u8 255,.int .u8 a0_8,.int .u8 255,.int .u32 a0_9,.int .u32 4294967295,.bool false] 44):=⟨_,rfl⟩
       obtain⟨Rb,hRb⟩:∃ Rb,Rb=w3.heap.size:=⟨_,rfl⟩
       have NY:=Lib.hid (show Nb w3 y by rw[hy];exact (Nb.rfl.al _).al _)
       have BR:=Lib.hid (show Blk y Rb #[.int .i64 1,.int .u32 a0_1,.int .u32 a2_2,.int .u8 a0_7,.int .u8 a2_4,.int .u8 a0_8,.int .u8 a2_6,.int .u32 a0_9,.int .u32 a2_8,.bool false] 44 by rw[hy,hRb];exact (Blk.new w3 _ _).nb (Nb.rfl.al _))
       have BW:=Lib.hid (show Blk y (Rb+1) #[.int .i64 1,.int .u32 a0_1,.int .u32 4294967295,.int .u8 a0_7,.int .u8 255,.int .u8 a0_8,.int .u8 255,.int .u32 a0_9,.int .u32 4294967295,.bool false] 44 by
        rw[hy,hRb]
        have:=Blk.new (w3.alloc (.cells #[.int .i64 1,.int .u32 a0_1,.int .u32 a2_2,.int .u8 a0_7,.int .u8 a2_4,.int .u8 a0_8,.int .u8 a2_6,.int .u32 a0_9,.int .u32 a2_8,.bool false] 44)) #[.int .i64 1,.int .u32 a0_1,.int .u32 4294967295,.int .u8 a0_7,.int .u8 255,.int .u8 a0_8,.int .u8 255,.int .u32 a0_9,.int .u32 4294967295,.bool false] 44
        rwa[World.size_alloc] at this)
       go_wp2_with fail
       rw[<- hy,<- hRb]
       clear hy hRb c0 c1 c2 c3 c4 c5 c6 c7 c8 c9 c10 g0 g1 g2 g3 g4 g5 g6 g7 g8 g9 g10 m0 m1 m2 m3 m4 m5 m6 m7 m8 m9
       refine (Q1.out _ (N3.out.tr NY.out)).mono ?_
       rintro e w4 ⟨rfl,n4⟩
       have N4:=Lib.hid (NY.out.tr n4)
       obtain⟨d0,d1,d2,d3,d4,d5,d6,d7,d8,d9⟩:=(BW.out.nb n4).r10
       obtain⟨g0,g1,g2,g3,g4,g5,g6,g7,g8,g9,g10⟩:=(G3.out.nb N4.out).c11
       go_wp2_with fail
       refine (Q2.out _ (N3.out.tr N4.out)).mono ?_
       rintro e w5 ⟨rfl,n5⟩
       have N5:=Lib.hid (N4.out.tr n5)
       clear d0 d1 d2 d3 d4 d5 d6 d7 d8 d9 g0 g1 g2 g3 g4 g5 g6 g7 g8 g9 g10
       go_wp2
       go_ret
       exact⟨rfl,N3.out.tr N5.out⟩
      ·simp only[Bool.false_and,Bool.true_and] at f2
       have Q2:=Lib.hid f2
       clear f2
       obtain⟨y,hy⟩:∃ y,y=(w3.alloc (.cells #[.int .i64 1,.int .u32 a0_1,.int .u32 a2_2,.int .u8 a0_7,.int .u8 a2_4,.int .u8 a0_8,.int .u8 a2_6,.int .u32 a0_9,.int .u32 a2_8,.bool false] 44)).alloc (.cells #[.int .i64 1,.int .u32 a0_1,.int .u32 4294967295,.int .u8 a0_7,.int .u8 255,.int .u8 a0_8,.int .u8 255,.int .u32 a0_9,.int .u32 4294967295,.bool false] 44):=⟨_,rfl⟩
       obtain⟨Rb,hRb⟩:∃ Rb,Rb=w3.heap.size:=⟨_,rfl⟩
       have NY:=Lib.hid (show Nb w3 y by rw[hy];exact (Nb.rfl.al _).al _)
       have BR:=Lib.hid (show Blk y Rb #[.int .i64 1,.int .u32 a0_1,.int .u32 a2_2,.int .u8 a0_7,.int .u8 a2_4,.int .u8 a0_8,.int .u8 a2_6,.int .u32 a0_9,.int .u32 a2_8,.bool false] 44 by rw[hy,hRb];exact (Blk.new w3 _ _).nb (Nb.rfl.al _))
       have BW:=Lib.hid (show Blk y (Rb+1) #[.int .i64 1,.int .u32 a0_1,.int .u32 4294967295,.int .u8 a0_7,.int .u8 255,.int .u8 a0_8,.int .u8 255,.int .u32 a0_9,.int .u32 4294967295,.bool false] 44 by
        rw[hy,hRb]
        have:=Blk.new (w3.alloc (.cells #[.int .i64 1,.int .u32 a0_1,.int .u32 a2_2,.int .u8 a0_7,.int .u8 a2_4,.int .u8 a0_8,.int .u8 a2_6,.int .u32 a0_9,.int .u32 a2_8,.bool false] 44)) #[.int .i64 1,.int .u32 a0_1,.int .u32 4294967295,.int .u8 a0_7,.int .u8 255,.int .u8 a0_8,.int .u8 255,.int .u32 a0_9,.int .u32 4294967295,.bool false] 44
        rwa[World.size_alloc] at this)
       go_wp2_with fail
       rw[<- hy,<- hRb]
       clear hy hRb c0 c1 c2 c3 c4 c5 c6 c7 c8 c9 c10 g0 g1 g2 g3 g4 g5 g6 g7 g8 g9 g10 m0 m1 m2 m3 m4 m5 m6 m7 m8 m9
       refine (Q1.out _ (N3.out.tr NY.out)).mono ?_
       rintro e w4 ⟨rfl,n4⟩
       have N4:=Lib.hid (NY.out.tr n4)
       obtain⟨d0,d1,d2,d3,d4,d5,d6,d7,d8,d9⟩:=(BW.out.nb n4).r10
       obtain⟨g0,g1,g2,g3,g4,g5,g6,g7,g8,g9,g10⟩:=(G3.out.nb N4.out).c11
       go_wp2_with fail
       refine (Q2.out _ (N3.out.tr N4.out)).mono ?_
       rintro e w5 ⟨rfl,n5⟩
       have N5:=Lib.hid (N4.out.tr n5)
       clear d0 d1 d2 d3 d4 d5 d6 d7 d8 d9 g0 g1 g2 g3 g4 g5 g6 g7 g8 g9 g10
       obtain⟨d0,d1,d2,d3,d4,d5,d6,d7,d8,d9⟩:=(BR.out.nb (n4.tr n5)).r10
       obtain⟨g0,g1,g2,g3,g4,g5,g6,g7,g8,g9,g10⟩:=(G3.out.nb N5.out).c11
       go_wp2_with fail
       refine (Q4.out rfl _ (N3.out.tr N5.out)).mono ?_
       rintro e w6 ⟨rfl,n6⟩
       go_wp2
       go_ret
       exact⟨rfl,(N3.out.tr N5.out).tr n6⟩
 ·have hkn':kn=2:=hkn
  clear hkn
  subst hkn'
  go_enter Tryd.func7,Tryd.ntmps7
  go_wp2_with fail
  rw[<- hz0,<- hB]
  clear hz0 hB
  refine (AL.out _ NZ.out).mono ?_
  rintro e w1 ⟨rfl,n1⟩
  have N1:=Lib.hid (NZ.out.tr n1)
  have F1:=Lib.hid (BF.out.nb n1)
  have G1:=Lib.hid (BG.out.nb n1)
  have M1:=Lib.hid (BM.out.nb n1)
  obtain⟨c0,c1,c2,c3,c4,c5,c6,c7,c8,c9,c10⟩:=F1.out.c11
  clear n1
  go_wp2_with fail
  refine (CF.out _ N1.out).mono ?_
  rintro e w2 ⟨rfl,n2⟩
  have N2:=Lib.hid (N1.out.tr n2)
  have F2:=Lib.hid (F1.out.nb n2)
  have G2:=Lib.hid (G1.out.nb n2)
  have M2:=Lib.hid (M1.out.nb n2)
  obtain⟨g0,g1,g2,g3,g4,g5,g6,g7,g8,g9,g10⟩:=G2.out.c11
  clear n2 c0 c1 c2 c3 c4 c5 c6 c7 c8 c9 c10
  go_wp2_with fail
  refine (CG.out _ N2.out).mono ?_
  rintro e w3 ⟨rfl,n3⟩
  have N3:=Lib.hid (N2.out.tr n3)
  have F3:=Lib.hid (F2.out.nb n3)
  have G3:=Lib.hid (G2.out.nb n3)
  have M3:=Lib.hid (M2.out.nb n3)
  have hB3:B < w3.heap.size:=F3.out.lt
  have hG3:B+1 < w3.heap.size:=G3.out.lt
  have hM3:B+1+1 < w3.heap.size:=M3.out.lt
  clear n3 g0 g1 g2 g3 g4 g5 g6 g7 g8 g9 g10
  obtain⟨c0,c1,c2,c3,c4,c5,c6,c7,c8,c9,c10⟩:=F3.out.c11
  obtain⟨g0,g1,g2,g3,g4,g5,g6,g7,g8,g9,g10⟩:=G3.out.c11
  obtain⟨m0,m1,m2,m3,m4,m5,m6,m7,m8,m9⟩:=M3.out.r10
  cases s0
  ·simp only[Bool.false_and,Bool.true_and] at f2
   have Q2:=Lib.hid f2
   clear f2
   obtain⟨y,hy⟩:∃ y,y=(w3.alloc (.cells #[.int .i64 2,.int .u32 a0_1,.int .u32 a2_2,.int .u8 a0_7,.int .u8 a2_4,.int .u8 a0_8,.int .u8 a2_6,.int .u32 a0_9,.int .u32 a2_8,.bool false] 44)).alloc (.cells #[.int .i64 2,.int .u32 a0_1,.int .u32 4294967295,.int .u8 a0_7,.int .u8 255,.int .u8 a0_8,.int .u8 255,.int .u32 a0_9,.int .u32 4294967295,.bool false] 44):=⟨_,rfl⟩
   obtain⟨Rb,hRb⟩:∃ Rb,Rb=w3.heap.size:=⟨_,rfl⟩
   have NY:=Lib.hid (show Nb w3 y by rw[hy];exact (Nb.rfl.al _).al _)
   have BR:=Lib.hid (show Blk y Rb #[.int .i64 2,.int .u32 a0_1,.int .u32 a2_2,.int .u8 a0_7,.int .u8 a2_4,.int .u8 a0_8,.int .u8 a2_6,.int .u32 a0_9,.int .u32 a2_8,.bool false] 44 by rw[hy,hRb];exact (Blk.new w3 _ _).nb (Nb.rfl.al _))
   have BW:=Lib.hid (show Blk y (Rb+1) #[.int .i64 2,.int .u32 a0_1,.int .u32 4294967295,.int .u8 a0_7,.int .u8 255,.int .u8 a0_8,.int .u8 255,.int .u32 a0_9,.int .u32 4294967295,.bool false] 44 by
    rw[hy,hRb]
    have:=Blk.new (w3.alloc (.cells #[.int .i64 2,.int .u32 a0_1,.int .u32 a2_2,.int .u8 a0_7,.int .u8 a2_4,.int .u8 a0_8,.int .u8 a2_6,.int .u32 a0_9,.int .u32 a2_8,.bool false] 44)) #[.int .i64 2,.int .u32 a0_1,.int .u32 4294967295,.int .u8 a0_7,.int .u8 255,.int .u8 a0_8,.int .u8 255,.int .u32 a0_9,.int .u32 4294967295,.bool false] 44
    rwa[World.size_alloc] at this)
   go_wp2_with fail
   rw[<- hy,<- hRb]
   clear hy hRb c0 c1 c2 c3 c4 c5 c6 c7 c8 c9 c10 g0 g1 g2 g3 g4 g5 g6 g7 g8 g9 g10 m0 m1 m2 m3 m4 m5 m6 m7 m8 m9
   refine (Q1.out _ (N3.out.tr NY.out)).mono ?_
   rintro e w4 ⟨rfl,n4⟩
   have N4:=Lib.hid (NY.out.tr n4)
   obtain⟨d0,d1,d2,d3,d4,d5,d6,d7,d8,d9⟩:=(BW.out.nb n4).r10
   obtain⟨g0,g1,g2,g3,g4,g5,g6,g7,g8,g9,g10⟩:=(G3.out.nb N4.out).c11
   go_wp2_with fail
   refine (Q2.out _ (N3.out.tr N4.out)).mono ?_
   rintro e w5 ⟨rfl,n5⟩
   have N5:=Lib.hid (N4.out.tr n5)
   clear d0 d1 d2 d3 d4 d5 d6 d7 d8 d9 g0 g1 g2 g3 g4 g5 g6 g7 g8 g9 g10
   go_wp2
   go_ret
   exact⟨rfl,N3.out.tr N5.out⟩
  ·skip
   cases s1
   ·simp only[Bool.false_and,Bool.true_and] at f2
    have Q2:=Lib.hid f2
    clear f2
    obtain⟨y,hy⟩:∃ y,y=(w3.alloc (.cells #[.int .i64 2,.int .u32 a0_1,.int .u32 a2_2,.int .u8 a0_7,.int .u8 a2_4,.int .u8 a0_8,.int .u8 a2_6,.int .u32 a0_9,.int .u32 a2_8,.bool false] 44)).alloc (.cells #[.int .i64 2,.int .u32 a0_1,.int .u32 4294967295,.int .u8 a0_7,.int .u8 255,.int .u8 a0_8,.int .u8 255,.int .u32 a0_9,.int .u32 4294967295,.bool false] 44):=⟨_,rfl⟩
    obtain⟨Rb,hRb⟩:∃ Rb,Rb=w3.heap.size:=⟨_,rfl⟩
    have NY:=Lib.hid (show Nb w3 y by rw[hy];exact (Nb.rfl.al _).al _)
    have BR:=Lib.hid (show Blk y Rb #[.int .i64 2,.int .u32 a0_1,.int .u32 a2_2,.int .u8 a0_7,.int .u8 a2_4,.int .u8 a0_8,.int .u8 a2_6,.int .u32 a0_9,.int .u32 a2_8,.bool false] 44 by rw[hy,hRb];exact (Blk.new w3 _ _).nb (Nb.rfl.al _))
    have BW:=Lib.hid (show Blk y (Rb+1) #[.int .i64 2,.int .u32 a0_1,.int .u32 4294967295,.int .u8 a0_7,.int .u8 255,.int .u8 a0_8,.int .u8 255,.int .u32 a0_9,.int .u32 4294967295,.bool false] 44 by
     rw[hy,hRb]
     have:=Blk.new (w3.alloc (.cells #[.int .i64 2,.int .u32 a0_1,.int .u32 a2_2,.int .u8 a0_7,.int .u8 a2_4,.int .u8 a0_8,.int .u8 a2_6,.int .u32 a0_9,.int .u32 a2_8,.bool false] 44)) #[.int .i64 2,.int .u32 a0_1,.int .u32 4294967295,.int .u8 a0_7,.int .u8 255,.int .u8 a0_8,.int .u8 255,.int .u32 a0_9,.int .u32 4294967295,.bool false] 44
     rwa[World.size_alloc] at this)
    go_wp2_with fail
    rw[<- hy,<- hRb]
    clear hy hRb c0 c1 c2 c3 c4 c5 c6 c7 c8 c9 c10 g0 g1 g2 g3 g4 g5 g6 g7 g8 g9 g10 m0 m1 m2 m3 m4 m5 m6 m7 m8 m9
    refine (Q1.out _ (N3.out.tr NY.out)).mono ?_
    rintro e w4 ⟨rfl,n4⟩
    have N4:=Lib.hid (NY.out.tr n4)
    obtain⟨d0,d1,d2,d3,d4,d5,d6,d7,d8,d9⟩:=(BW.out.nb n4).r10
    obtain⟨g0,g1,g2,g3,g4,g5,g6,g7,g8,g9,g10⟩:=(G3.out.nb N4.out).c11
    go_wp2_with fail
    refine (Q2.out _ (N3.out.tr N4.out)).mono ?_
    rintro e w5 ⟨rfl,n5⟩
    have N5:=Lib.hid (N4.out.tr n5)
    clear d0 d1 d2 d3 d4 d5 d6 d7 d8 d9 g0 g1 g2 g3 g4 g5 g6 g7 g8 g9 g10
    go_wp2
    go_ret
    exact⟨rfl,N3.out.tr N5.out⟩
   ·skip
    cases s2
    ·simp only[Bool.false_and,Bool.true_and] at f2
     have Q2:=Lib.hid f2
     clear f2
     obtain⟨y,hy⟩:∃ y,y=(w3.alloc (.cells #[.int .i64 2,.int .u32 a0_1,.int .u32 a2_2,.int .u8 a0_7,.int .u8 a2_4,.int .u8 a0_8,.int .u8 a2_6,.int .u32 a0_9,.int .u32 a2_8,.bool false] 44)).alloc (.cells #[.int .i64 2,.int .u32 a0_1,.int .u32 4294967295,.int .u8 a0_7,.int .u8 255,.int .u8 a0_8,.int .u8 255,.int .u32 a0_9,.int .u32 4294967295,.bool false] 44):=⟨_,rfl⟩
     obtain⟨Rb,hRb⟩:∃ Rb,Rb=w3.heap.size:=⟨_,rfl⟩
     have NY:=Lib.hid (show Nb w3 y by rw[hy];exact (Nb.rfl.al _).al _)
     have BR:=Lib.hid (show Blk y Rb #[.int .i64 2,.int .u32 a0_1,.int .u32 a2_2,.int .u8 a0_7,.int .u8 a2_4,.int .u8 a0_8,.int .u8 a2_6,.int .u32 a0_9,.int .u32 a2_8,.bool false] 44 by rw[hy,hRb];exact (Blk.new w3 _ _).nb (Nb.rfl.al _))
     have BW:=Lib.hid (show Blk y (Rb+1) #[.int .i64 2,.int .u32 a0_1,.int .u32 4294967295,.int .u8 a0_7,.int .u8 255,.int .u8 a0_8,.int .u8 255,.int .u32 a0_9,.int .u32 4294967295,.bool false] 44 by
      rw[hy,hRb]
      have:=Blk.new (w3.alloc (.cells #[.int .i64 2,.int .u32 a0_1,.int .u32 a2_2,.int .u8 a0_7,.int .u8 a2_4,.int .u8 a0_8,.int .u8 a2_6,.int .u32 a0_9,.int .u32 a2_8,.bool false] 44)) #[.int .i64 2,.int .u32 a0_1,.int .u32 4294967295,.int .u8 a0_7,.int .u8 255,.int .u8 a0_8,.int .u8 255,.int .u32 a0_9,.int .u32 4294967295,.bool false] 44
      rwa[World.size_alloc] at this)
     go_wp2_with fail
     rw[<- hy,<- hRb]
     clear hy hRb c0 c1 c2 c3 c4 c5 c6 c7 c8 c9 c10 g0 g1 g2 g3 g4 g5 g6 g7 g8 g9 g10 m0 m1 m2 m3 m4 m5 m6 m7 m8 m9
     refine (Q1.out _ (N3.out.tr NY.out)).mono ?_
     rintro e w4 ⟨rfl,n4⟩
     have N4:=Lib.hid (NY.out.tr n4)
     obtain⟨d0,d1,d2,d3,d4,d5,d6,d7,d8,d9⟩:=(BW.out.nb n4).r10
     obtain⟨g0,g1,g2,g3,g4,g5,g6,g7,g8,g9,g10⟩:=(G3.out.nb N4.out).c11
     go_wp2_with fail
     refine (Q2.out _ (N3.out.tr N4.out)).mono ?_
     rintro e w5 ⟨rfl,n5⟩
     have N5:=Lib.hid (N4.out.tr n5)
     clear d0 d1 d2 d3 d4 d5 d6 d7 d8 d9 g0 g1 g2 g3 g4 g5 g6 g7 g8 g9 g10
     go_wp2
     go_ret
     exact⟨rfl,N3.out.tr N5.out⟩
    ·skip
     cases s3
     ·simp only[Bool.false_and,Bool.true_and] at f2
      have Q2:=Lib.hid f2
      clear f2
      obtain⟨y,hy⟩:∃ y,y=(w3.alloc (.cells #[.int .i64 2,.int .u32 a0_1,.int .u32 a2_2,.int .u8 a0_7,.int .u8 a2_4,.int .u8 a0_8,.int .u8 a2_6,.int .u32 a0_9,.int .u32 a2_8,.bool false] 44)).alloc (.cells #[.int .i64 2,.int .u32 a0_1,.int .u32 4294967295,.int .u8 a0_7,.int .u8 255,.int .u8 a0_8,.int .u8 255,.int .u32 a0_9,.int .u32 4294967295,.bool false] 44):=⟨_,rfl⟩
      obtain⟨Rb,hRb⟩:∃ Rb,Rb=w3.heap.size:=⟨_,rfl⟩
      have NY:=Lib.hid (show Nb w3 y by rw[hy];exact (Nb.rfl.al _).al _)
      have BR:=Lib.hid (show Blk y Rb #[.int .i64 2,.int .u32 a0_1,.int .u32 a2_2,.int .u8 a0_7,.int .u8 a2_4,.int .u8 a0_8,.int .u8 a2_6,.int .u32 a0_9,.int .u32 a2_8,.bool false] 44 by rw[hy,hRb];exact (Blk.new w3 _ _).nb (Nb.rfl.al _))
      have BW:=Lib.hid (show Blk y (Rb+1) #[.int .i64 2,.int .u32 a0_1,.int .u32 4294967295,.int .u8 a0_7,.int .u8 255,.int .u8 a0_8,.int .u8 255,.int .u32 a0_9,.int .u32 4294967295,.bool false] 44 by
       rw[hy,hRb]
       have:=Blk.new (w3.alloc (.cells #[.int .i64 2,.int .u32 a0_1,.int .u32 a2_2,.int .u8 a0_7,.int .u8 a2_4,.int .u8 a0_8,.int .u8 a2_6,.int .u32 a0_9,.int .u32 a2_8,.bool false] 44)) #[.int .i64 2,.int .u32 a0_1,.int .u32 4294967295,.int .u8 a0_7,.int .u8 255,.int .u8 a0_8,.int .u8 255,.int .u32 a0_9,.int .u32 4294967295,.bool false] 44
       rwa[World.size_alloc] at this)
      go_wp2_with fail
      rw[<- hy,<- hRb]
      clear hy hRb c0 c1 c2 c3 c4 c5 c6 c7 c8 c9 c10 g0 g1 g2 g3 g4 g5 g6 g7 g8 g9 g10 m0 m1 m2 m3 m4 m5 m6 m7 m8 m9
      refine (Q1.out _ (N3.out.tr NY.out)).mono ?_
      rintro e w4 ⟨rfl,n4⟩
      have N4:=Lib.hid (NY.out.tr n4)
      obtain⟨d0,d1,d2,d3,d4,d5,d6,d7,d8,d9⟩:=(BW.out.nb n4).r10
      obtain⟨g0,g1,g2,g3,g4,g5,g6,g7,g8,g9,g10⟩:=(G3.out.nb N4.out).c11
      go_wp2_with fail
      refine (Q2.out _ (N3.out.tr N4.out)).mono ?_
      rintro e w5 ⟨rfl,n5⟩
      have N5:=Lib.hid (N4.out.tr n5)
      clear d0 d1 d2 d3 d4 d5 d6 d7 d8 d9 g0 g1 g2 g3 g4 g5 g6 g7 g8 g9 g10
      go_wp2
      go_ret
      exact⟨rfl,N3.out.tr N5.out⟩
     ·skip
      cases s4
      ·simp only[Bool.false_and,Bool.true_and] at f2
       have Q2:=Lib.hid f2
       clear f2
       obtain⟨y,hy⟩:∃ y,y=(w3.alloc (.cells #[.int .i64 2,.int .u32 a0_1,.int .u32 a2_2,.int .u8 a0_7,.int .u8 a2_4,.int .u8 a0_8,.int .u8 a2_6,.int .u32 a0_9,.int .u32 a2_8,.bool false] 44)).alloc (.cells #[.int .i64 2,.int .u32 a0_1,.int .u32 4294967295,.int .u8 a0_7,.int .u8 255,.int .u8 a0_8,.int .u8 255,.int .u32 a0_9,.int .u32 4294967295,.bool false] 44):=⟨_,rfl⟩
       obtain⟨Rb,hRb⟩:∃ Rb,Rb=w3.heap.size:=⟨_,rfl⟩
       have NY:=Lib.hid (show Nb w3 y by rw[hy];exact (Nb.rfl.al _).al _)
       have BR:=Lib.hid (show Blk y Rb #[.int .i64 2,.int .u32 a0_1,.int .u32 a2_2,.int .u8 a0_7,.int .u8 a2_4,.int .u8 a0_8,.int .u8 a2_6,.int .u32 a0_9,.int .u32 a2_8,.bool false] 44 by rw[hy,hRb];exact (Blk.new w3 _ _).nb (Nb.rfl.al _))
       have BW:=Lib.hid (show Blk y (Rb+1) #[.int .i64 2,.int .u32 a0_1,.int .u32 4294967295,.int .u8 a0_7,.int .u8 255,.int .u8 a0_8,.int .u8 255,.int .u32 a0_9,.int .u32 4294967295,.bool false] 44 by
        rw[hy,hRb]
        have:=Blk.new (w3.alloc (.cells #[.int .i64 2,.int .u32 a0_1,.int .u32 a2_2,.int .u8 a0_7,.int .u8 a2_4,.int .u8 a0_8,.int .u8 a2_6,.int .u32 a0_9,.int .u32 a2_8,.bool false] 44)) #[.int .i64 2,.int .u32 a0_1,.int .u32 4294967295,.int .u8 a0_7,.int .u8 255,.int .u8 a0_8,.int .u8 255,.int .u32 a0_9,.int .u32 4294967295,.bool false] 44
        rwa[World.size_alloc] at this)
       go_wp2_with fail
       rw[<- hy,<- hRb]
       clear hy hRb c0 c1 c2 c3 c4 c5 c6 c7 c8 c9 c10 g0 g1 g2 g3 g4 g5 g6 g7 g8 g9 g10 m0 m1 m2 m3 m4 m5 m6 m7 m8 m9
       refine (Q1.out _ (N3.out.tr NY.out)).mono ?_
       rintro e w4 ⟨rfl,n4⟩
       have N4:=Lib.hid (NY.out.tr n4)
       obtain⟨d0,d1,d2,d3,d4,d5,d6,d7,d8,d9⟩:=(BW.out.nb n4).r10
       obtain⟨g0,g1,g2,g3,g4,g5,g6,g7,g8,g9,g10⟩:=(G3.out.nb N4.out).c11
       go_wp2_with fail
       refine (Q2.out _ (N3.out.tr N4.out)).mono ?_
       rintro e w5 ⟨rfl,n5⟩
       have N5:=Lib.hid (N4.out.tr n5)
       clear d0 d1 d2 d3 d4 d5 d6 d7 d8 d9 g0 g1 g2 g3 g4 g5 g6 g7 g8 g9 g10
       go_wp2
       go_ret
       exact⟨rfl,N3.out.tr N5.out⟩
      ·simp only[Bool.false_and,Bool.true_and] at f2
       have Q2:=Lib.hid f2
       clear f2
       obtain⟨y,hy⟩:∃ y,y=(w3.alloc (.cells #[.int .i64 2,.int .u32 a0_1,.int .u32 a2_2,.int .u8 a0_7,.int .u8 a2_4,.int .u8 a0_8,.int .u8 a2_6,.int .u32 a0_9,.int .u32 a2_8,.bool false] 44)).alloc (.cells #[.int .i64 2,.int .u32 a0_1,.int .u32 4294967295,.int .u8 a0_7,.int .u8 255,.int .u8 a0_8,.int .u8 255,.int .u32 a0_9,.int .u32 4294967295,.bool false] 44):=⟨_,rfl⟩
       obtain⟨Rb,hRb⟩:∃ Rb,Rb=w3.heap.size:=⟨_,rfl⟩
       have NY:=Lib.hid (show Nb w3 y by rw[hy];exact (Nb.rfl.al _).al _)
       have BR:=Lib.hid (show Blk y Rb #[.int .i64 2,.int .u32 a0_1,.int .u32 a2_2,.int .u8 a0_7,.int .u8 a2_4,.int .u8 a0_8,.int .u8 a2_6,.int .u32 a0_9,.int .u32 a2_8,.bool false] 44 by rw[hy,hRb];exact (Blk.new w3 _ _).nb (Nb.rfl.al _))
       have BW:=Lib.hid (show Blk y (Rb+1) #[.int .i64 2,.int .u32 a0_1,.int .u32 4294967295,.int .u8 a0_7,.int .u8 255,.int .u8 a0_8,.int .u8 255,.int .u32 a0_9,.int .u32 4294967295,.bool false] 44 by
        rw[hy,hRb]
        have:=Blk.new (w3.alloc (.cells #[.int .i64 2,.int .u32 a0_1,.int .u32 a2_2,.int .u8 a0_7,.int .u8 a2_4,.int .u8 a0_8,.int .u8 a2_6,.int .u32 a0_9,.int .u32 a2_8,.bool false] 44)) #[.int .i64 2,.int .u32 a0_1,.int .u32 4294967295,.int .u8 a0_7,.int .u8 255,.int .u8 a0_8,.int .u8 255,.int .u32 a0_9,.int .u32 4294967295,.bool false] 44
        rwa[World.size_alloc] at this)
       go_wp2_with fail
       rw[<- hy,<- hRb]
       clear hy hRb c0 c1 c2 c3 c4 c5 c6 c7 c8 c9 c10 g0 g1 g2 g3 g4 g5 g6 g7 g8 g9 g10 m0 m1 m2 m3 m4 m5 m6 m7 m8 m9
       refine (Q1.out _ (N3.out.tr NY.out)).mono ?_
       rintro e w4 ⟨rfl,n4⟩
       have N4:=Lib.hid (NY.out.tr n4)
       obtain⟨d0,d1,d2,d3,d4,d5,d6,d7,d8,d9⟩:=(BW.out.nb n4).r10
       obtain⟨g0,g1,g2,g3,g4,g5,g6,g7,g8,g9,g10⟩:=(G3.out.nb N4.out).c11
       go_wp2_with fail
       refine (Q2.out _ (N3.out.tr N4.out)).mono ?_
       rintro e w5 ⟨rfl,n5⟩
       have N5:=Lib.hid (N4.out.tr n5)
       clear d0 d1 d2 d3 d4 d5 d6 d7 d8 d9 g0 g1 g2 g3 g4 g5 g6 g7 g8 g9 g10
       obtain⟨d0,d1,d2,d3,d4,d5,d6,d7,d8,d9⟩:=(BR.out.nb (n4.tr n5)).r10
       obtain⟨g0,g1,g2,g3,g4,g5,g6,g7,g8,g9,g10⟩:=(G3.out.nb N5.out).c11
       go_wp2_with fail
       refine (Q4.out rfl _ (N3.out.tr N5.out)).mono ?_
       rintro e w6 ⟨rfl,n6⟩
       go_wp2
       go_ret
       exact⟨rfl,(N3.out.tr N5.out).tr n6⟩
 ·have hkn':kn=4:=hkn
  clear hkn
  subst hkn'
  go_enter Tryd.func7,Tryd.ntmps7
  go_wp2_with fail
  rw[<- hz0,<- hB]
  clear hz0 hB
  refine (AL.out _ NZ.out).mono ?_
  rintro e w1 ⟨rfl,n1⟩
  have N1:=Lib.hid (NZ.out.tr n1)
  have F1:=Lib.hid (BF.out.nb n1)
  have G1:=Lib.hid (BG.out.nb n1)
  have M1:=Lib.hid (BM.out.nb n1)
  obtain⟨c0,c1,c2,c3,c4,c5,c6,c7,c8,c9,c10⟩:=F1.out.c11
  clear n1
  go_wp2_with fail
  refine (CF.out _ N1.out).mono ?_
  rintro e w2 ⟨rfl,n2⟩
  have N2:=Lib.hid (N1.out.tr n2)
  have F2:=Lib.hid (F1.out.nb n2)
  have G2:=Lib.hid (G1.out.nb n2)
  have M2:=Lib.hid (M1.out.nb n2)
  obtain⟨g0,g1,g2,g3,g4,g5,g6,g7,g8,g9,g10⟩:=G2.out.c11
  clear n2 c0 c1 c2 c3 c4 c5 c6 c7 c8 c9 c10
  go_wp2_with fail
  refine (CG.out _ N2.out).mono ?_
  rintro e w3 ⟨rfl,n3⟩
  have N3:=Lib.hid (N2.out.tr n3)
  have F3:=Lib.hid (F2.out.nb n3)
  have G3:=Lib.hid (G2.out.nb n3)
  have M3:=Lib.hid (M2.out.nb n3)
  have hB3:B < w3.heap.size:=F3.out.lt
  have hG3:B+1 < w3.heap.size:=G3.out.lt
  have hM3:B+1+1 < w3.heap.size:=M3.out.lt
  clear n3 g0 g1 g2 g3 g4 g5 g6 g7 g8 g9 g10
  obtain⟨c0,c1,c2,c3,c4,c5,c6,c7,c8,c9,c10⟩:=F3.out.c11
  obtain⟨g0,g1,g2,g3,g4,g5,g6,g7,g8,g9,g10⟩:=G3.out.c11
  obtain⟨m0,m1,m2,m3,m4,m5,m6,m7,m8,m9⟩:=M3.out.r10
  cases s0
  ·simp only[Bool.false_and,Bool.true_and] at f2
   have Q2:=Lib.hid f2
   clear f2
   obtain⟨y,hy⟩:∃ y,y=(w3.alloc (.cells #[.int .i64 4,.int .u32 a0_1,.int .u32 a2_2,.int .u8 a0_7,.int .u8 a2_4,.int .u8 a0_8,.int .u8 a2_6,.int .u32 a0_9,.int .u32 a2_8,.bool false] 44)).alloc (.cells #[.int .i64 4,.int .u32 a0_1,.int .u32 4294967295,.int .u8 a0_7,.int .u8 255,.int .u8 a0_8,.int .u8 255,.int .u32 a0_9,.int .u32 4294967295,.bool false] 44):=⟨_,rfl⟩
   obtain⟨Rb,hRb⟩:∃ Rb,Rb=w3.heap.size:=⟨_,rfl⟩
   have NY:=Lib.hid (show Nb w3 y by rw[hy];exact (Nb.rfl.al _).al _)
   have BR:=Lib.hid (show Blk y Rb #[.int .i64 4,.int .u32 a0_1,.int .u32 a2_2,.int .u8 a0_7,.int .u8 a2_4,.int .u8 a0_8,.int .u8 a2_6,.int .u32 a0_9,.int .u32 a2_8,.bool false] 44 by rw[hy,hRb];exact (Blk.new w3 _ _).nb (Nb.rfl.al _))
   have BW:=Lib.hid (show Blk y (Rb+1) #[.int .i64 4,.int .u32 a0_1,.int .u32 4294967295,.int .u8 a0_7,.int .u8 255,.int .u8 a0_8,.int .u8 255,.int .u32 a0_9,.int .u32 4294967295,.bool false] 44 by
    rw[hy,hRb]
    have:=Blk.new (w3.alloc (.cells #[.int .i64 4,.int .u32 a0_1,.int .u32 a2_2,.int .u8 a0_7,.int .u8 a2_4,.int .u8 a0_8,.int .u8 a2_6,.int .u32 a0_9,.int .u32 a2_8,.bool false] 44)) #[.int .i64 4,.int .u32 a0_1,.int .u32 4294967295,.int .u8 a0_7,.int .u8 255,.int .u8 a0_8,.int .u8 255,.int .u32 a0_9,.int .u32 4294967295,.bool false] 44
    rwa[World.size_alloc] at this)
   go_wp2_with fail
   rw[<- hy,<- hRb]
   clear hy hRb c0 c1 c2 c3 c4 c5 c6 c7 c8 c9 c10 g0 g1 g2 g3 g4 g5 g6 g7 g8 g9 g10 m0 m1 m2 m3 m4 m5 m6 m7 m8 m9
   refine (Q1.out _ (N3.out.tr NY.out)).mono ?_
   rintro e w4 ⟨rfl,n4⟩
   have N4:=Lib.hid (NY.out.tr n4)
   obtain⟨d0,d1,d2,d3,d4,d5,d6,d7,d8,d9⟩:=(BW.out.nb n4).r10
   obtain⟨g0,g1,g2,g3,g4,g5,g6,g7,g8,g9,g10⟩:=(G3.out.nb N4.out).c11
   go_wp2_with fail
   refine (Q2.out _ (N3.out.tr N4.out)).mono ?_
   rintro e w5 ⟨rfl,n5⟩
   have N5:=Lib.hid (N4.out.tr n5)
   clear d0 d1 d2 d3 d4 d5 d6 d7 d8 d9 g0 g1 g2 g3 g4 g5 g6 g7 g8 g9 g10
   go_wp2
   go_ret
   exact⟨rfl,N3.out.tr N5.out⟩
  ·skip
   cases s1
   ·simp only[Bool.false_and,Bool.true_and] at f2
    have Q2:=Lib.hid f2
    clear f2
    obtain⟨y,hy⟩:∃ y,y=(w3.alloc (.cells #[.int .i64 4,.int .u32 a0_1,.int .u32 a2_2,.int .u8 a0_7,.int .u8 a2_4,.int .u8 a0_8,.int .u8 a2_6,.int .u32 a0_9,.int .u32 a2_8,.bool false] 44)).alloc (.cells #[.int .i64 4,.int .u32 a0_1,.int .u32 4294967295,.int .u8 a0_7,.int .u8 255,.int .u8 a0_8,.int .u8 255,.int .u32 a0_9,.int .u32 4294967295,.bool false] 44):=⟨_,rfl⟩
    obtain⟨Rb,hRb⟩:∃ Rb,Rb=w3.heap.size:=⟨_,rfl⟩
    have NY:=Lib.hid (show Nb w3 y by rw[hy];exact (Nb.rfl.al _).al _)
    have BR:=Lib.hid (show Blk y Rb #[.int .i64 4,.int .u32 a0_1,.int .u32 a2_2,.int .u8 a0_7,.int .u8 a2_4,.int .u8 a0_8,.int .u8 a2_6,.int .u32 a0_9,.int .u32 a2_8,.bool false] 44 by rw[hy,hRb];exact (Blk.new w3 _ _).nb (Nb.rfl.al _))
    have BW:=Lib.hid (show Blk y (Rb+1) #[.int .i64 4,.int .u32 a0_1,.int .u32 4294967295,.int .u8 a0_7,.int .u8 255,.int .u8 a0_8,.int .u8 255,.int .u32 a0_9,.int .u32 4294967295,.bool false] 44 by
     rw[hy,hRb]
     have:=Blk.new (w3.alloc (.cells #[.int .i64 4,.int .u32 a0_1,.int .u32 a2_2,.int .u8 a0_7,.int .u8 a2_4,.int .u8 a0_8,.int .u8 a2_6,.int .u32 a0_9,.int .u32 a2_8,.bool false] 44)) #[.int .i64 4,.int .u32 a0_1,.int .u32 4294967295,.int .u8 a0_7,.int .u8 255,.int .u8 a0_8,.int .u8 255,.int .u32 a0_9,.int .u32 4294967295,.bool false] 44
     rwa[World.size_alloc] at this)
    go_wp2_with fail
    rw[<- hy,<- hRb]
    clear hy hRb c0 c1 c2 c3 c4 c5 c6 c7 c8 c9 c10 g0 g1 g2 g3 g4 g5 g6 g7 g8 g9 g10 m0 m1 m2 m3 m4 m5 m6 m7 m8 m9
    refine (Q1.out _ (N3.out.tr NY.out)).mono ?_
    rintro e w4 ⟨rfl,n4⟩
    have N4:=Lib.hid (NY.out.tr n4)
    obtain⟨d0,d1,d2,d3,d4,d5,d6,d7,d8,d9⟩:=(BW.out.nb n4).r10
    obtain⟨g0,g1,g2,g3,g4,g5,g6,g7,g8,g9,g10⟩:=(G3.out.nb N4.out).c11
    go_wp2_with fail
    refine (Q2.out _ (N3.out.tr N4.out)).mono ?_
    rintro e w5 ⟨rfl,n5⟩
    have N5:=Lib.hid (N4.out.tr n5)
    clear d0 d1 d2 d3 d4 d5 d6 d7 d8 d9 g0 g1 g2 g3 g4 g5 g6 g7 g8 g9 g10
    go_wp2
    go_ret
    exact⟨rfl,N3.out.tr N5.out⟩
   ·skip
    cases s2
    ·simp only[Bool.false_and,Bool.true_and] at f2
     have Q2:=Lib.hid f2
     clear f2
     obtain⟨y,hy⟩:∃ y,y=(w3.alloc (.cells #[.int .i64 4,.int .u32 a0_1,.int .u32 a2_2,.int .u8 a0_7,.int .u8 a2_4,.int .u8 a0_8,.int .u8 a2_6,.int .u32 a0_9,.int .u32 a2_8,.bool false] 44)).alloc (.cells #[.int .i64 4,.int .u32 a0_1,.int .u32 4294967295,.int .u8 a0_7,.int .u8 255,.int .u8 a0_8,.int .u8 255,.int .u32 a0_9,.int .u32 4294967295,.bool false] 44):=⟨_,rfl⟩
     obtain⟨Rb,hRb⟩:∃ Rb,Rb=w3.heap.size:=⟨_,rfl⟩
     have NY:=Lib.hid (show Nb w3 y by rw[hy];exact (Nb.rfl.al _).al _)
     have BR:=Lib.hid (show Blk y Rb #[.int .i64 4,.int .u32 a0_1,.int .u32 a2_2,.int .u8 a0_7,.int .u8 a2_4,.int .u8 a0_8,.int .u8 a2_6,.int .u32 a0_9,.int .u32 a2_8,.bool false] 44 by rw[hy,hRb];exact (Blk.new w3 _ _).nb (Nb.rfl.al _))
     have BW:=Lib.hid (show Blk y (Rb+1) #[.int .i64 4,.int .u32 a0_1,.int .u32 4294967295,.int .u8 a0_7,.int .u8 255,.int .u8 a0_8,.int .u8 255,.int .u32 a0_9,.int .u32 4294967295,.bool false] 44 by
      rw[hy,hRb]
      have:=Blk.new (w3.alloc (.cells #[.int .i64 4,.int .u32 a0_1,.int .u32 a2_2,.int .u8 a0_7,.int .u8 a2_4,.int .u8 a0_8,.int .u8 a2_6,.int .u32 a0_9,.int .u32 a2_8,.bool false] 44)) #[.int .i64 4,.int .u32 a0_1,.int .u32 4294967295,.int .u8 a0_7,.int .u8 255,.int .u8 a0_8,.int .u8 255,.int .u32 a0_9,.int .u32 4294967295,.bool false] 44
      rwa[World.size_alloc] at this)
     go_wp2_with fail
     rw[<- hy,<- hRb]
     clear hy hRb c0 c1 c2 c3 c4 c5 c6 c7 c8 c9 c10 g0 g1 g2 g3 g4 g5 g6 g7 g8 g9 g10 m0 m1 m2 m3 m4 m5 m6 m7 m8 m9
     refine (Q1.out _ (N3.out.tr NY.out)).mono ?_
     rintro e w4 ⟨rfl,n4⟩
     have N4:=Lib.hid (NY.out.tr n4)
     obtain⟨d0,d1,d2,d3,d4,d5,d6,d7,d8,d9⟩:=(BW.out.nb n4).r10
     obtain⟨g0,g1,g2,g3,g4,g5,g6,g7,g8,g9,g10⟩:=(G3.out.nb N4.out).c11
     go_wp2_with fail
     refine (Q2.out _ (N3.out.tr N4.out)).mono ?_
     rintro e w5 ⟨rfl,n5⟩
     have N5:=Lib.hid (N4.out.tr n5)
     clear d0 d1 d2 d3 d4 d5 d6 d7 d8 d9 g0 g1 g2 g3 g4 g5 g6 g7 g8 g9 g10
     go_wp2
     go_ret
     exact⟨rfl,N3.out.tr N5.out⟩
    ·skip
     cases s3
     ·simp only[Bool.false_and,Bool.true_and] at f2
      have Q2:=Lib.hid f2
      clear f2
      obtain⟨y,hy⟩:∃ y,y=(w3.alloc (.cells #[.int .i64 4,.int .u32 a0_1,.int .u32 a2_2,.int .u8 a0_7,.int .u8 a2_4,.int .u8 a0_8,.int .u8 a2_6,.int .u32 a0_9,.int .u32 a2_8,.bool false] 44)).alloc (.cells #[.int .i64 4,.int .u32 a0_1,.int .u32 4294967295,.int .u8 a0_7,.int .u8 255,.int .u8 a0_8,.int .u8 255,.int .u32 a0_9,.int .u32 4294967295,.bool false] 44):=⟨_,rfl⟩
      obtain⟨Rb,hRb⟩:∃ Rb,Rb=w3.heap.size:=⟨_,rfl⟩
      have NY:=Lib.hid (show Nb w3 y by rw[hy];exact (Nb.rfl.al _).al _)
      have BR:=Lib.hid (show Blk y Rb #[.int .i64 4,.int .u32 a0_1,.int .u32 a2_2,.int .u8 a0_7,.int .u8 a2_4,.int .u8 a0_8,.int .u8 a2_6,.int .u32 a0_9,.int .u32 a2_8,.bool false] 44 by rw[hy,hRb];exact (Blk.new w3 _ _).nb (Nb.rfl.al _))
      have BW:=Lib.hid (show Blk y (Rb+1) #[.int .i64 4,.int .u32 a0_1,.int .u32 4294967295,.int .u8 a0_7,.int .u8 255,.int .u8 a0_8,.int .u8 255,.int .u32 a0_9,.int .u32 4294967295,.bool false] 44 by
       rw[hy,hRb]
       have:=Blk.new (w3.alloc (.cells #[.int .i64 4,.int .u32 a0_1,.int .u32 a2_2,.int .u8 a0_7,.int .u8 a2_4,.int .u8 a0_8,.int .u8 a2_6,.int .u32 a0_9,.int .u32 a2_8,.bool false] 44)) #[.int .i64 4,.int .u32 a0_1,.int .u32 4294967295,.int .u8 a0_7,.int .u8 255,.int .u8 a0_8,.int .u8 255,.int .u32 a0_9,.int .u32 4294967295,.bool false] 44
       rwa[World.size_alloc] at this)
      go_wp2_with fail
      rw[<- hy,<- hRb]
      clear hy hRb c0 c1 c2 c3 c4 c5 c6 c7 c8 c9 c10 g0 g1 g2 g3 g4 g5 g6 g7 g8 g9 g10 m0 m1 m2 m3 m4 m5 m6 m7 m8 m9
      refine (Q1.out _ (N3.out.tr NY.out)).mono ?_
      rintro e w4 ⟨rfl,n4⟩
      have N4:=Lib.hid (NY.out.tr n4)
      obtain⟨d0,d1,d2,d3,d4,d5,d6,d7,d8,d9⟩:=(BW.out.nb n4).r10
      obtain⟨g0,g1,g2,g3,g4,g5,g6,g7,g8,g9,g10⟩:=(G3.out.nb N4.out).c11
      go_wp2_with fail
      refine (Q2.out _ (N3.out.tr N4.out)).mono ?_
      rintro e w5 ⟨rfl,n5⟩
      have N5:=Lib.hid (N4.out.tr n5)
      clear d0 d1 d2 d3 d4 d5 d6 d7 d8 d9 g0 g1 g2 g3 g4 g5 g6 g7 g8 g9 g10
      go_wp2
      go_ret
      exact⟨rfl,N3.out.tr N5.out⟩
     ·skip
      cases s4
      ·simp only[Bool.false_and,Bool.true_and] at f2
       have Q2:=Lib.hid f2
       clear f2
       obtain⟨y,hy⟩:∃ y,y=(w3.alloc (.cells #[.int .i64 4,.int .u32 a0_1,.int .u32 a2_2,.int .u8 a0_7,.int .u8 a2_4,.int .u8 a0_8,.int .u8 a2_6,.int .u32 a0_9,.int .u32 a2_8,.bool false] 44)).alloc (.cells #[.int .i64 4,.int .u32 a0_1,.int .u32 4294967295,.int .u8 a0_7,.int .u8 255,.int .u8 a0_8,.int .u8 255,.int .u32 a0_9,.int .u32 4294967295,.bool false] 44):=⟨_,rfl⟩
       obtain⟨Rb,hRb⟩:∃ Rb,Rb=w3.heap.size:=⟨_,rfl⟩
       have NY:=Lib.hid (show Nb w3 y by rw[hy];exact (Nb.rfl.al _).al _)
       have BR:=Lib.hid (show Blk y Rb #[.int .i64 4,.int .u32 a0_1,.int .u32 a2_2,.int .u8 a0_7,.int .u8 a2_4,.int .u8 a0_8,.int .u8 a2_6,.int .u32 a0_9,.int .u32 a2_8,.bool false] 44 by rw[hy,hRb];exact (Blk.new w3 _ _).nb (Nb.rfl.al _))
       have BW:=Lib.hid (show Blk y (Rb+1) #[.int .i64 4,.int .u32 a0_1,.int .u32 4294967295,.int .u8 a0_7,.int .u8 255,.int .u8 a0_8,.int .u8 255,.int .u32 a0_9,.int .u32 4294967295,.bool false] 44 by
        rw[hy,hRb]
        have:=Blk.new (w3.alloc (.cells #[.int .i64 4,.int .u32 a0_1,.int .u32 a2_2,.int .u8 a0_7,.int .u8 a2_4,.int .u8 a0_8,.int .u8 a2_6,.int .u32 a0_9,.int .u32 a2_8,.bool false] 44)) #[.int .i64 4,.int .u32 a0_1,.int .u32 4294967295,.int .u8 a0_7,.int .u8 255,.int .u8 a0_8,.int .u8 255,.int .u32 a0_9,.int .u32 4294967295,.bool false] 44
        rwa[World.size_alloc] at this)
       go_wp2_with fail
       rw[<- hy,<- hRb]
       clear hy hRb c0 c1 c2 c3 c4 c5 c6 c7 c8 c9 c10 g0 g1 g2 g3 g4 g5 g6 g7 g8 g9 g10 m0 m1 m2 m3 m4 m5 m6 m7 m8 m9
       refine (Q1.out _ (N3.out.tr NY.out)).mono ?_
       rintro e w4 ⟨rfl,n4⟩
       have N4:=Lib.hid (NY.out.tr n4)
       obtain⟨d0,d1,d2,d3,d4,d5,d6,d7,d8,d9⟩:=(BW.out.nb n4).r10
       obtain⟨g0,g1,g2,g3,g4,g5,g6,g7,g8,g9,g10⟩:=(G3.out.nb N4.out).c11
       go_wp2_with fail
       refine (Q2.out _ (N3.out.tr N4.out)).mono ?_
       rintro e w5 ⟨rfl,n5⟩
       have N5:=Lib.hid (N4.out.tr n5)
       clear d0 d1 d2 d3 d4 d5 d6 d7 d8 d9 g0 g1 g2 g3 g4 g5 g6 g7 g8 g9 g10
       go_wp2
       go_ret
       exact⟨rfl,N3.out.tr N5.out⟩
      ·simp only[Bool.false_and,Bool.true_and] at f2
       have Q2:=Lib.hid f2
       clear f2
       obtain⟨y,hy⟩:∃ y,y=(w3.alloc (.cells #[.int .i64 4,.int .u32 a0_1,.int .u32 a2_2,.int .u8 a0_7,.int .u8 a2_4,.int .u8 a0_8,.int .u8 a2_6,.int .u32 a0_9,.int .u32 a2_8,.bool false] 44)).alloc (.cells #[.int .i64 4,.int .u32 a0_1,.int .u32 4294967295,.int .u8 a0_7,.int .u8 255,.int .u8 a0_8,.int .u8 255,.int .u32 a0_9,.int .u32 4294967295,.bool false] 44):=⟨_,rfl⟩
       obtain⟨Rb,hRb⟩:∃ Rb,Rb=w3.heap.size:=⟨_,rfl⟩
       have NY:=Lib.hid (show Nb w3 y by rw[hy];exact (Nb.rfl.al _).al _)
       have BR:=Lib.hid (show Blk y Rb #[.int .i64 4,.int .u32 a0_1,.int .u32 a2_2,.int .u8 a0_7,.int .u8 a2_4,.int .u8 a0_8,.int .u8 a2_6,.int .u32 a0_9,.int .u32 a2_8,.bool false] 44 by rw[hy,hRb];exact (Blk.new w3 _ _).nb (Nb.rfl.al _))
       have BW:=Lib.hid (show Blk y (Rb+1) #[.int .i64 4,.int .u32 a0_1,.int .u32 4294967295,.int .u8 a0_7,.int .u8 255,.int .u8 a0_8,.int .u8 255,.int .u32 a0_9,.int .u32 4294967295,.bool false] 44 by
        rw[hy,hRb]
        have:=Blk.new (w3.alloc (.cells #[.int .i64 4,.int .u32 a0_1,.int .u32 a2_2,.int .u8 a0_7,.int .u8 a2_4,.int .u8 a0_8,.int .u8 a2_6,.int .u32 a0_9,.int .u32 a2_8,.bool false] 44)) #[.int .i64 4,.int .u32 a0_1,.int .u32 4294967295,.int .u8 a0_7,.int .u8 255,.int .u8 a0_8,.int .u8 255,.int .u32 a0_9,.int .u32 4294967295,.bool false] 44
        rwa[World.size_alloc] at this)
       go_wp2_with fail
       rw[<- hy,<- hRb]
       clear hy hRb c0 c1 c2 c3 c4 c5 c6 c7 c8 c9 c10 g0 g1 g2 g3 g4 g5 g6 g7 g8 g9 g10 m0 m1 m2 m3 m4 m5 m6 m7 m8 m9
       refine (Q1.out _ (N3.out.tr NY.out)).mono ?_
       rintro e w4 ⟨rfl,n4⟩
       have N4:=Lib.hid (NY.out.tr n4)
       obtain⟨d0,d1,d2,d3,d4,d5,d6,d7,d8,d9⟩:=(BW.out.nb n4).r10
       obtain⟨g0,g1,g2,g3,g4,g5,g6,g7,g8,g9,g10⟩:=(G3.out.nb N4.out).c11
       go_wp2_with fail
       refine (Q2.out _ (N3.out.tr N4.out)).mono ?_
       rintro e w5 ⟨rfl,n5⟩
       have N5:=Lib.hid (N4.out.tr n5)
       clear d0 d1 d2 d3 d4 d5 d6 d7 d8 d9 g0 g1 g2 g3 g4 g5 g6 g7 g8 g9 g10
       obtain⟨d0,d1,d2,d3,d4,d5,d6,d7,d8,d9⟩:=(BR.out.nb (n4.tr n5)).r10
       obtain⟨g0,g1,g2,g3,g4,g5,g6,g7,g8,g9,g10⟩:=(G3.out.nb N5.out).c11
       go_wp2_with fail
       refine (Q4.out rfl _ (N3.out.tr N5.out)).mono ?_
       rintro e w6 ⟨rfl,n6⟩
       go_wp2
       go_ret
       exact⟨rfl,(N3.out.tr N5.out).tr n6⟩
theorem door_met (os:Os) (args:Array Value):laidMetH Tryd.prog Rows.filterMasksRow.laid ((World.doorLaid Tryd.prog 14 os).forCall (fun _ _=>0) ⟨#[],args,[]⟩).memory :=
 laidMetH_of_parts3 (fuel:=8) (laidMet_of_run' 8 (by kernel_rfl) (by kernel_rfl)) (by kernel_rfl) (by kernel_rfl)
theorem lifted (os:Os) (started:os.Started) (H:Type) (enc:TypeId × Value->H) :
    ReturnsInHanded {} Tryd.checked os 7 .any (fun w args=>(Rows.filterMasksSpec.pre enc Tryd.prog Tryd.f7 [] false w args/\laidMetH Tryd.prog Rows.filterMasksRow.laid w)/\sizedMet enc Tryd.prog Tryd.f7 (OpenSpec.ofChange Rows.filterMasksSpec) false w args)
     (Rows.filterMasksSpec.post enc Tryd.prog Tryd.f7 false true false false):=by
 refine returnsInHanded_of_change_and (C:=Tryd.checked) (X:=fun w _=>laidMetH Tryd.prog Rows.filterMasksRow.laid w) (fun _ _ _ hh h=>h.of_heap hh) own started (by kernel_rfl) Tryd.func7
  (ChangeSpec.witness_shaped (enc:=enc) (C:=Tryd.checked) (os:=os) (X:=fun w _=>laidMetH Tryd.prog Rows.filterMasksRow.laid w) false (World.doorLaid Tryd.prog 14 os) #[.agg #[.int .i64 0,.int .u32 0,.bool false,.bool false,.bool false,.bool false,.bool false,.int .u8 0,.int .u8 0,.int .u32 0,.slice none 0 0],.agg #[.int .i64 0,.int .u32 0,.bool false,.bool false,.bool false,.bool false,.bool false,.int .u8 0,.int .u8 0,.int .u32 0,.slice none 0 0],.agg #[.int .i64 0,.int .u32 0,.int .u32 0,.int .u8 0,.int .u8 0,.int .u8 0,.int .u8 0,.int .u32 0,.int .u32 0,.bool false]] 8 rfl (World.shaped_of_RefB (by kernel_rfl) (by kernel_rfl)) (by kernel_rfl) (by kernel_rfl) (by kernel_rfl) (door_met os _)) ?_
 intro W base args ds gs before hval0 hW _ hR hL _
 have hval:∀ (j:Nat) t v,Tryd.f7.params[j]? = some t->args[j]? = some v->Value.okWide Tryd.prog W .any base t v:=hval0
 have hW':=hW
 obtain⟨p,q,hA0,hV,rfl,hfz,hnd⟩:=hW
 have hA:DataW.TrodAll enc Tryd.prog W 0 (fun _=>true) true Tryd.f7.params.toList args.toList ds p:=hA0
 rw[Tryd.params7] at hA hval
 obtain⟨v0,vs0,d0,ds0,p0,q0,hargs,rfl,rfl,h0,r0⟩:=trodAll_cons hA
 obtain⟨v1,vs1,d1,ds1,p1,q1,rfl,rfl,rfl,h1,r1⟩:=trodAll_cons r0
 obtain⟨v2,vs2,d2,ds2,p2,q2,rfl,rfl,rfl,h2,r2⟩:=trodAll_cons r1
 obtain⟨rfl,rfl,rfl⟩:=trodAll_nil r2
 obtain rfl:args=#[v0,v1,v2]:=by cases args;simp_all
 obtain⟨rfl,rfl⟩:=trodVars_none hV
 have k0:=h0
 have lt0:∀ x∈p0,x.block < W.heap.size:=by obtain⟨m,hm⟩:=k0;exact DataW.trod_lt m _ _ _ hm
 have k1:=h1
 have lt1:∀ x∈p1,x.block < W.heap.size:=by obtain⟨m,hm⟩:=k1;exact DataW.trod_lt m _ _ _ hm
 have k2:=h2
 have lt2:∀ x∈p2,x.block < W.heap.size:=by obtain⟨m,hm⟩:=k2;exact DataW.trod_lt m _ _ _ hm
 clear hA0
 obtain⟨cs0,rfl,hz0⟩:=okWide_struct Tryd.underlying28 (hval 0 28 v0 rfl rfl)
 obtain⟨c0_0,c0_1,c0_2,c0_3,c0_4,c0_5,c0_6,c0_7,c0_8,c0_9,c0_10,rfl⟩:=arr11 (hz0.trans (by kernel_rfl))
 obtain⟨fu0,hf0⟩:=h0
 have hc0:DataW.trod enc Tryd.prog W 0 (fun _=>true) true fu0 28 [c0_0,c0_1,c0_2,c0_3,c0_4,c0_5,c0_6,c0_7,c0_8,c0_9,c0_10]=some (d0,p0):=hf0
 obtain⟨m0_0,y0_0,g0_0⟩:=open_fld Tryd.underlying28 hc0 0 _ rfl
 have t0_0:DataW.trod enc Tryd.prog W 0 (fun _=>true) true m0_0 3 (([c0_0,c0_1,c0_2,c0_3,c0_4,c0_5,c0_6,c0_7,c0_8,c0_9,c0_10].drop 0).take (Tryd.prog.cellsOf 3))=some y0_0:=g0_0
 rw[show Tryd.prog.cellsOf 3=1 from by kernel_rfl] at t0_0
 have u0_0:DataW.trod enc Tryd.prog W 0 (fun _=>true) true m0_0 3 [c0_0]=some y0_0:=t0_0
 obtain⟨m0_1,y0_1,g0_1⟩:=open_fld Tryd.underlying28 hc0 1 _ rfl
 have t0_1:DataW.trod enc Tryd.prog W 0 (fun _=>true) true m0_1 25 (([c0_0,c0_1,c0_2,c0_3,c0_4,c0_5,c0_6,c0_7,c0_8,c0_9,c0_10].drop 1).take (Tryd.prog.cellsOf 25))=some y0_1:=g0_1
 rw[show Tryd.prog.cellsOf 25=1 from by kernel_rfl] at t0_1
 have u0_1:DataW.trod enc Tryd.prog W 0 (fun _=>true) true m0_1 25 [c0_1]=some y0_1:=t0_1
 obtain⟨m0_2,y0_2,g0_2⟩:=open_fld Tryd.underlying28 hc0 2 _ rfl
 have t0_2:DataW.trod enc Tryd.prog W 0 (fun _=>true) true m0_2 4 (([c0_0,c0_1,c0_2,c0_3,c0_4,c0_5,c0_6,c0_7,c0_8,c0_9,c0_10].drop 2).take (Tryd.prog.cellsOf 4))=some y0_2:=g0_2
 rw[show Tryd.prog.cellsOf 4=1 from by kernel_rfl] at t0_2
 have u0_2:DataW.trod enc Tryd.prog W 0 (fun _=>true) true m0_2 4 [c0_2]=some y0_2:=t0_2
 obtain⟨m0_3,y0_3,g0_3⟩:=open_fld Tryd.underlying28 hc0 3 _ rfl
 have t0_3:DataW.trod enc Tryd.prog W 0 (fun _=>true) true m0_3 4 (([c0_0,c0_1,c0_2,c0_3,c0_4,c0_5,c0_6,c0_7,c0_8,c0_9,c0_10].drop 3).take (Tryd.prog.cellsOf 4))=some y0_3:=g0_3
 rw[show Tryd.prog.cellsOf 4=1 from by kernel_rfl] at t0_3
 have u0_3:DataW.trod enc Tryd.prog W 0 (fun _=>true) true m0_3 4 [c0_3]=some y0_3:=t0_3
 obtain⟨m0_4,y0_4,g0_4⟩:=open_fld Tryd.underlying28 hc0 4 _ rfl
 have t0_4:DataW.trod enc Tryd.prog W 0 (fun _=>true) true m0_4 4 (([c0_0,c0_1,c0_2,c0_3,c0_4,c0_5,c0_6,c0_7,c0_8,c0_9,c0_10].drop 4).take (Tryd.prog.cellsOf 4))=some y0_4:=g0_4
 rw[show Tryd.prog.cellsOf 4=1 from by kernel_rfl] at t0_4
 have u0_4:DataW.trod enc Tryd.prog W 0 (fun _=>true) true m0_4 4 [c0_4]=some y0_4:=t0_4
 obtain⟨m0_5,y0_5,g0_5⟩:=open_fld Tryd.underlying28 hc0 5 _ rfl
 have t0_5:DataW.trod enc Tryd.prog W 0 (fun _=>true) true m0_5 4 (([c0_0,c0_1,c0_2,c0_3,c0_4,c0_5,c0_6,c0_7,c0_8,c0_9,c0_10].drop 5).take (Tryd.prog.cellsOf 4))=some y0_5:=g0_5
 rw[show Tryd.prog.cellsOf 4=1 from by kernel_rfl] at t0_5
 have u0_5:DataW.trod enc Tryd.prog W 0 (fun _=>true) true m0_5 4 [c0_5]=some y0_5:=t0_5
 obtain⟨m0_6,y0_6,g0_6⟩:=open_fld Tryd.underlying28 hc0 6 _ rfl
 have t0_6:DataW.trod enc Tryd.prog W 0 (fun _=>true) true m0_6 4 (([c0_0,c0_1,c0_2,c0_3,c0_4,c0_5,c0_6,c0_7,c0_8,c0_9,c0_10].drop 6).take (Tryd.prog.cellsOf 4))=some y0_6:=g0_6
 rw[show Tryd.prog.cellsOf 4=1 from by kernel_rfl] at t0_6
 have u0_6:DataW.trod enc Tryd.prog W 0 (fun _=>true) true m0_6 4 [c0_6]=some y0_6:=t0_6
 obtain⟨m0_7,y0_7,g0_7⟩:=open_fld Tryd.underlying28 hc0 7 _ rfl
 have t0_7:DataW.trod enc Tryd.prog W 0 (fun _=>true) true m0_7 5 (([c0_0,c0_1,c0_2,c0_3,c0_4,c0_5,c0_6,c0_7,c0_8,c0_9,c0_10].drop 7).take (Tryd.prog.cellsOf 5))=some y0_7:=g0_7
 rw[show Tryd.prog.cellsOf 5=1 from by kernel_rfl] at t0_7
 have u0_7:DataW.trod enc Tryd.prog W 0 (fun _=>true) true m0_7 5 [c0_7]=some y0_7:=t0_7
 obtain⟨m0_8,y0_8,g0_8⟩:=open_fld Tryd.underlying28 hc0 8 _ rfl
 have t0_8:DataW.trod enc Tryd.prog W 0 (fun _=>true) true m0_8 5 (([c0_0,c0_1,c0_2,c0_3,c0_4,c0_5,c0_6,c0_7,c0_8,c0_9,c0_10].drop 8).take (Tryd.prog.cellsOf 5))=some y0_8:=g0_8
 rw[show Tryd.prog.cellsOf 5=1 from by kernel_rfl] at t0_8
 have u0_8:DataW.trod enc Tryd.prog W 0 (fun _=>true) true m0_8 5 [c0_8]=some y0_8:=t0_8
 obtain⟨m0_9,y0_9,g0_9⟩:=open_fld Tryd.underlying28 hc0 9 _ rfl
 have t0_9:DataW.trod enc Tryd.prog W 0 (fun _=>true) true m0_9 25 (([c0_0,c0_1,c0_2,c0_3,c0_4,c0_5,c0_6,c0_7,c0_8,c0_9,c0_10].drop 9).take (Tryd.prog.cellsOf 25))=some y0_9:=g0_9
 rw[show Tryd.prog.cellsOf 25=1 from by kernel_rfl] at t0_9
 have u0_9:DataW.trod enc Tryd.prog W 0 (fun _=>true) true m0_9 25 [c0_9]=some y0_9:=t0_9
 obtain⟨m0_10,y0_10,g0_10⟩:=open_fld Tryd.underlying28 hc0 10 _ rfl
 have t0_10:DataW.trod enc Tryd.prog W 0 (fun _=>true) true m0_10 26 (([c0_0,c0_1,c0_2,c0_3,c0_4,c0_5,c0_6,c0_7,c0_8,c0_9,c0_10].drop 10).take (Tryd.prog.cellsOf 26))=some y0_10:=g0_10
 rw[show Tryd.prog.cellsOf 26=1 from by kernel_rfl] at t0_10
 have u0_10:DataW.trod enc Tryd.prog W 0 (fun _=>true) true m0_10 26 [c0_10]=some y0_10:=t0_10
 obtain⟨a0_0,e0_0,x0_0,w0_0⟩:=DataW.trod_int Tryd.underlying3 u0_0
 obtain rfl:c0_0 = .int .i64 a0_0:=by simpa using e0_0
 obtain⟨a0_1,e0_1,x0_1,w0_1⟩:=DataW.trod_int Tryd.underlying25 u0_1
 obtain rfl:c0_1 = .int .u32 a0_1:=by simpa using e0_1
 obtain⟨a0_2,e0_2,x0_2⟩:=DataW.trod_bool Tryd.underlying4 u0_2
 obtain rfl:c0_2 = .bool a0_2:=by simpa using e0_2
 obtain⟨a0_3,e0_3,x0_3⟩:=DataW.trod_bool Tryd.underlying4 u0_3
 obtain rfl:c0_3 = .bool a0_3:=by simpa using e0_3
 obtain⟨a0_4,e0_4,x0_4⟩:=DataW.trod_bool Tryd.underlying4 u0_4
 obtain rfl:c0_4 = .bool a0_4:=by simpa using e0_4
 obtain⟨a0_5,e0_5,x0_5⟩:=DataW.trod_bool Tryd.underlying4 u0_5
 obtain rfl:c0_5 = .bool a0_5:=by simpa using e0_5
 obtain⟨a0_6,e0_6,x0_6⟩:=DataW.trod_bool Tryd.underlying4 u0_6
 obtain rfl:c0_6 = .bool a0_6:=by simpa using e0_6
 obtain⟨a0_7,e0_7,x0_7,w0_7⟩:=DataW.trod_int Tryd.underlying5 u0_7
 obtain rfl:c0_7 = .int .u8 a0_7:=by simpa using e0_7
 obtain⟨a0_8,e0_8,x0_8,w0_8⟩:=DataW.trod_int Tryd.underlying5 u0_8
 obtain rfl:c0_8 = .int .u8 a0_8:=by simpa using e0_8
 obtain⟨a0_9,e0_9,x0_9,w0_9⟩:=DataW.trod_int Tryd.underlying25 u0_9
 obtain rfl:c0_9 = .int .u32 a0_9:=by simpa using e0_9
 obtain⟨a0_10,cap0_10,l0_10,e0_10,hb0_10,n0_10⟩:=bytes_open u0_10
 subst e0_10
 obtain⟨cs1,rfl,hz1⟩:=okWide_struct Tryd.underlying28 (hval 1 28 v1 rfl rfl)
 obtain⟨c1_0,c1_1,c1_2,c1_3,c1_4,c1_5,c1_6,c1_7,c1_8,c1_9,c1_10,rfl⟩:=arr11 (hz1.trans (by kernel_rfl))
 obtain⟨fu1,hf1⟩:=h1
 have hc1:DataW.trod enc Tryd.prog W 0 (fun _=>true) true fu1 28 [c1_0,c1_1,c1_2,c1_3,c1_4,c1_5,c1_6,c1_7,c1_8,c1_9,c1_10]=some (d1,p1):=hf1
 obtain⟨m1_0,y1_0,g1_0⟩:=open_fld Tryd.underlying28 hc1 0 _ rfl
 have t1_0:DataW.trod enc Tryd.prog W 0 (fun _=>true) true m1_0 3 (([c1_0,c1_1,c1_2,c1_3,c1_4,c1_5,c1_6,c1_7,c1_8,c1_9,c1_10].drop 0).take (Tryd.prog.cellsOf 3))=some y1_0:=g1_0
 rw[show Tryd.prog.cellsOf 3=1 from by kernel_rfl] at t1_0
 have u1_0:DataW.trod enc Tryd.prog W 0 (fun _=>true) true m1_0 3 [c1_0]=some y1_0:=t1_0
 obtain⟨m1_1,y1_1,g1_1⟩:=open_fld Tryd.underlying28 hc1 1 _ rfl
 have t1_1:DataW.trod enc Tryd.prog W 0 (fun _=>true) true m1_1 25 (([c1_0,c1_1,c1_2,c1_3,c1_4,c1_5,c1_6,c1_7,c1_8,c1_9,c1_10].drop 1).take (Tryd.prog.cellsOf 25))=some y1_1:=g1_1
 rw[show Tryd.prog.cellsOf 25=1 from by kernel_rfl] at t1_1
 have u1_1:DataW.trod enc Tryd.prog W 0 (fun _=>true) true m1_1 25 [c1_1]=some y1_1:=t1_1
 obtain⟨m1_2,y1_2,g1_2⟩:=open_fld Tryd.underlying28 hc1 2 _ rfl
 have t1_2:DataW.trod enc Tryd.prog W 0 (fun _=>true) true m1_2 4 (([c1_0,c1_1,c1_2,c1_3,c1_4,c1_5,c1_6,c1_7,c1_8,c1_9,c1_10].drop 2).take (Tryd.prog.cellsOf 4))=some y1_2:=g1_2
 rw[show Tryd.prog.cellsOf 4=1 from by kernel_rfl] at t1_2
 have u1_2:DataW.trod enc Tryd.prog W 0 (fun _=>true) true m1_2 4 [c1_2]=some y1_2:=t1_2
 obtain⟨m1_3,y1_3,g1_3⟩:=open_fld Tryd.underlying28 hc1 3 _ rfl
 have t1_3:DataW.trod enc Tryd.prog W 0 (fun _=>true) true m1_3 4 (([c1_0,c1_1,c1_2,c1_3,c1_4,c1_5,c1_6,c1_7,c1_8,c1_9,c1_10].drop 3).take (Tryd.prog.cellsOf 4))=some y1_3:=g1_3
 rw[show Tryd.prog.cellsOf 4=1 from by kernel_rfl] at t1_3
 have u1_3:DataW.trod enc Tryd.prog W 0 (fun _=>true) true m1_3 4 [c1_3]=some y1_3:=t1_3
 obtain⟨m1_4,y1_4,g1_4⟩:=open_fld Tryd.underlying28 hc1 4 _ rfl
 have t1_4:DataW.trod enc Tryd.prog W 0 (fun _=>true) true m1_4 4 (([c1_0,c1_1,c1_2,c1_3,c1_4,c1_5,c1_6,c1_7,c1_8,c1_9,c1_10].drop 4).take (Tryd.prog.cellsOf 4))=some y1_4:=g1_4
 rw[show Tryd.prog.cellsOf 4=1 from by kernel_rfl] at t1_4
 have u1_4:DataW.trod enc Tryd.prog W 0 (fun _=>true) true m1_4 4 [c1_4]=some y1_4:=t1_4
 obtain⟨m1_5,y1_5,g1_5⟩:=open_fld Tryd.underlying28 hc1 5 _ rfl
 have t1_5:DataW.trod enc Tryd.prog W 0 (fun _=>true) true m1_5 4 (([c1_0,c1_1,c1_2,c1_3,c1_4,c1_5,c1_6,c1_7,c1_8,c1_9,c1_10].drop 5).take (Tryd.prog.cellsOf 4))=some y1_5:=g1_5
 rw[show Tryd.prog.cellsOf 4=1 from by kernel_rfl] at t1_5
 have u1_5:DataW.trod enc Tryd.prog W 0 (fun _=>true) true m1_5 4 [c1_5]=some y1_5:=t1_5
 obtain⟨m1_6,y1_6,g1_6⟩:=open_fld Tryd.underlying28 hc1 6 _ rfl
 have t1_6:DataW.trod enc Tryd.prog W 0 (fun _=>true) true m1_6 4 (([c1_0,c1_1,c1_2,c1_3,c1_4,c1_5,c1_6,c1_7,c1_8,c1_9,c1_10].drop 6).take (Tryd.prog.cellsOf 4))=some y1_6:=g1_6
 rw[show Tryd.prog.cellsOf 4=1 from by kernel_rfl] at t1_6
 have u1_6:DataW.trod enc Tryd.prog W 0 (fun _=>true) true m1_6 4 [c1_6]=some y1_6:=t1_6
 obtain⟨m1_7,y1_7,g1_7⟩:=open_fld Tryd.underlying28 hc1 7 _ rfl
 have t1_7:DataW.trod enc Tryd.prog W 0 (fun _=>true) true m1_7 5 (([c1_0,c1_1,c1_2,c1_3,c1_4,c1_5,c1_6,c1_7,c1_8,c1_9,c1_10].drop 7).take (Tryd.prog.cellsOf 5))=some y1_7:=g1_7
 rw[show Tryd.prog.cellsOf 5=1 from by kernel_rfl] at t1_7
 have u1_7:DataW.trod enc Tryd.prog W 0 (fun _=>true) true m1_7 5 [c1_7]=some y1_7:=t1_7
 obtain⟨m1_8,y1_8,g1_8⟩:=open_fld Tryd.underlying28 hc1 8 _ rfl
 have t1_8:DataW.trod enc Tryd.prog W 0 (fun _=>true) true m1_8 5 (([c1_0,c1_1,c1_2,c1_3,c1_4,c1_5,c1_6,c1_7,c1_8,c1_9,c1_10].drop 8).take (Tryd.prog.cellsOf 5))=some y1_8:=g1_8
 rw[show Tryd.prog.cellsOf 5=1 from by kernel_rfl] at t1_8
 have u1_8:DataW.trod enc Tryd.prog W 0 (fun _=>true) true m1_8 5 [c1_8]=some y1_8:=t1_8
 obtain⟨m1_9,y1_9,g1_9⟩:=open_fld Tryd.underlying28 hc1 9 _ rfl
 have t1_9:DataW.trod enc Tryd.prog W 0 (fun _=>true) true m1_9 25 (([c1_0,c1_1,c1_2,c1_3,c1_4,c1_5,c1_6,c1_7,c1_8,c1_9,c1_10].drop 9).take (Tryd.prog.cellsOf 25))=some y1_9:=g1_9
 rw[show Tryd.prog.cellsOf 25=1 from by kernel_rfl] at t1_9
 have u1_9:DataW.trod enc Tryd.prog W 0 (fun _=>true) true m1_9 25 [c1_9]=some y1_9:=t1_9
 obtain⟨m1_10,y1_10,g1_10⟩:=open_fld Tryd.underlying28 hc1 10 _ rfl
 have t1_10:DataW.trod enc Tryd.prog W 0 (fun _=>true) true m1_10 26 (([c1_0,c1_1,c1_2,c1_3,c1_4,c1_5,c1_6,c1_7,c1_8,c1_9,c1_10].drop 10).take (Tryd.prog.cellsOf 26))=some y1_10:=g1_10
 rw[show Tryd.prog.cellsOf 26=1 from by kernel_rfl] at t1_10
 have u1_10:DataW.trod enc Tryd.prog W 0 (fun _=>true) true m1_10 26 [c1_10]=some y1_10:=t1_10
 obtain⟨a1_0,e1_0,x1_0,w1_0⟩:=DataW.trod_int Tryd.underlying3 u1_0
 obtain rfl:c1_0 = .int .i64 a1_0:=by simpa using e1_0
 obtain⟨a1_1,e1_1,x1_1,w1_1⟩:=DataW.trod_int Tryd.underlying25 u1_1
 obtain rfl:c1_1 = .int .u32 a1_1:=by simpa using e1_1
 obtain⟨a1_2,e1_2,x1_2⟩:=DataW.trod_bool Tryd.underlying4 u1_2
 obtain rfl:c1_2 = .bool a1_2:=by simpa using e1_2
 obtain⟨a1_3,e1_3,x1_3⟩:=DataW.trod_bool Tryd.underlying4 u1_3
 obtain rfl:c1_3 = .bool a1_3:=by simpa using e1_3
 obtain⟨a1_4,e1_4,x1_4⟩:=DataW.trod_bool Tryd.underlying4 u1_4
 obtain rfl:c1_4 = .bool a1_4:=by simpa using e1_4
 obtain⟨a1_5,e1_5,x1_5⟩:=DataW.trod_bool Tryd.underlying4 u1_5
 obtain rfl:c1_5 = .bool a1_5:=by simpa using e1_5
 obtain⟨a1_6,e1_6,x1_6⟩:=DataW.trod_bool Tryd.underlying4 u1_6
 obtain rfl:c1_6 = .bool a1_6:=by simpa using e1_6
 obtain⟨a1_7,e1_7,x1_7,w1_7⟩:=DataW.trod_int Tryd.underlying5 u1_7
 obtain rfl:c1_7 = .int .u8 a1_7:=by simpa using e1_7
 obtain⟨a1_8,e1_8,x1_8,w1_8⟩:=DataW.trod_int Tryd.underlying5 u1_8
 obtain rfl:c1_8 = .int .u8 a1_8:=by simpa using e1_8
 obtain⟨a1_9,e1_9,x1_9,w1_9⟩:=DataW.trod_int Tryd.underlying25 u1_9
 obtain rfl:c1_9 = .int .u32 a1_9:=by simpa using e1_9
 obtain⟨a1_10,cap1_10,l1_10,e1_10,hb1_10,n1_10⟩:=bytes_open u1_10
 subst e1_10
 obtain⟨cs2,rfl,hz2⟩:=okWide_struct Tryd.underlying42 (hval 2 42 v2 rfl rfl)
 obtain⟨c2_0,c2_1,c2_2,c2_3,c2_4,c2_5,c2_6,c2_7,c2_8,c2_9,rfl⟩:=arr10 (hz2.trans (by kernel_rfl))
 obtain⟨fu2,hf2⟩:=h2
 have hc2:DataW.trod enc Tryd.prog W 0 (fun _=>true) true fu2 42 [c2_0,c2_1,c2_2,c2_3,c2_4,c2_5,c2_6,c2_7,c2_8,c2_9]=some (d2,p2):=hf2
 obtain⟨m2_0,y2_0,g2_0⟩:=open_fld Tryd.underlying42 hc2 0 _ rfl
 have t2_0:DataW.trod enc Tryd.prog W 0 (fun _=>true) true m2_0 3 (([c2_0,c2_1,c2_2,c2_3,c2_4,c2_5,c2_6,c2_7,c2_8,c2_9].drop 0).take (Tryd.prog.cellsOf 3))=some y2_0:=g2_0
 rw[show Tryd.prog.cellsOf 3=1 from by kernel_rfl] at t2_0
 have u2_0:DataW.trod enc Tryd.prog W 0 (fun _=>true) true m2_0 3 [c2_0]=some y2_0:=t2_0
 obtain⟨m2_1,y2_1,g2_1⟩:=open_fld Tryd.underlying42 hc2 1 _ rfl
 have t2_1:DataW.trod enc Tryd.prog W 0 (fun _=>true) true m2_1 25 (([c2_0,c2_1,c2_2,c2_3,c2_4,c2_5,c2_6,c2_7,c2_8,c2_9].drop 1).take (Tryd.prog.cellsOf 25))=some y2_1:=g2_1
 rw[show Tryd.prog.cellsOf 25=1 from by kernel_rfl] at t2_1
 have u2_1:DataW.trod enc Tryd.prog W 0 (fun _=>true) true m2_1 25 [c2_1]=some y2_1:=t2_1
 obtain⟨m2_2,y2_2,g2_2⟩:=open_fld Tryd.underlying42 hc2 2 _ rfl
 have t2_2:DataW.trod enc Tryd.prog W 0 (fun _=>true) true m2_2 25 (([c2_0,c2_1,c2_2,c2_3,c2_4,c2_5,c2_6,c2_7,c2_8,c2_9].drop 2).take (Tryd.prog.cellsOf 25))=some y2_2:=g2_2
 rw[show Tryd.prog.cellsOf 25=1 from by kernel_rfl] at t2_2
 have u2_2:DataW.trod enc Tryd.prog W 0 (fun _=>true) true m2_2 25 [c2_2]=some y2_2:=t2_2
 obtain⟨m2_3,y2_3,g2_3⟩:=open_fld Tryd.underlying42 hc2 3 _ rfl
 have t2_3:DataW.trod enc Tryd.prog W 0 (fun _=>true) true m2_3 5 (([c2_0,c2_1,c2_2,c2_3,c2_4,c2_5,c2_6,c2_7,c2_8,c2_9].drop 3).take (Tryd.prog.cellsOf 5))=some y2_3:=g2_3
 rw[show Tryd.prog.cellsOf 5=1 from by kernel_rfl] at t2_3
 have u2_3:DataW.trod enc Tryd.prog W 0 (fun _=>true) true m2_3 5 [c2_3]=some y2_3:=t2_3
 obtain⟨m2_4,y2_4,g2_4⟩:=open_fld Tryd.underlying42 hc2 4 _ rfl
 have t2_4:DataW.trod enc Tryd.prog W 0 (fun _=>true) true m2_4 5 (([c2_0,c2_1,c2_2,c2_3,c2_4,c2_5,c2_6,c2_7,c2_8,c2_9].drop 4).take (Tryd.prog.cellsOf 5))=some y2_4:=g2_4
 rw[show Tryd.prog.cellsOf 5=1 from by kernel_rfl] at t2_4
 have u2_4:DataW.trod enc Tryd.prog W 0 (fun _=>true) true m2_4 5 [c2_4]=some y2_4:=t2_4
 obtain⟨m2_5,y2_5,g2_5⟩:=open_fld Tryd.underlying42 hc2 5 _ rfl
 have t2_5:DataW.trod enc Tryd.prog W 0 (fun _=>true) true m2_5 5 (([c2_0,c2_1,c2_2,c2_3,c2_4,c2_5,c2_6,c2_7,c2_8,c2_9].drop 5).take (Tryd.prog.cellsOf 5))=some y2_5:=g2_5
 rw[show Tryd.prog.cellsOf 5=1 from by kernel_rfl] at t2_5
 have u2_5:DataW.trod enc Tryd.prog W 0 (fun _=>true) true m2_5 5 [c2_5]=some y2_5:=t2_5
 obtain⟨m2_6,y2_6,g2_6⟩:=open_fld Tryd.underlying42 hc2 6 _ rfl
 have t2_6:DataW.trod enc Tryd.prog W 0 (fun _=>true) true m2_6 5 (([c2_0,c2_1,c2_2,c2_3,c2_4,c2_5,c2_6,c2_7,c2_8,c2_9].drop 6).take (Tryd.prog.cellsOf 5))=some y2_6:=g2_6
 rw[show Tryd.prog.cellsOf 5=1 from by kernel_rfl] at t2_6
 have u2_6:DataW.trod enc Tryd.prog W 0 (fun _=>true) true m2_6 5 [c2_6]=some y2_6:=t2_6
 obtain⟨m2_7,y2_7,g2_7⟩:=open_fld Tryd.underlying42 hc2 7 _ rfl
 have t2_7:DataW.trod enc Tryd.prog W 0 (fun _=>true) true m2_7 25 (([c2_0,c2_1,c2_2,c2_3,c2_4,c2_5,c2_6,c2_7,c2_8,c2_9].drop 7).take (Tryd.prog.cellsOf 25))=some y2_7:=g2_7
 rw[show Tryd.prog.cellsOf 25=1 from by kernel_rfl] at t2_7
 have u2_7:DataW.trod enc Tryd.prog W 0 (fun _=>true) true m2_7 25 [c2_7]=some y2_7:=t2_7
 obtain⟨m2_8,y2_8,g2_8⟩:=open_fld Tryd.underlying42 hc2 8 _ rfl
 have t2_8:DataW.trod enc Tryd.prog W 0 (fun _=>true) true m2_8 25 (([c2_0,c2_1,c2_2,c2_3,c2_4,c2_5,c2_6,c2_7,c2_8,c2_9].drop 8).take (Tryd.prog.cellsOf 25))=some y2_8:=g2_8
 rw[show Tryd.prog.cellsOf 25=1 from by kernel_rfl] at t2_8
 have u2_8:DataW.trod enc Tryd.prog W 0 (fun _=>true) true m2_8 25 [c2_8]=some y2_8:=t2_8
 obtain⟨m2_9,y2_9,g2_9⟩:=open_fld Tryd.underlying42 hc2 9 _ rfl
 have t2_9:DataW.trod enc Tryd.prog W 0 (fun _=>true) true m2_9 4 (([c2_0,c2_1,c2_2,c2_3,c2_4,c2_5,c2_6,c2_7,c2_8,c2_9].drop 9).take (Tryd.prog.cellsOf 4))=some y2_9:=g2_9
 rw[show Tryd.prog.cellsOf 4=1 from by kernel_rfl] at t2_9
 have u2_9:DataW.trod enc Tryd.prog W 0 (fun _=>true) true m2_9 4 [c2_9]=some y2_9:=t2_9
 obtain⟨a2_0,e2_0,x2_0,w2_0⟩:=DataW.trod_int Tryd.underlying3 u2_0
 obtain rfl:c2_0 = .int .i64 a2_0:=by simpa using e2_0
 obtain⟨a2_1,e2_1,x2_1,w2_1⟩:=DataW.trod_int Tryd.underlying25 u2_1
 obtain rfl:c2_1 = .int .u32 a2_1:=by simpa using e2_1
 obtain⟨a2_2,e2_2,x2_2,w2_2⟩:=DataW.trod_int Tryd.underlying25 u2_2
 obtain rfl:c2_2 = .int .u32 a2_2:=by simpa using e2_2
 obtain⟨a2_3,e2_3,x2_3,w2_3⟩:=DataW.trod_int Tryd.underlying5 u2_3
 obtain rfl:c2_3 = .int .u8 a2_3:=by simpa using e2_3
 obtain⟨a2_4,e2_4,x2_4,w2_4⟩:=DataW.trod_int Tryd.underlying5 u2_4
 obtain rfl:c2_4 = .int .u8 a2_4:=by simpa using e2_4
 obtain⟨a2_5,e2_5,x2_5,w2_5⟩:=DataW.trod_int Tryd.underlying5 u2_5
 obtain rfl:c2_5 = .int .u8 a2_5:=by simpa using e2_5
 obtain⟨a2_6,e2_6,x2_6,w2_6⟩:=DataW.trod_int Tryd.underlying5 u2_6
 obtain rfl:c2_6 = .int .u8 a2_6:=by simpa using e2_6
 obtain⟨a2_7,e2_7,x2_7,w2_7⟩:=DataW.trod_int Tryd.underlying25 u2_7
 obtain rfl:c2_7 = .int .u32 a2_7:=by simpa using e2_7
 obtain⟨a2_8,e2_8,x2_8,w2_8⟩:=DataW.trod_int Tryd.underlying25 u2_8
 obtain rfl:c2_8 = .int .u32 a2_8:=by simpa using e2_8
 obtain⟨a2_9,e2_9,x2_9⟩:=DataW.trod_bool Tryd.underlying4 u2_9
 obtain rfl:c2_9 = .bool a2_9:=by simpa using e2_9
 refine (walk W (longer_of hL) a0_0 w0_0 a0_1 w0_1 a0_2 a0_3 a0_4 a0_5 a0_6 a0_7 w0_7 a0_8 w0_8 a0_9 w0_9 a0_10 cap0_10 l0_10 hb0_10 n0_10 a1_0 w1_0 a1_1 w1_1 a1_2 a1_3 a1_4 a1_5 a1_6 a1_7 w1_7 a1_8 w1_8 a1_9 w1_9 a1_10 cap1_10 l1_10 hb1_10 n1_10 a2_0 w2_0 a2_1 w2_1 a2_2 w2_2 a2_3 w2_3 a2_4 w2_4 a2_5 w2_5 a2_6 w2_6 a2_7 w2_7 a2_8 w2_8 a2_9).mono fun e W' ⟨he,bel⟩ => ?_
 subst he
 exact⟨_,rfl,_,_,_,[],_,[],hW',trodAll_mk1 (shut_bool Tryd.underlying4 _),(trodAll_cons_mk (Below.trod laidOut (by kernel_rfl) (of_decide_eq_true (by kernel_rfl)) k0 bel lt0) (trodAll_cons_mk (Below.trod laidOut (by kernel_rfl) (of_decide_eq_true (by kernel_rfl)) k1 bel lt1) (trodAll_cons_mk (Below.trod laidOut (by kernel_rfl) (of_decide_eq_true (by kernel_rfl)) k2 bel lt2) trodAll_mk0))),rfl,bel.frame _,fun h=>by cases h⟩
theorem over:Rows.filterMasksRow.holds Tryd.pinned (OpenSpec.ofChange Rows.filterMasksSpec) :=
 OpenClaim.holds_of_wide 7 Tryd.f7 rfl rfl rfl rfl rfl rfl rfl ⟨rfl,rfl,rfl,rfl,rfl⟩ rfl rfl rfl rfl rfl (by kernel_rfl) Tryd.func7 (by kernel_rfl)
  (of_decide_eq_true (by kernel_rfl)) (by unfold Func.isWrapper;first | (rw[if_pos (by decide +kernel)];kernel_rfl) | (rw[if_neg (by decide +kernel)];exact⟨rfl,rfl⟩))
  (fun os started H enc _=>lifted os started H enc)
theorem plain (f : FuncId) (fn : Func) (hf : Tryd.pinned.checked.prog.funcNamed "omnibus/omnibuslaw15.FilterMasks" = some f) (hfn : Tryd.pinned.checked.prog.funcs[f]? = some fn) :
    false=Tryd.pinned.checked.prog.looks []/\∀ (j:Nat) t,fn.params[j]? = some t->Tryd.pinned.checked.prog.wantsStandIn t=false:=by
 obtain rfl : f = 7 := Option.some.inj ((show Tryd.prog.funcNamed "omnibus/omnibuslaw15.FilterMasks" = some 7 by kernel_rfl).symm.trans hf) |>.symm
 obtain rfl:fn=Tryd.f7:=(Option.some.inj (Tryd.func7.symm.trans hfn)).symm
 refine⟨by kernel_rfl,fun j t ht => ?_⟩
 rw[Tryd.params7] at ht
 have hm:t∈[28,42]:=by have:=Array.mem_of_getElem? ht;simp at this ⊢;omega
 have hall:([28,42].all fun u => !Tryd.prog.wantsStandIn u)=true:=by kernel_rfl
 exact (show Tryd.prog.wantsStandIn t=false by simpa using List.all_eq_true.1 hall t hm)
theorem proved:Rows.FilterMasksCardSaid :=
 Claim7.holds_tied_plain_at .later [] _ _ _ _ over (fun _ h=>by cases h) (by kernel_rfl) (fun _ h=>by cases h) filterMasks_row_tie rfl ⟨rfl,rfl⟩ (by kernel_rfl) rfl plain (by kernel_rfl)
#print axioms proved
end Go.Proofs.YtaohmgklhecjbaaDoor.filterMasks
