/- For every frame the law NodePair answers true and leaves its argument as it was; the package's tables are tied to the program's text. No conditions. -/
import Derived.Test.YtipefblpppmabaaGreatDoorRows
import Derived.Test.YtipefblpppmabaaGreatDoorCards
import Derived.Test.YtipefblpppmabaaGreatDoorTie
import Derived.Test.YtipefblpppmabaaGreatDoorNdE
import Derived.Test.YtipefblpppmabaaGreatDoorGv
import Derived.Test.YtipefblpppmabaaGreatDoorNdB
import Derived.Test.YtipefblpppmabaaGreatDoorGj
import Derived.Test.YtipefblpppmabaaGreatDoorGa
import Derived.Test.YtipefblpppmabaaGreatDoorFrmE
import Derived.WalkKit
import Derived.ProofKit
import Derived.OpenShut
import Derived.ShutString
import Derived.ChangeOld
import Derived.Below
import Derived.Carry
import Derived.Lib.SmallJoins
import Derived.Deep.RegionWith
import Derived.Deep.RegionHeld3
import Derived.LaidMore
import Derived.LaidLaws
import Derived.Stop.Joined
import Derived.SevenTiedAt
set_option maxHeartbeats 6000000
set_option maxRecDepth 100000
namespace Go.Proofs.YtipefblpppmabaaGreatDoor.nodePair
open Go.ChangeShapes Go.WideShapes Go.ChangeAt Go.RowKit Go.Joins
set_option linter.unusedVariables false
set_option linter.unusedSimpArgs false
theorem own:ownKnob Tryz.prog.godebug=none:=by kernel_rfl
theorem laidOut:laidOutB Tryz.prog=true:=by kernel_rfl
theorem arr11 {α:Type} {cs:Array α} (h:cs.size=11):∃ c0 c1 c2 c3 c4 c5 c6 c7 c8 c9 c10,cs=#[c0,c1,c2,c3,c4,c5,c6,c7,c8,c9,c10]:=by
 obtain⟨l⟩:=cs
 match l,h with
 | [c0,c1,c2,c3,c4,c5,c6,c7,c8,c9,c10],_=>exact⟨c0,c1,c2,c3,c4,c5,c6,c7,c8,c9,c10,rfl⟩
def prS (N k:Nat):Nat:=if N<=k then 1 else 0
theorem and_bus {x y:Nat} (hx:x<=1) (hy:y<=1):bits BinOp.and IntKind.u8 (x:Int) (y:Int)=((min x y:Nat):Int):=by
 rcases (by omega:x=0\/x=1) with rfl | rfl<;>rcases (by omega:y=0\/y=1) with rfl | rfl<;>decide
theorem pair_st (f:Hd) (l:List Nat):stV (prA f l ((rawF f l).length+13)) = .agg #[.int .i64 1,.int .i64 0,.int .i64 0,.int .i64 0,.bool false,.bool false]/\stV (prB f l ((rawF f l).length+13)) = .agg #[.int .i64 1,.int .i64 0,.int .i64 0,.int .i64 0,.bool false,.bool false]:=by
 obtain⟨h1,h2,h3,h4,h5,h6,h7,h8⟩:=pr_end f l
 simp[stV,Nd.count,h1,h2,h3,h4,h5,h6,h7,h8,Fa.zero]
theorem walk (w:World) (hK:Both w) (a0_0:Int) (w0_0:(Lit.int .i64 a0_0).wf=true) (a0_1:Int) (w0_1:(Lit.int .u32 a0_1).wf=true) (a0_2:Bool) (a0_3:Bool) (a0_4:Bool) (a0_5:Bool) (a0_6:Bool) (a0_7:Int) (w0_7:(Lit.int .u8 a0_7).wf=true) (a0_8:Int) (w0_8:(Lit.int .u8 a0_8).wf=true) (a0_9:Int) (w0_9:(Lit.int .u32 a0_9).wf=true) (a0_10:Option Addr) (cap0_10:Nat) (l0_10:List Nat) (h0_10:Bs w a0_10 cap0_10 l0_10) (n0_10:a0_10=none->cap0_10=0) :
    Calls Tryz.prog 4 #[.agg #[.int .i64 a0_0,.int .u32 a0_1,.bool a0_2,.bool a0_3,.bool a0_4,.bool a0_5,.bool a0_6,.int .u8 a0_7,.int .u8 a0_8,.int .u32 a0_9,.slice a0_10 l0_10.length cap0_10]] w fun e w'=>e = .returned (.bool true)/\Nb w w':=by
 have hL0:=h0_10.len
 have hW:WdX ⟨a0_0,a0_1,a0_2,a0_3,a0_4,a0_5,a0_6,a0_7,a0_8,a0_9⟩:=by
  simp[Lit.wf,IntKind.min,IntKind.max,IntKind.signed,IntKind.bits] at w0_1 w0_7 w0_8 w0_9
  simp only[WdX]
  omega
 have HK:=Lib.hid hK
 have HA:=Lib.hid h0_10
 have HN0:=Lib.hid n0_10
 have hbB:=Lib.hid h0_10.hbyte
 obtain⟨W0,hW0⟩:∃ W0,W0=w.alloc (.cells #[.int .i64 a0_0,.int .u32 a0_1,.bool a0_2,.bool a0_3,.bool a0_4,.bool a0_5,.bool a0_6,.int .u8 a0_7,.int .u8 a0_8,.int .u32 a0_9,.slice a0_10 l0_10.length cap0_10] 34):=⟨_,rfl⟩
 have QF:=Lib.hid (show Blk W0 w.heap.size #[.int .i64 a0_0,.int .u32 a0_1,.bool a0_2,.bool a0_3,.bool a0_4,.bool a0_5,.bool a0_6,.int .u8 a0_7,.int .u8 a0_8,.int .u32 a0_9,.slice a0_10 l0_10.length cap0_10] 34 by rw[hW0];exact Blk.new _ _ _)
 have M0:=Lib.hid (show Nb w W0 by rw[hW0];exact Nb.rfl.al _)
 have HW0:=Lib.hid hW0
 obtain⟨fh,hfe⟩:∃ fh:Hd,fh=⟨a0_0,a0_1,a0_2,a0_3,a0_4,a0_5,a0_6,a0_7,a0_8,a0_9⟩:=⟨_,rfl⟩
 have hcs:∀ v,fh.cs v=#[.int .i64 a0_0,.int .u32 a0_1,.bool a0_2,.bool a0_3,.bool a0_4,.bool a0_5,.bool a0_6,.int .u8 a0_7,.int .u8 a0_8,.int .u32 a0_9,v]:=fun v=>by rw[hfe];rfl
 rw[<- hfe] at hW
 have F0:=Lib.hid (fun w' (n:Nb w w')=>by
  have q:=check5_any fh a0_10 cap0_10 l0_10 w' (HA.out.below n) (HK.out.below n).longer
  rw[hcs] at q
  exact q)
 clear hK h0_10 w0_0 w0_1 w0_7 w0_8 w0_9 n0_10 hW0
 cases hok:okF fh l0_10 with
 | false =>
   rw[show checkN fh l0_10=2 by simp[checkN,hok]] at F0
   clear hok hW hfe hcs
   go_enter Tryz.func4,Tryz.ntmps4
   go_wp2_with fail
   rw[<- HW0.out]
   refine (alive12_any _ (HK.out.below M0.out)).mono ?_
   rintro e w1 ⟨rfl,n1⟩
   have Q1:=Lib.hid (QF.out.nb n1)
   have M1:=Lib.hid (M0.out.tr n1)
   clear n1
   obtain⟨c0,c1,c2,c3,c4,c5,c6,c7,c8,c9,c10⟩:=Q1.out.c11
   go_wp2_with fail
   refine (F0.out _ M1.out).mono ?_
   rintro e w2 ⟨rfl,n2⟩
   go_wp2
   go_ret
   exact⟨rfl,M1.out.tr n2⟩
 | true =>
   have hFr:Fr fh l0_10:=⟨hok,hW,hbB.out⟩
   rw[show checkN fh l0_10=0 by simp[checkN,hok]] at F0
   clear hok
   by_cases hbig:100 < l0_10.length
   ·have d0:decide ((100:Int) < (l0_10.length:Int))=true:=decide_eq_true (by omega)
    clear hbig hW hFr hfe hcs
    go_enter Tryz.func4,Tryz.ntmps4
    go_wp2_with fail
    rw[<- HW0.out]
    refine (alive12_any _ (HK.out.below M0.out)).mono ?_
    rintro e w1 ⟨rfl,n1⟩
    have Q1:=Lib.hid (QF.out.nb n1)
    have M1:=Lib.hid (M0.out.tr n1)
    clear n1
    obtain⟨c0,c1,c2,c3,c4,c5,c6,c7,c8,c9,c10⟩:=Q1.out.c11
    go_wp2_with fail
    refine (F0.out _ M1.out).mono ?_
    rintro e w2 ⟨rfl,n2⟩
    obtain⟨c0,c1,c2,c3,c4,c5,c6,c7,c8,c9,c10⟩:=(Q1.out.nb n2).c11
    go_wp2
    go_ret
    exact⟨rfl,M1.out.tr n2⟩
   have d0:decide ((100:Int) < (l0_10.length:Int))=false:=decide_eq_false (by omega)
   clear hbig
   obtain⟨b1,b2,b3,b4⟩:=pair_load hFr
   have HB:=Lib.hid (fun w' (m:Nb W0 w')=>HK.out.below (M0.out.tr m))
   have HD:=Lib.hid (fun w' (m:Nb W0 w')=>HA.out.below (M0.out.tr m))
   have hloadA:=fun w' v F (h:NodeAt w' v (Nd.joined true) F) (m:Nb W0 w')=>load12_any v (Nd.joined true) F fh a0_10 cap0_10 l0_10 w' h (joined_ok true) (HB.out w' m) (HD.out w' m) HN0.out hW
   rw[b1,b2] at hloadA
   have hloadB:=fun w' v F (h:NodeAt w' v (prA fh l0_10 0) F) (m:Nb W0 w')=>load12_any v (prA fh l0_10 0) F fh a0_10 cap0_10 l0_10 w' h (prA_ok hFr 0 (by omega)) (HB.out w' m) (HD.out w' m) HN0.out hW
   rw[b3,b4] at hloadB
   have hwire:=fun w' (m:Nb W0 w')=>refwire9_any fh a0_10 cap0_10 l0_10 w' (HD.out w' m) hW HN0.out
   have hsame:=fun w' a c (b:Bs w' a c l0_10) (m:Nb W0 w')=>same5_any fh fh a a0_10 c cap0_10 l0_10 l0_10 w' b (HD.out w' m)
   rw[show sameF fh fh l0_10 l0_10=true by simp[sameF,Hd.eqb]] at hsame
   have hZe:=hFr.len.1
   have hZr:=hFr.raw_len
   generalize wF fh l0_10=Z at hwire hZe
   generalize arbF fh l0_10=zA at hwire
   generalize ackF fh l0_10=zK at hwire
   generalize erF fh l0_10=zE at hwire
   have hZ:Z.length<=60010:=by omega
   simp only[hcs] at hloadA hloadB hwire hsame
   have HZ:=Lib.hid hZe
   have HFr:=Lib.hid hFr
   have HLA:=Lib.hid hloadA
   have HLB:=Lib.hid hloadB
   have HWI:=Lib.hid hwire
   have HSM:=Lib.hid hsame
   have HFE:=Lib.hid hfe
   clear hloadA hloadB hwire hsame b1 b2 b3 b4 hFr hW hZe hZr hcs hfe
   go_enter Tryz.func4,Tryz.ntmps4
   go_wp2_with fail
   rw[<- HW0.out]
   refine (alive12_any _ (HK.out.below M0.out)).mono ?_
   rintro e w1 ⟨rfl,n1⟩
   have Q1:=Lib.hid (QF.out.nb n1)
   have K1:=Lib.hid n1
   clear n1
   obtain⟨c0,c1,c2,c3,c4,c5,c6,c7,c8,c9,c10⟩:=Q1.out.c11
   go_wp2_with fail
   refine (F0.out _ (M0.out.tr K1.out)).mono ?_
   rintro e w2 ⟨rfl,n2⟩
   have Q2:=Lib.hid (Q1.out.nb n2)
   have K2:=Lib.hid (K1.out.tr n2)
   clear n2 c0 c1 c2 c3 c4 c5 c6 c7 c8 c9 c10
   obtain⟨c0,c1,c2,c3,c4,c5,c6,c7,c8,c9,c10⟩:=Q2.out.c11
   go_wp2_with fail
   refine (joined12_any true _ (HB.out _ K2.out)).mono ?_
   rintro e w3 ⟨va,rfl,g3⟩
   have HN3:=Lib.hid ((Nodes.nil W0 w2 K2.out).add g3)
   clear g3
   go_wp2_with fail
   refine (joined12_any true _ (HB.out _ HN3.out.nb)).mono ?_
   rintro e w4 ⟨vb,rfl,g4⟩
   have HN4:Hid (Nodes W0 w4 [(va,Nd.joined true),(vb,Nd.joined true)]):=Lib.hid (HN3.out.add g4)
   clear g4 HN3 c0 c1 c2 c3 c4 c5 c6 c7 c8 c9 c10
   obtain⟨c0,c1,c2,c3,c4,c5,c6,c7,c8,c9,c10⟩:=(QF.out.nb HN4.out.nb).c11
   have HG:Hid (∃ F,NodesF W0 w4 [(va,Nd.joined true),(vb,Nd.joined true)] F):=HN4
   obtain⟨F4,h4⟩:=HG.out
   have H4:=Lib.hid h4
   clear h4 HG
   go_wp2_with fail
   refine (HLA.out _ va _ (H4.out.has 0 va _ rfl) H4.out.nb).mono ?_
   rintro e w5 ⟨F',rfl,g1,g2,g3⟩
   have H5:Hid (NodesF W0 w5 [(va,prA fh l0_10 0),(vb,Nd.joined true)] _):=Lib.hid (H4.out.turn 0 rfl g1 g2 g3)
   clear g1 g2 g3 c0 c1 c2 c3 c4 c5 c6 c7 c8 c9 c10
   obtain⟨c0,c1,c2,c3,c4,c5,c6,c7,c8,c9,c10⟩:=(QF.out.nb H5.out.nb).c11
   go_wp2_with fail
   refine (HLB.out _ va _ (H5.out.has 0 va _ rfl) H5.out.nb).mono ?_
   rintro e w6 ⟨F'',rfl,g1,g2,g3⟩
   have HN6:Hid (Nodes W0 w6 [(va,prA fh l0_10 0),(vb,prB fh l0_10 0)]):=Lib.hid ⟨_,H5.out.turn 0 rfl g1 g2 g3⟩
   clear g1 g2 g3 c0 c1 c2 c3 c4 c5 c6 c7 c8 c9 c10 H4 H5 HN4
   obtain⟨c0,c1,c2,c3,c4,c5,c6,c7,c8,c9,c10⟩:=(QF.out.nb HN6.out.nb).c11
   go_wp2_with fail
   refine (HWI.out _ HN6.out.nb).mono ?_
   rintro e w7 ⟨⟨az,cz,rfl,_⟩,n7⟩
   have HN7:=Lib.hid (HN6.out.keep n7)
   clear n7 HN6 c0 c1 c2 c3 c4 c5 c6 c7 c8 c9 c10 HLA HLB HWI
   go_wp2
   go_loopw [7,8,46] (fun sv gv ix wr=>∃ k:Nat,k<=Z.length+3/\ix = .int .i64 k/\sv = .int .i64 (prS Z.length k:Nat)/\gv = .int .i64 (prS Z.length (k+1):Nat)/\Nodes W0 wr [(va,prA fh l0_10 k),(vb,prB fh l0_10 k)]) (fun _ _ ix _=>Z.length+3 - (intOf ix).toNat)
   case atStart=>exact⟨0,Nat.zero_le _,rfl,by rw[show prS Z.length 0=0 from if_neg (by have:=HZ.out;omega)];rfl,by rw[show prS Z.length (0+1)=0 from if_neg (by have:=HZ.out;have:=HFr.out.raw_len;omega)];rfl,HN7.out.keep (by first | exact Nb.rfl | exact Nb.rfl.al _ | exact (Nb.rfl.al _).al _)⟩
   case round =>
    obtain⟨k,hk,rfl,rfl,rfl,F,hN⟩:=hrel
    have N:=Lib.hid hN
    have okA:=Lib.hid (prA_ok HFr.out k (by have:=HZ.out;omega))
    have okB:=Lib.hid (prB_ok HFr.out k (by have:=HZ.out;omega))
    obtain⟨s,hs⟩:∃ s,prS Z.length k=s:=⟨_,rfl⟩
    obtain⟨g,hg⟩:∃ g,prS Z.length (k+1)=g:=⟨_,rfl⟩
    rw[hs,hg]
    have HS:=Lib.hid hs
    have HG:=Lib.hid hg
    clear hN hs hg HN7
    by_cases hlt:k < Z.length+3
    ·have hlt':decide ((k:Int) < (Z.length:Int)+3)=true:=decide_eq_true (by omega)
     have hi:k < (rawF fh l0_10).length+13:=by have:=HZ.out;omega
     have sA:=(prA_step HFr.out hi).2
     have sB:=(prB_step HFr.out hi).2
     obtain⟨p1,p2,p3⟩:=pr_bus HFr.out hi
     have hand:=and_bus p1 p2
     rw[p3] at hand
     have hle:=prW_le HFr.out k hi
     obtain⟨x1,x2⟩:=pr_short HFr.out k
     have HOA:=Lib.hid (out12_any va _ _ wr (N.out.has 0 va _ rfl) okA.out (HB.out wr N.out.nb))
     have HOB:=Lib.hid (fun w' (m:Nb wr w')=>out12_any vb _ _ w' ((N.out.keep m).has 1 vb _ rfl) okB.out (HB.out w' (N.out.nb.tr m)))
     have hsA:=fun w' (m:Nb wr w')=>samp12_any va _ _ (prW fh l0_10 k) w' ((N.out.keep m).has 0 va _ rfl) okA.out (fun _=>x1) (HB.out w' (N.out.nb.tr m)) hle
     have hsB:=fun w' F' (h:NodeAt w' vb (prB fh l0_10 k) F') (m:Nb W0 w')=>samp12_any vb _ F' (prW fh l0_10 k) w' h okB.out (fun _=>x2) (HB.out w' m) hle
     generalize hrA:(prA fh l0_10 k).step (prW fh l0_10 k)=rA at hsA sA
     generalize hrB:(prB fh l0_10 k).step (prW fh l0_10 k)=rB at hsB sB
     obtain⟨nA,⟨xk,xe,⟨xK,xI,xX,xR,xB,xE,xS,xD,xV,xA⟩,xl⟩⟩:=rA
     obtain⟨nB,⟨yk,ye,⟨yK,yI,yX,yR,yB,yE,yS,yD,yV,yA⟩,yl⟩⟩:=rB
     obtain⟨rfl,eA⟩:=Prod.mk.inj sA
     obtain⟨rfl,eB⟩:=Prod.mk.inj sB
     generalize (prA fh l0_10 k).out=oA at hand HOA
     generalize (prB fh l0_10 k).out=oB at hand HOB
     generalize prW fh l0_10 k=wb at hand hsA hsB
     have HSA:=Lib.hid hsA
     have HSB:=Lib.hid hsB
     have EA:=Lib.hid eA
     have EB:=Lib.hid eB
     clear hsA hsB sA sB eA eB hrA hrB p1 p2 p3 hle x1 x2
     go_wp2_with fail
     refine HOA.out.mono ?_
     rintro e w6 ⟨rfl,n6⟩
     have K6:=Lib.hid n6
     clear n6
     go_wp2_with fail
     refine (HOB.out _ K6.out).mono ?_
     rintro e w8 ⟨rfl,n8⟩
     have K8:=Lib.hid (K6.out.tr n8)
     clear n8 HOA HOB
     go_wp2_with fail
     refine (HSA.out _ K8.out).mono ?_
     rintro e w9 ⟨F9,⟨a,c,rfl,bx,hx⟩,g1,g2,g3⟩
     have N9:Hid (NodesF W0 w9 [(va,prA fh l0_10 (k+1)),(vb,prB fh l0_10 k)] _):=Lib.hid ((N.out.keep K8.out).turn 0 rfl g1 g2 g3)
     have X9:=Lib.hid bx
     have A9:=Lib.hid (fun b o t e=>(N.out.keep K8.out).out (i:=0) (j:=1) (by simp) (by simp) (by decide) g3 b (hx b o t e))
     clear g1 g2 g3 bx hx HSA
     simp only[evV,staV]
     go_wp2_with fail
     refine (HSB.out _ _ ((N9.out.keep (Nb.rfl.al _)).has 1 vb _ rfl) (N9.out.nb.al _)).mono ?_
     rintro e wA ⟨FA,⟨a',c',rfl,by',hy⟩,g1,g2,g3⟩
     have NA:Hid (NodesF W0 wA [(va,prA fh l0_10 (k+1)),(vb,prB fh l0_10 (k+1))] _):=Lib.hid ((N9.out.keep (Nb.rfl.al _)).turn 1 rfl g1 g2 g3)
     have XA:=Lib.hid ((X9.out.below (Nb.rfl.al _)).keepKp g2 A9.out)
     have YA:=Lib.hid by'
     have EX:=Lib.hid ((Blk.new w9 #[.int .i64 (xk:Nat),.int .i64 (xe:Nat),.int .i64 xK,.int .u32 xI,.bool xX,.bool xR,.bool xB,.bool xE,.bool xS,.int .u8 xD,.int .u8 xV,.int .u32 xA,.slice a xl.length c] 36).keep g2 (fun hh=>Nat.lt_irrefl _ (N9.out.lt (j:=1) (by simp) _ hh)))
     clear g1 g2 g3 by' hy HSB N9 X9 A9
     simp only[evV,staV]
     by_cases hA:k+1=(rawF fh l0_10).length+10
     ·have qA:=EA.out
      have qB:=EB.out
      rw[if_pos hA,HFE.out] at qA
      rw[if_neg (by omega)] at qB
      cases qA
      cases qB
      obtain rfl:s=0:=by rw[<- HS.out];exact if_neg (by have:=HZ.out;omega)
      obtain rfl:g=1:=by rw[<- HG.out];exact if_pos (by have:=HZ.out;omega)
      have hS1:=Lib.hid (show prS Z.length (k+1)=1 from if_pos (by have:=HZ.out;omega))
      have hG1:=Lib.hid (show prS Z.length (k+1+1)=1 from if_pos (by have:=HZ.out;omega))
      obtain⟨c0,c1,c2,c3,c4,c5,c6,c7,c8,c9,c10⟩:=(QF.out.nb (NA.out.nb.al (.cells #[.int .i64 0,.int .i64 0,.int .i64 0,.int .u32 0,.bool false,.bool false,.bool false,.bool false,.bool false,.int .u8 0,.int .u8 0,.int .u32 0,.slice a' 0 c'] 36))).c11
      obtain⟨x0,x1,x2,x3,x4,x5,x6,x7,x8,x9,x10,x11,x12⟩:=(Blk.h13 (EX.out.nb (Nb.rfl.al (.cells #[.int .i64 0,.int .i64 0,.int .i64 0,.int .u32 0,.bool false,.bool false,.bool false,.bool false,.bool false,.int .u8 0,.int .u8 0,.int .u32 0,.slice a' 0 c'] 36)))).2.1
      clear hA EA EB HS HG
      go_wp2_with fail
      refine (HSM.out _ _ _ (XA.out.below (Nb.rfl.al _)) (NA.out.nb.al _)).mono ?_
      rintro e wB ⟨rfl,nB⟩
      have NB':=Lib.hid (NA.out.keep ((Nb.rfl.al _).tr nB))
      have EY:=Lib.hid ((Blk.new wA #[.int .i64 0,.int .i64 0,.int .i64 0,.int .u32 0,.bool false,.bool false,.bool false,.bool false,.bool false,.int .u8 0,.int .u8 0,.int .u32 0,.slice a' 0 c'] 36).nb nB)
      clear nB x0 x1 x2 x3 x4 x5 x6 x7 x8 x9 x10 x11 x12 c0 c1 c2 c3 c4 c5 c6 c7 c8 c9 c10
      obtain⟨x0,x1,x2,x3,x4,x5,x6,x7,x8,x9,x10,x11,x12⟩:=(Blk.h13 EY.out).2.1
      go_wp2
      go_roundw
      case rel=>exact⟨k+1,by omega,by go_num,by rw[hS1.out];rfl,by rw[hG1.out];rfl,_,NB'.out⟩
      case measure=>simp[intOf];omega
     by_cases hB:k+1=(rawF fh l0_10).length+9
     ·have qA:=EA.out
      have qB:=EB.out
      rw[if_neg hA] at qA
      rw[if_pos hB,HFE.out] at qB
      cases qA
      cases qB
      obtain rfl:s=0:=by rw[<- HS.out];exact if_neg (by have:=HZ.out;omega)
      obtain rfl:g=0:=by rw[<- HG.out];exact if_neg (by have:=HZ.out;omega)
      have hS1:=Lib.hid (show prS Z.length (k+1)=0 from if_neg (by have:=HZ.out;omega))
      have hG1:=Lib.hid (show prS Z.length (k+1+1)=1 from if_pos (by have:=HZ.out;omega))
      obtain⟨c0,c1,c2,c3,c4,c5,c6,c7,c8,c9,c10⟩:=(QF.out.nb (NA.out.nb.al (.cells #[.int .i64 2,.int .i64 0,.int .i64 a0_0,.int .u32 a0_1,.bool a0_2,.bool a0_3,.bool a0_4,.bool a0_5,.bool a0_6,.int .u8 a0_7,.int .u8 a0_8,.int .u32 a0_9,.slice a' l0_10.length c'] 36))).c11
      obtain⟨x0,x1,x2,x3,x4,x5,x6,x7,x8,x9,x10,x11,x12⟩:=(Blk.h13 (EX.out.nb (Nb.rfl.al (.cells #[.int .i64 2,.int .i64 0,.int .i64 a0_0,.int .u32 a0_1,.bool a0_2,.bool a0_3,.bool a0_4,.bool a0_5,.bool a0_6,.int .u8 a0_7,.int .u8 a0_8,.int .u32 a0_9,.slice a' l0_10.length c'] 36)))).2.1
      clear hA hB EA EB HS HG
      go_wp2_with fail
      refine (HSM.out _ _ _ (YA.out.below (Nb.rfl.al _)) (NA.out.nb.al _)).mono ?_
      rintro e wB ⟨rfl,nB⟩
      have NB':=Lib.hid (NA.out.keep ((Nb.rfl.al _).tr nB))
      clear nB x0 x1 x2 x3 x4 x5 x6 x7 x8 x9 x10 x11 x12 c0 c1 c2 c3 c4 c5 c6 c7 c8 c9 c10
      go_wp2
      go_roundw
      case rel=>exact⟨k+1,by omega,by go_num,by rw[hS1.out];rfl,by rw[hG1.out];rfl,_,NB'.out⟩
      case measure=>simp[intOf];omega
     ·have qA:=EA.out
      have qB:=EB.out
      rw[if_neg hA] at qA
      rw[if_neg hB] at qB
      cases qA
      cases qB
      have hS1:=Lib.hid (show prS Z.length (k+1)=s by rw[<- HS.out];unfold prS;have:=HZ.out;(repeat' split)<;>omega)
      have hG1:=Lib.hid (show prS Z.length (k+1+1)=g by rw[<- HG.out];unfold prS;have:=HZ.out;(repeat' split)<;>omega)
      obtain⟨c0,c1,c2,c3,c4,c5,c6,c7,c8,c9,c10⟩:=(QF.out.nb (NA.out.nb.al (.cells #[.int .i64 0,.int .i64 0,.int .i64 0,.int .u32 0,.bool false,.bool false,.bool false,.bool false,.bool false,.int .u8 0,.int .u8 0,.int .u32 0,.slice a' 0 c'] 36))).c11
      obtain⟨x0,x1,x2,x3,x4,x5,x6,x7,x8,x9,x10,x11,x12⟩:=(Blk.h13 (EX.out.nb (Nb.rfl.al (.cells #[.int .i64 0,.int .i64 0,.int .i64 0,.int .u32 0,.bool false,.bool false,.bool false,.bool false,.bool false,.int .u8 0,.int .u8 0,.int .u32 0,.slice a' 0 c'] 36)))).2.1
      clear hA hB EA EB HS HG
      go_wp2
      go_roundw
      case rel=>exact⟨k+1,by omega,by go_num,by rw[hS1.out],by rw[hG1.out],_,NA.out.keep (by first | exact Nb.rfl.al _ | exact (Nb.rfl.al _).al _)⟩
      case measure=>simp[intOf];omega
    ·have hlt':decide ((k:Int) < (Z.length:Int)+3)=false:=decide_eq_false (by omega)
     obtain rfl:k=Z.length+3:=by omega
     obtain rfl:s=1:=by rw[<- HS.out];exact if_pos (by omega)
     obtain rfl:g=1:=by rw[<- HG.out];exact if_pos (by omega)
     have stA:=state12_any va _ _ wr (N.out.has 0 va _ rfl) okA.out (HB.out wr N.out.nb)
     have stB:=fun w' (m:Nb wr w')=>state12_any vb _ _ w' ((N.out.keep m).has 1 vb _ rfl) okB.out (HB.out w' (N.out.nb.tr m))
     obtain⟨e1,e2⟩:=pair_st fh l0_10
     rw[show (rawF fh l0_10).length+13=Z.length+3 by have:=HZ.out;omega] at e1 e2
     rw[e1] at stA
     rw[e2] at stB
     have STA:=Lib.hid stA
     have STB:=Lib.hid stB
     clear stA stB e1 e2
     go_wp2_with fail
     refine STA.out.mono ?_
     rintro e w6 ⟨rfl,n6⟩
     have K6:=Lib.hid n6
     clear n6
     go_wp2_with fail
     refine (STB.out _ K6.out).mono ?_
     rintro e w8 ⟨rfl,n8⟩
     have K8:=Lib.hid (M0.out.tr (N.out.nb.tr (K6.out.tr n8)))
     clear n8
     go_wp2
     go_ret
     exact⟨rfl,K8.out⟩
theorem door_met (os:Os) (args:Array Value):laidMetH Tryz.prog Rows.nodePairRow.laid ((World.doorLaid Tryz.prog 24 os).forCall (fun _ _=>0) ⟨#[],args,[]⟩).memory :=
 laidMetH_of_parts3 (fuel:=8) (laidMet_of_run' 8 (by kernel_rfl) (by kernel_rfl)) (by kernel_rfl) (by kernel_rfl)
theorem lifted (os:Os) (started:os.Started) (H:Type) (enc:TypeId × Value->H) :
    ReturnsInHanded {} Tryz.checked os 4 .any (fun w args=>(Rows.nodePairSpec.pre enc Tryz.prog Tryz.f4 [] false w args/\laidMetH Tryz.prog Rows.nodePairRow.laid w)/\sizedMet enc Tryz.prog Tryz.f4 (OpenSpec.ofChange Rows.nodePairSpec) false w args)
     (Rows.nodePairSpec.post enc Tryz.prog Tryz.f4 false true false false):=by
 refine returnsInHanded_of_change_and (C:=Tryz.checked) (X:=fun w _=>laidMetH Tryz.prog Rows.nodePairRow.laid w) (fun _ _ _ hh h=>h.of_heap hh) own started (by kernel_rfl) Tryz.func4
  (ChangeSpec.witness_shaped (enc:=enc) (C:=Tryz.checked) (os:=os) (X:=fun w _=>laidMetH Tryz.prog Rows.nodePairRow.laid w) false (World.doorLaid Tryz.prog 24 os) #[.agg #[.int .i64 0,.int .u32 0,.bool false,.bool false,.bool false,.bool false,.bool false,.int .u8 0,.int .u8 0,.int .u32 0,.slice none 0 0]] 8 rfl (World.shaped_of_RefB (by kernel_rfl) (by kernel_rfl)) (by kernel_rfl) (by kernel_rfl) (by kernel_rfl) (door_met os _)) ?_
 intro W base args ds gs before hval0 hW _ hR hL _
 have hval:∀ (j:Nat) t v,Tryz.f4.params[j]? = some t->args[j]? = some v->Value.okWide Tryz.prog W .any base t v:=hval0
 have hW':=hW
 obtain⟨p,q,hA0,hV,rfl,hfz,hnd⟩:=hW
 have hA:DataW.TrodAll enc Tryz.prog W 0 (fun _=>true) true Tryz.f4.params.toList args.toList ds p:=hA0
 rw[Tryz.params4] at hA hval
 obtain⟨v0,vs0,d0,ds0,p0,q0,hargs,rfl,rfl,h0,r0⟩:=trodAll_cons hA
 obtain⟨rfl,rfl,rfl⟩:=trodAll_nil r0
 obtain rfl:args=#[v0]:=by cases args;simp_all
 obtain⟨rfl,rfl⟩:=trodVars_none hV
 have k0:=h0
 have lt0:∀ x∈p0,x.block < W.heap.size:=by obtain⟨m,hm⟩:=k0;exact DataW.trod_lt m _ _ _ hm
 clear hA0
 obtain⟨cs0,rfl,hz0⟩:=okWide_struct Tryz.underlying34 (hval 0 34 v0 rfl rfl)
 obtain⟨c0_0,c0_1,c0_2,c0_3,c0_4,c0_5,c0_6,c0_7,c0_8,c0_9,c0_10,rfl⟩:=arr11 (hz0.trans (by kernel_rfl))
 obtain⟨fu0,hf0⟩:=h0
 have hc0:DataW.trod enc Tryz.prog W 0 (fun _=>true) true fu0 34 [c0_0,c0_1,c0_2,c0_3,c0_4,c0_5,c0_6,c0_7,c0_8,c0_9,c0_10]=some (d0,p0):=hf0
 obtain⟨m0_0,y0_0,g0_0⟩:=open_fld Tryz.underlying34 hc0 0 _ rfl
 have t0_0:DataW.trod enc Tryz.prog W 0 (fun _=>true) true m0_0 3 (([c0_0,c0_1,c0_2,c0_3,c0_4,c0_5,c0_6,c0_7,c0_8,c0_9,c0_10].drop 0).take (Tryz.prog.cellsOf 3))=some y0_0:=g0_0
 rw[show Tryz.prog.cellsOf 3=1 from by kernel_rfl] at t0_0
 have u0_0:DataW.trod enc Tryz.prog W 0 (fun _=>true) true m0_0 3 [c0_0]=some y0_0:=t0_0
 obtain⟨m0_1,y0_1,g0_1⟩:=open_fld Tryz.underlying34 hc0 1 _ rfl
 have t0_1:DataW.trod enc Tryz.prog W 0 (fun _=>true) true m0_1 31 (([c0_0,c0_1,c0_2,c0_3,c0_4,c0_5,c0_6,c0_7,c0_8,c0_9,c0_10].drop 1).take (Tryz.prog.cellsOf 31))=some y0_1:=g0_1
 rw[show Tryz.prog.cellsOf 31=1 from by kernel_rfl] at t0_1
 have u0_1:DataW.trod enc Tryz.prog W 0 (fun _=>true) true m0_1 31 [c0_1]=some y0_1:=t0_1
 obtain⟨m0_2,y0_2,g0_2⟩:=open_fld Tryz.underlying34 hc0 2 _ rfl
 have t0_2:DataW.trod enc Tryz.prog W 0 (fun _=>true) true m0_2 4 (([c0_0,c0_1,c0_2,c0_3,c0_4,c0_5,c0_6,c0_7,c0_8,c0_9,c0_10].drop 2).take (Tryz.prog.cellsOf 4))=some y0_2:=g0_2
 rw[show Tryz.prog.cellsOf 4=1 from by kernel_rfl] at t0_2
 have u0_2:DataW.trod enc Tryz.prog W 0 (fun _=>true) true m0_2 4 [c0_2]=some y0_2:=t0_2
 obtain⟨m0_3,y0_3,g0_3⟩:=open_fld Tryz.underlying34 hc0 3 _ rfl
 have t0_3:DataW.trod enc Tryz.prog W 0 (fun _=>true) true m0_3 4 (([c0_0,c0_1,c0_2,c0_3,c0_4,c0_5,c0_6,c0_7,c0_8,c0_9,c0_10].drop 3).take (Tryz.prog.cellsOf 4))=some y0_3:=g0_3
 rw[show Tryz.prog.cellsOf 4=1 from by kernel_rfl] at t0_3
 have u0_3:DataW.trod enc Tryz.prog W 0 (fun _=>true) true m0_3 4 [c0_3]=some y0_3:=t0_3
 obtain⟨m0_4,y0_4,g0_4⟩:=open_fld Tryz.underlying34 hc0 4 _ rfl
 have t0_4:DataW.trod enc Tryz.prog W 0 (fun _=>true) true m0_4 4 (([c0_0,c0_1,c0_2,c0_3,c0_4,c0_5,c0_6,c0_7,c0_8,c0_9,c0_10].drop 4).take (Tryz.prog.cellsOf 4))=some y0_4:=g0_4
 rw[show Tryz.prog.cellsOf 4=1 from by kernel_rfl] at t0_4
 have u0_4:DataW.trod enc Tryz.prog W 0 (fun _=>true) true m0_4 4 [c0_4]=some y0_4:=t0_4
 obtain⟨m0_5,y0_5,g0_5⟩:=open_fld Tryz.underlying34 hc0 5 _ rfl
 have t0_5:DataW.trod enc Tryz.prog W 0 (fun _=>true) true m0_5 4 (([c0_0,c0_1,c0_2,c0_3,c0_4,c0_5,c0_6,c0_7,c0_8,c0_9,c0_10].drop 5).take (Tryz.prog.cellsOf 4))=some y0_5:=g0_5
 rw[show Tryz.prog.cellsOf 4=1 from by kernel_rfl] at t0_5
 have u0_5:DataW.trod enc Tryz.prog W 0 (fun _=>true) true m0_5 4 [c0_5]=some y0_5:=t0_5
 obtain⟨m0_6,y0_6,g0_6⟩:=open_fld Tryz.underlying34 hc0 6 _ rfl
 have t0_6:DataW.trod enc Tryz.prog W 0 (fun _=>true) true m0_6 4 (([c0_0,c0_1,c0_2,c0_3,c0_4,c0_5,c0_6,c0_7,c0_8,c0_9,c0_10].drop 6).take (Tryz.prog.cellsOf 4))=some y0_6:=g0_6
 rw[show Tryz.prog.cellsOf 4=1 from by kernel_rfl] at t0_6
 have u0_6:DataW.trod enc Tryz.prog W 0 (fun _=>true) true m0_6 4 [c0_6]=some y0_6:=t0_6
 obtain⟨m0_7,y0_7,g0_7⟩:=open_fld Tryz.underlying34 hc0 7 _ rfl
 have t0_7:DataW.trod enc Tryz.prog W 0 (fun _=>true) true m0_7 5 (([c0_0,c0_1,c0_2,c0_3,c0_4,c0_5,c0_6,c0_7,c0_8,c0_9,c0_10].drop 7).take (Tryz.prog.cellsOf 5))=some y0_7:=g0_7
 rw[show Tryz.prog.cellsOf 5=1 from by kernel_rfl] at t0_7
 have u0_7:DataW.trod enc Tryz.prog W 0 (fun _=>true) true m0_7 5 [c0_7]=some y0_7:=t0_7
 obtain⟨m0_8,y0_8,g0_8⟩:=open_fld Tryz.underlying34 hc0 8 _ rfl
 have t0_8:DataW.trod enc Tryz.prog W 0 (fun _=>true) true m0_8 5 (([c0_0,c0_1,c0_2,c0_3,c0_4,c0_5,c0_6,c0_7,c0_8,c0_9,c0_10].drop 8).take (Tryz.prog.cellsOf 5))=some y0_8:=g0_8
 rw[show Tryz.prog.cellsOf 5=1 from by kernel_rfl] at t0_8
 have u0_8:DataW.trod enc Tryz.prog W 0 (fun _=>true) true m0_8 5 [c0_8]=some y0_8:=t0_8
 obtain⟨m0_9,y0_9,g0_9⟩:=open_fld Tryz.underlying34 hc0 9 _ rfl
 have t0_9:DataW.trod enc Tryz.prog W 0 (fun _=>true) true m0_9 31 (([c0_0,c0_1,c0_2,c0_3,c0_4,c0_5,c0_6,c0_7,c0_8,c0_9,c0_10].drop 9).take (Tryz.prog.cellsOf 31))=some y0_9:=g0_9
 rw[show Tryz.prog.cellsOf 31=1 from by kernel_rfl] at t0_9
 have u0_9:DataW.trod enc Tryz.prog W 0 (fun _=>true) true m0_9 31 [c0_9]=some y0_9:=t0_9
 obtain⟨m0_10,y0_10,g0_10⟩:=open_fld Tryz.underlying34 hc0 10 _ rfl
 have t0_10:DataW.trod enc Tryz.prog W 0 (fun _=>true) true m0_10 32 (([c0_0,c0_1,c0_2,c0_3,c0_4,c0_5,c0_6,c0_7,c0_8,c0_9,c0_10].drop 10).take (Tryz.prog.cellsOf 32))=some y0_10:=g0_10
 rw[show Tryz.prog.cellsOf 32=1 from by kernel_rfl] at t0_10
 have u0_10:DataW.trod enc Tryz.prog W 0 (fun _=>true) true m0_10 32 [c0_10]=some y0_10:=t0_10
 obtain⟨a0_0,e0_0,x0_0,w0_0⟩:=DataW.trod_int Tryz.underlying3 u0_0
 obtain rfl:c0_0 = .int .i64 a0_0:=by simpa using e0_0
 obtain⟨a0_1,e0_1,x0_1,w0_1⟩:=DataW.trod_int Tryz.underlying31 u0_1
 obtain rfl:c0_1 = .int .u32 a0_1:=by simpa using e0_1
 obtain⟨a0_2,e0_2,x0_2⟩:=DataW.trod_bool Tryz.underlying4 u0_2
 obtain rfl:c0_2 = .bool a0_2:=by simpa using e0_2
 obtain⟨a0_3,e0_3,x0_3⟩:=DataW.trod_bool Tryz.underlying4 u0_3
 obtain rfl:c0_3 = .bool a0_3:=by simpa using e0_3
 obtain⟨a0_4,e0_4,x0_4⟩:=DataW.trod_bool Tryz.underlying4 u0_4
 obtain rfl:c0_4 = .bool a0_4:=by simpa using e0_4
 obtain⟨a0_5,e0_5,x0_5⟩:=DataW.trod_bool Tryz.underlying4 u0_5
 obtain rfl:c0_5 = .bool a0_5:=by simpa using e0_5
 obtain⟨a0_6,e0_6,x0_6⟩:=DataW.trod_bool Tryz.underlying4 u0_6
 obtain rfl:c0_6 = .bool a0_6:=by simpa using e0_6
 obtain⟨a0_7,e0_7,x0_7,w0_7⟩:=DataW.trod_int Tryz.underlying5 u0_7
 obtain rfl:c0_7 = .int .u8 a0_7:=by simpa using e0_7
 obtain⟨a0_8,e0_8,x0_8,w0_8⟩:=DataW.trod_int Tryz.underlying5 u0_8
 obtain rfl:c0_8 = .int .u8 a0_8:=by simpa using e0_8
 obtain⟨a0_9,e0_9,x0_9,w0_9⟩:=DataW.trod_int Tryz.underlying31 u0_9
 obtain rfl:c0_9 = .int .u32 a0_9:=by simpa using e0_9
 obtain⟨a0_10,cap0_10,l0_10,e0_10,hb0_10,n0_10⟩:=bytes_open u0_10
 subst e0_10
 refine (walk W (both_of hL) a0_0 w0_0 a0_1 w0_1 a0_2 a0_3 a0_4 a0_5 a0_6 a0_7 w0_7 a0_8 w0_8 a0_9 w0_9 a0_10 cap0_10 l0_10 hb0_10 n0_10).mono fun e W' ⟨he,bel⟩ => ?_
 subst he
 exact⟨_,rfl,_,_,_,[],_,[],hW',trodAll_mk1 (shut_bool Tryz.underlying4 _),(trodAll_cons_mk (Below.trod laidOut (by kernel_rfl) (of_decide_eq_true (by kernel_rfl)) k0 bel lt0) trodAll_mk0),rfl,bel.frame _,fun h=>by cases h⟩
theorem over:Rows.nodePairRow.holds Tryz.pinned (OpenSpec.ofChange Rows.nodePairSpec) :=
 OpenClaim.holds_of_wide 4 Tryz.f4 rfl rfl rfl rfl rfl rfl rfl ⟨rfl,rfl,rfl,rfl,rfl⟩ rfl rfl rfl rfl rfl (by kernel_rfl) Tryz.func4 (by kernel_rfl)
  (of_decide_eq_true (by kernel_rfl)) (by unfold Func.isWrapper;first | (rw[if_pos (by decide +kernel)];kernel_rfl) | (rw[if_neg (by decide +kernel)];exact⟨rfl,rfl⟩))
  (fun os started H enc _=>lifted os started H enc)
theorem plain (f : FuncId) (fn : Func) (hf : Tryz.pinned.checked.prog.funcNamed "omnibus/omnibuslaw12.NodePair" = some f) (hfn : Tryz.pinned.checked.prog.funcs[f]? = some fn) :
    false=Tryz.pinned.checked.prog.looks []/\∀ (j:Nat) t,fn.params[j]? = some t->Tryz.pinned.checked.prog.wantsStandIn t=false:=by
 obtain rfl : f = 4 := Option.some.inj ((show Tryz.prog.funcNamed "omnibus/omnibuslaw12.NodePair" = some 4 by kernel_rfl).symm.trans hf) |>.symm
 obtain rfl:fn=Tryz.f4:=(Option.some.inj (Tryz.func4.symm.trans hfn)).symm
 refine⟨by kernel_rfl,fun j t ht => ?_⟩
 rw[Tryz.params4] at ht
 have hm:t∈[34]:=by have:=Array.mem_of_getElem? ht;simp at this ⊢;omega
 have hall:([34].all fun u => !Tryz.prog.wantsStandIn u)=true:=by kernel_rfl
 exact (show Tryz.prog.wantsStandIn t=false by simpa using List.all_eq_true.1 hall t hm)
theorem proved:Rows.NodePairCardSaid :=
 Claim7.holds_tied_plain_at .later [] _ _ _ _ over (fun _ h=>by cases h) (by kernel_rfl) (fun _ h=>by cases h) nodePair_row_tie rfl ⟨rfl,rfl⟩ (by kernel_rfl) rfl plain (by kernel_rfl)
#print axioms proved
end Go.Proofs.YtipefblpppmabaaGreatDoor.nodePair
