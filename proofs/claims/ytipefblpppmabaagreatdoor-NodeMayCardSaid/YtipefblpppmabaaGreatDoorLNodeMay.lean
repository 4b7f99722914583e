/- For every frame and row the law NodeMay answers true and leaves its arguments as they were; the package's tables are tied to the program's text. No conditions. -/
import Derived.Test.YtipefblpppmabaaGreatDoorRows
import Derived.Test.YtipefblpppmabaaGreatDoorCards
import Derived.Test.YtipefblpppmabaaGreatDoorTie
import Derived.Test.YtipefblpppmabaaGreatDoorGp
import Derived.Test.YtipefblpppmabaaGreatDoorGj
import Derived.Test.YtipefblpppmabaaGreatDoorGa
import Derived.Test.YtipefblpppmabaaGreatDoorGu
import Derived.WalkKit
import Derived.ProofKit
import Derived.OpenShut
import Derived.ShutString
import Derived.ChangeOld
import Derived.Below
import Derived.Carry
import Derived.Lib.SmallJoins
import Derived.Deep.RegionWith
import Derived.Deep.RegionHeld3
import Derived.LaidMore
import Derived.LaidLaws
import Derived.Stop.Joined
import Derived.SevenTiedAt
set_option maxHeartbeats 6000000
set_option maxRecDepth 100000
namespace Go.Proofs.YtipefblpppmabaaGreatDoor.nodeMay
open Go.ChangeShapes Go.WideShapes Go.ChangeAt Go.RowKit Go.Joins
set_option linter.unusedVariables false
set_option linter.unusedSimpArgs false
theorem own:ownKnob Tryz.prog.godebug=none:=by kernel_rfl
theorem laidOut:laidOutB Tryz.prog=true:=by kernel_rfl
theorem arr11 {α:Type} {cs:Array α} (h:cs.size=11):∃ c0 c1 c2 c3 c4 c5 c6 c7 c8 c9 c10,cs=#[c0,c1,c2,c3,c4,c5,c6,c7,c8,c9,c10]:=by
 obtain⟨l⟩:=cs
 match l,h with
 | [c0,c1,c2,c3,c4,c5,c6,c7,c8,c9,c10],_=>exact⟨c0,c1,c2,c3,c4,c5,c6,c7,c8,c9,c10,rfl⟩
theorem may_first (f:Hd) (l:List Nat):((Nd.joined true).loadE f l=if okF f l then 0 else 2)/\((Nd.joined true).load f l).has=okF f l/\((Nd.joined true).load f l).x=[]:=by
 have e:(Nd.joined true).loadE f l=if okF f l then 0 else 2:=by
  unfold Nd.loadE
  cases okF f l<;>simp[Nd.joined,Nd.new]
 refine⟨e,?_,?_⟩
 ·rw[load_has,e]
  cases okF f l<;>rfl
 ·unfold Nd.load
  split<;>rfl
theorem may_drop (n:Nd):(n.dropB==(n.has&&(((n.ph:Nat):Int) != 2)))=true:=by
 have:(((n.ph:Nat):Int) != 2) = !(n.ph==2):=by
  by_cases h:n.ph=2
  ·rw[h];rfl
  ·rw[show (n.ph==2)=false by simp[h],bne_iff_ne.2 (show ((n.ph:Nat):Int)≠2 by omega)];rfl
 rw[this,drop_is]
 simp
theorem walk (w:World) (hK:Both w) (a0_0:Int) (w0_0:(Lit.int .i64 a0_0).wf=true) (a0_1:Int) (w0_1:(Lit.int .u32 a0_1).wf=true) (a0_2:Bool) (a0_3:Bool) (a0_4:Bool) (a0_5:Bool) (a0_6:Bool) (a0_7:Int) (w0_7:(Lit.int .u8 a0_7).wf=true) (a0_8:Int) (w0_8:(Lit.int .u8 a0_8).wf=true) (a0_9:Int) (w0_9:(Lit.int .u32 a0_9).wf=true) (a0_10:Option Addr) (cap0_10:Nat) (l0_10:List Nat) (h0_10:Bs w a0_10 cap0_10 l0_10) (n0_10:a0_10=none->cap0_10=0) (a1:Option Addr) (cap1:Nat) (l1:List Nat) (h1:Bs w a1 cap1 l1) (n1:a1=none->cap1=0) :
    Calls Tryz.prog 7 #[.agg #[.int .i64 a0_0,.int .u32 a0_1,.bool a0_2,.bool a0_3,.bool a0_4,.bool a0_5,.bool a0_6,.int .u8 a0_7,.int .u8 a0_8,.int .u32 a0_9,.slice a0_10 l0_10.length cap0_10],.slice a1 l1.length cap1] w fun e w'=>e = .returned (.bool true)/\Nb w w':=by
 have hL0:=h0_10.len
 have hL1:=h1.len
 have hW:WdX ⟨a0_0,a0_1,a0_2,a0_3,a0_4,a0_5,a0_6,a0_7,a0_8,a0_9⟩:=by
  simp[Lit.wf,IntKind.min,IntKind.max,IntKind.signed,IntKind.bits] at w0_1 w0_7 w0_8 w0_9
  simp only[WdX]
  omega
 have HK:=Lib.hid hK
 have HA:=Lib.hid h0_10
 have H1:=Lib.hid h1
 have HN0:=Lib.hid n0_10
 have hbB:=Lib.hid h0_10.hbyte
 obtain⟨W0,hW0⟩:∃ W0,W0=w.alloc (.cells #[.int .i64 a0_0,.int .u32 a0_1,.bool a0_2,.bool a0_3,.bool a0_4,.bool a0_5,.bool a0_6,.int .u8 a0_7,.int .u8 a0_8,.int .u32 a0_9,.slice a0_10 l0_10.length cap0_10] 34):=⟨_,rfl⟩
 have QF:=Lib.hid (show Blk W0 w.heap.size #[.int .i64 a0_0,.int .u32 a0_1,.bool a0_2,.bool a0_3,.bool a0_4,.bool a0_5,.bool a0_6,.int .u8 a0_7,.int .u8 a0_8,.int .u32 a0_9,.slice a0_10 l0_10.length cap0_10] 34 by rw[hW0];exact Blk.new _ _ _)
 have M0:=Lib.hid (show Nb w W0 by rw[hW0];exact Nb.rfl.al _)
 have HW0:=Lib.hid hW0
 have F0:=Lib.hid (fun w' (n:Nb w w')=>check5_any ⟨a0_0,a0_1,a0_2,a0_3,a0_4,a0_5,a0_6,a0_7,a0_8,a0_9⟩ a0_10 cap0_10 l0_10 w' (HA.out.below n) (HK.out.below n).longer)
 clear hK h0_10 h1 w0_0 w0_1 w0_7 w0_8 w0_9 n0_10 n1 hW0
 by_cases hbig:1500 < l1.length
 ·have d0:decide ((1500:Int) < (l1.length:Int))=true:=decide_eq_true (by omega)
  clear hbig hW
  go_enter Tryz.func7,Tryz.ntmps7
  go_wp2_with fail
  rw[<- HW0.out]
  refine (alive12_any _ (HK.out.below M0.out)).mono ?_
  rintro e w1 ⟨rfl,n1⟩
  have M1:=Lib.hid (M0.out.tr n1)
  clear n1
  go_wp2
  go_ret
  exact⟨rfl,M1.out⟩
 have d0:decide ((1500:Int) < (l1.length:Int))=false:=decide_eq_false (by omega)
 by_cases hbig2:50 < l0_10.length
 ·have d1:decide ((50:Int) < (l0_10.length:Int))=true:=decide_eq_true (by omega)
  clear hbig hbig2 hW
  go_enter Tryz.func7,Tryz.ntmps7
  go_wp2_with fail
  rw[<- HW0.out]
  refine (alive12_any _ (HK.out.below M0.out)).mono ?_
  rintro e w1 ⟨rfl,n1⟩
  have M1:=Lib.hid (M0.out.tr n1)
  obtain⟨c0,c1,c2,c3,c4,c5,c6,c7,c8,c9,c10⟩:=(QF.out.nb n1).c11
  clear n1
  go_wp2
  go_ret
  exact⟨rfl,M1.out⟩
 have d1:decide ((50:Int) < (l0_10.length:Int))=false:=decide_eq_false (by omega)
 have hl1:l1.length<=1500:=by omega
 clear hbig hbig2
 obtain⟨b1,b2,b3⟩:=may_first ⟨a0_0,a0_1,a0_2,a0_3,a0_4,a0_5,a0_6,a0_7,a0_8,a0_9⟩ l0_10
 have hload:=fun w' v F (h:NodeAt w' v (Nd.joined true) F) (m:Nb w w')=>load12_any v (Nd.joined true) F ⟨a0_0,a0_1,a0_2,a0_3,a0_4,a0_5,a0_6,a0_7,a0_8,a0_9⟩ a0_10 cap0_10 l0_10 w' h (joined_ok true) (HK.out.below m) (HA.out.below m) HN0.out hW
 have hok1:=load_ok (joined_ok true) hW hbB.out (fun h=>by cases h)
 rw[b1] at hload
 have hck:checkN ⟨a0_0,a0_1,a0_2,a0_3,a0_4,a0_5,a0_6,a0_7,a0_8,a0_9⟩ l0_10=if okF ⟨a0_0,a0_1,a0_2,a0_3,a0_4,a0_5,a0_6,a0_7,a0_8,a0_9⟩ l0_10 then 0 else 2:=rfl
 rw[hck] at F0
 simp only[Hd.cs] at F0 hload
 have HOK0:=Lib.hid hok1
 obtain⟨n0,hn0⟩:∃ n0,(Nd.joined true).load ⟨a0_0,a0_1,a0_2,a0_3,a0_4,a0_5,a0_6,a0_7,a0_8,a0_9⟩ l0_10=n0:=⟨_,rfl⟩
 obtain⟨ob,hob⟩:∃ ob,okF ⟨a0_0,a0_1,a0_2,a0_3,a0_4,a0_5,a0_6,a0_7,a0_8,a0_9⟩ l0_10=ob:=⟨_,rfl⟩
 rw[hn0] at hload HOK0 b2 b3
 rw[hob] at hload F0 b2
 obtain⟨le,hle⟩:∃ le:Nat,(if ob=true then 0 else 2)=le:=⟨_,rfl⟩
 rw[hle] at hload F0
 have dle:(((le:Nat):Int)==0)=ob:=by
  rw[<- hle]
  cases ob<;>rfl
 have HLOAD:=Lib.hid hload
 have HHAS:=Lib.hid b2
 have HX0:=Lib.hid b3
 have hfp:=field_ph
 clear hload b1 b2 b3 hok1 hW hck hn0 hob hle
 go_enter Tryz.func7,Tryz.ntmps7
 go_wp2_with fail
 rw[<- HW0.out]
 refine (alive12_any _ (HK.out.below M0.out)).mono ?_
 rintro e w1 ⟨rfl,n1⟩
 have Q1:=Lib.hid (QF.out.nb n1)
 have M1:=Lib.hid (M0.out.tr n1)
 clear n1
 obtain⟨c0,c1,c2,c3,c4,c5,c6,c7,c8,c9,c10⟩:=Q1.out.c11
 go_wp2_with fail
 refine (joined12_any true _ (HK.out.below M1.out)).mono ?_
 rintro e w3 ⟨v,rfl,F,h1,h2,h3⟩
 have Q3:=Lib.hid (Q1.out.nb h3)
 have M3:=Lib.hid (M1.out.tr h3)
 have HL3:=Lib.hid (HLOAD.out w3 v F h1 M3.out)
 have H1':=Lib.hid h1
 have H2:=Lib.hid (fun k (hk:F k)=>Nat.le_trans M1.out.size (h2 k hk))
 have hF0:Hid (¬F w.heap.size):=Lib.hid (fun (hk:F w.heap.size)=>by
  have a1:=h2 _ hk
  have a2:=Q1.out.lt
  omega)
 clear h1 h2 h3 c0 c1 c2 c3 c4 c5 c6 c7 c8 c9 c10
 obtain⟨c0,c1,c2,c3,c4,c5,c6,c7,c8,c9,c10⟩:=Q3.out.c11
 go_wp2_with fail
 refine HL3.out.mono ?_
 rintro e w4 ⟨F4,rfl,g1,g2,g3⟩
 have HN4:Hid (NodeN w w4 v n0):=Lib.hid (NodeN.turn H1'.out H2.out M3.out g1 g2 g3)
 have Q4:=Lib.hid (Q3.out.keep g2 (fun hk=>hF0.out hk))
 have M4:=Lib.hid (show Nb w w4 by
  obtain⟨_,_,_,h⟩:=HN4.out
  exact h)
 clear g1 g2 g3 c0 c1 c2 c3 c4 c5 c6 c7 c8 c9 c10 H1' H2 HL3 hF0
 obtain⟨c0,c1,c2,c3,c4,c5,c6,c7,c8,c9,c10⟩:=Q4.out.c11
 go_wp2_with fail
 refine (F0.out _ M4.out).mono ?_
 rintro e w5 ⟨rfl,n5⟩
 have HN5:Hid (NodeN w w5 v n0):=Lib.hid (HN4.out.keep n5)
 clear n5 c0 c1 c2 c3 c4 c5 c6 c7 c8 c9 c10 HN4
 go_wp2
 go_loopw [6,36] (fun hv ix wr=>∃ (k:Nat) (nd:Nd),k<=l1.length/\ix = .int .i64 k/\hv = .bool nd.has/\NodeN w wr v nd/\nd.Ok/\nd.x.length<=k) (fun _ ix _=>l1.length - (intOf ix).toNat)
 case atStart=>exact⟨0,n0,Nat.zero_le _,rfl,by rw[HHAS.out],HN5.out,HOK0.out,by rw[HX0.out];simp⟩
 case round =>
  obtain⟨k,nd,hk,rfl,rfl,⟨F5,q1,q2,q3⟩,hok,hx⟩:=hrel
  have N5:=Lib.hid q3
  have HF5:=Lib.hid q2
  have HAt:=Lib.hid q1
  have HO5:=Lib.hid hok
  have HX5:=Lib.hid hx
  have HB5:=Lib.hid (HK.out.below q3)
  clear q1 q2 q3 hok hx HN5
  by_cases hlt:k < l1.length
  ·obtain⟨b0,o0,rfl,hcl⟩:=(H1.out.below N5.out).hcells (by omega)
   obtain⟨b,hb⟩:∃ b,l1.getD k 0=b:=⟨_,rfl⟩
   have z0:=hcl k hlt
   rw[hb] at z0
   have hb2:b < 256:=by rw[<- hb];exact H1.out.getD_lt k
   clear hcl hb
   by_cases hb1:b<=1
   ·have dle1:decide ((b:Int)<=1)=true:=decide_eq_true (by omega)
    have hsamp:=samp12_any v nd F5 b wr HAt.out HO5.out (fun _=>by have:=HX5.out;omega) HB5.out hb1
    have so:=step_ok HO5.out hb1
    have hxl:=step_len nd b
    generalize hstep:nd.step b=r at hsamp so hxl
    obtain⟨n6,⟨ek,ee,⟨gK,gI,gX,gR,gB,gE,gS,gD,gV,gA⟩,el⟩⟩:=r
    have HSA:=Lib.hid hsamp
    have SO:=Lib.hid so
    have hx6:Hid (n6.x.length<=k+1):=Lib.hid (by have:=HX5.out;simp only at hxl;omega)
    have HH6:Hid (n6.has=(nd.has && !(ek==1))):=Lib.hid so.has
    have dbne:(nd.has != nd.has)=false:=by simp
    clear hsamp so hxl hstep hb1
    go_wp2_with fail
    refine HSA.out.mono ?_
    rintro e w7 ⟨F7,⟨a,c,rfl,bsx,_⟩,g1,g2,g3⟩
    have HN7:Hid (NodeN w w7 v n6):=Lib.hid (NodeN.turn HAt.out HF5.out N5.out g1 g2 g3)
    have BX:Hid (Bs w7 a c el):=Lib.hid bsx
    clear g1 g2 g3 bsx HSA z0
    obtain⟨F8,j1,j2,j3⟩:=HN7.out
    have HB7:=Lib.hid (HK.out.below j3)
    have hst:=fun w' (m:Nb w7 w')=>state12_any v n6 F8 w' (node_keep j1 (Kp.ofNb (F:=fun _=>False) m) (by simp)) SO.out.ok (HK.out.below (j3.tr m))
    have HOUT:=Lib.hid (fun w' (m:Nb w7 w')=>out12_any v n6 F8 w' (node_keep j1 (Kp.ofNb (F:=fun _=>False) m) (by simp)) SO.out.ok (HK.out.below (j3.tr m)))
    have HFC:=Lib.hid (fun w'=>by
     have q:=fchk11_any n6.fa w'
     rw[show errFa n6.fa=0 by unfold errFa;rw[if_pos SO.out.ok.fa]] at q
     simp only[Fa.cs] at q
     exact q)
    have hol:n6.out<=1:=out_le SO.out.ok
    have dout:decide ((1:Int) < (n6.out:Int))=false:=decide_eq_false (by omega)
    have dout2:decide (1 < n6.out)=false:=decide_eq_false (by omega)
    clear hol
    simp only[stV] at hst
    clear j1 j2 j3
    simp only[evV,staV]
    by_cases he1:ek=1
    ·have e6:n6.has=false:=by rw[HH6.out,he1];simp
     have d1k:(((ek:Nat):Int)==1)=true:=by rw[beq_iff_eq];omega
     have d2k:(((ek:Nat):Int)==2)=false:=by rw[beq_eq_false_iff_ne];omega
     clear he1
     have HE6:=Lib.hid e6
     rw[e6] at hst
     have HSTA:=Lib.hid hst
     clear hst e6
     go_wp2_with fail
     refine (HSTA.out _ (Nb.rfl.al _)).mono ?_
     rintro e w8 ⟨rfl,n8⟩
     have M8:=Lib.hid ((Nb.rfl.al _).tr n8:Nb w7 w8)
     have E8:=Lib.hid ((Blk.new w7 #[.int .i64 (ek:Nat),.int .i64 (ee:Nat),.int .i64 gK,.int .u32 gI,.bool gX,.bool gR,.bool gB,.bool gE,.bool gS,.int .u8 gD,.int .u8 gV,.int .u32 gA,.slice a el.length c] 36).nb n8)
     clear n8
     go_wp2_with fail
     refine (HFC.out _).mono ?_
     rintro e w9 ⟨rfl,n9⟩
     have M9:=Lib.hid ((M8.out.al _).tr n9)
     have E9:=Lib.hid ((E8.out.nb (Nb.rfl.al _)).nb n9)
     clear n9 E8
     go_wp2_with fail
     refine (HOUT.out _ M9.out).mono ?_
     rintro e w10 ⟨rfl,n10⟩
     have M10:=Lib.hid (M9.out.tr n10)
     obtain⟨x0,x1,x2,x3,x4,x5,x6,x7,x8,x9,x10,x11,x12⟩:=(Blk.h13 (E9.out.nb n10)).2.1
     clear n10
     go_wp2
     go_roundw
     case rel=>exact⟨k+1,n6,by omega,by go_num,by rw[HE6.out],HN7.out.keep M10.out,SO.out.ok,hx6.out⟩
     case measure=>simp[intOf];omega
    ·by_cases he2:ek=2
     ·have e6:n6.has=nd.has:=by rw[HH6.out,he2];simp
      have d1k:(((ek:Nat):Int)==1)=false:=by rw[beq_eq_false_iff_ne];omega
      have d2k:(((ek:Nat):Int)==2)=true:=by rw[beq_iff_eq];omega
      have HGF:=Lib.hid (by
       have g:=(SO.out.got he2).1.ok
       exact (show checkN (⟨gK,gI,gX,gR,gB,gE,gS,gD,gV,gA⟩:Hd) el=0 by simp only at g;simp[checkN,g]))
      have HCF:=Lib.hid (fun w' (m:Nb w7 w')=>by
       have q:=check5_any (⟨gK,gI,gX,gR,gB,gE,gS,gD,gV,gA⟩:Hd) a c el w' (BX.out.below m) (HB7.out.below m).longer
       rw[HGF.out] at q
       simp only[Hd.cs] at q
       exact q)
      clear he1 he2
      have HE6:=Lib.hid e6
      rw[e6] at hst
      have HSTA:=Lib.hid hst
      clear hst e6
      go_wp2_with fail
      refine (HSTA.out _ (Nb.rfl.al _)).mono ?_
      rintro e w8 ⟨rfl,n8⟩
      have M8:=Lib.hid ((Nb.rfl.al _).tr n8:Nb w7 w8)
      have E8:=Lib.hid ((Blk.new w7 #[.int .i64 (ek:Nat),.int .i64 (ee:Nat),.int .i64 gK,.int .u32 gI,.bool gX,.bool gR,.bool gB,.bool gE,.bool gS,.int .u8 gD,.int .u8 gV,.int .u32 gA,.slice a el.length c] 36).nb n8)
      clear n8
      go_wp2_with fail
      refine (HFC.out _).mono ?_
      rintro e w9 ⟨rfl,n9⟩
      have M9:=Lib.hid ((M8.out.al _).tr n9)
      have E9:=Lib.hid ((E8.out.nb (Nb.rfl.al _)).nb n9)
      clear n9 E8
      go_wp2_with fail
      refine (HOUT.out _ M9.out).mono ?_
      rintro e w10 ⟨rfl,n10⟩
      have M10:=Lib.hid (M9.out.tr n10)
      obtain⟨x0,x1,x2,x3,x4,x5,x6,x7,x8,x9,x10,x11,x12⟩:=(Blk.h13 (E9.out.nb n10)).2.1
      clear n10
      go_wp2_with fail
      refine (HCF.out _ M10.out).mono ?_
      rintro e w11 ⟨rfl,n11⟩
      have M11:=Lib.hid (M10.out.tr n11)
      clear n11 x0 x1 x2 x3 x4 x5 x6 x7 x8 x9 x10 x11 x12
      go_wp2
      go_roundw
      case rel=>exact⟨k+1,n6,by omega,by go_num,by rw[HE6.out],HN7.out.keep M11.out,SO.out.ok,hx6.out⟩
      case measure=>simp[intOf];omega
     ·have e6:n6.has=nd.has:=by rw[HH6.out,show (ek==1)=false by simp[he1]];simp
      have d1k:(((ek:Nat):Int)==1)=false:=by rw[beq_eq_false_iff_ne];omega
      have d2k:(((ek:Nat):Int)==2)=false:=by rw[beq_eq_false_iff_ne];omega
      clear he1 he2
      have HE6:=Lib.hid e6
      rw[e6] at hst
      have HSTA:=Lib.hid hst
      clear hst e6
      go_wp2_with fail
      refine (HSTA.out _ (Nb.rfl.al _)).mono ?_
      rintro e w8 ⟨rfl,n8⟩
      have M8:=Lib.hid ((Nb.rfl.al _).tr n8:Nb w7 w8)
      have E8:=Lib.hid ((Blk.new w7 #[.int .i64 (ek:Nat),.int .i64 (ee:Nat),.int .i64 gK,.int .u32 gI,.bool gX,.bool gR,.bool gB,.bool gE,.bool gS,.int .u8 gD,.int .u8 gV,.int .u32 gA,.slice a el.length c] 36).nb n8)
      clear n8
      go_wp2_with fail
      refine (HFC.out _).mono ?_
      rintro e w9 ⟨rfl,n9⟩
      have M9:=Lib.hid ((M8.out.al _).tr n9)
      have E9:=Lib.hid ((E8.out.nb (Nb.rfl.al _)).nb n9)
      clear n9 E8
      go_wp2_with fail
      refine (HOUT.out _ M9.out).mono ?_
      rintro e w10 ⟨rfl,n10⟩
      have M10:=Lib.hid (M9.out.tr n10)
      obtain⟨x0,x1,x2,x3,x4,x5,x6,x7,x8,x9,x10,x11,x12⟩:=(Blk.h13 (E9.out.nb n10)).2.1
      clear n10
      go_wp2
      go_roundw
      case rel=>exact⟨k+1,n6,by omega,by go_num,by rw[HE6.out],HN7.out.keep M10.out,SO.out.ok,hx6.out⟩
      case measure=>simp[intOf];omega
   ·have dle1:decide ((b:Int)<=1)=false:=decide_eq_false (by omega)
    have HSA:=Lib.hid (samp12_bad v nd F5 b wr HAt.out (by omega) hb2)
    have dbne:(nd.has != nd.has)=false:=by simp
    clear hb1
    go_wp2_with fail
    refine HSA.out.mono ?_
    rintro e w7 ⟨rfl,n7⟩
    have HN7:Hid (NodeN w w7 v nd):=Lib.hid (NodeN.keep ⟨F5,HAt.out,HF5.out,N5.out⟩ n7)
    clear n7 HSA z0
    obtain⟨F8,j1,j2,j3⟩:=HN7.out
    have hst:=fun w' (m:Nb w7 w')=>state12_any v nd F8 w' (node_keep j1 (Kp.ofNb (F:=fun _=>False) m) (by simp)) HO5.out (HK.out.below (j3.tr m))
    have HOUT:=Lib.hid (fun w' (m:Nb w7 w')=>out12_any v nd F8 w' (node_keep j1 (Kp.ofNb (F:=fun _=>False) m) (by simp)) HO5.out (HK.out.below (j3.tr m)))
    have HFC:=Lib.hid (fun w'=>by
     have q:=fchk11_any nd.fa w'
     rw[show errFa nd.fa=0 by unfold errFa;rw[if_pos HO5.out.fa]] at q
     simp only[Fa.cs] at q
     exact q)
    have dout:decide ((1:Int) < (nd.out:Int))=false:=decide_eq_false (by have:=out_le HO5.out;omega)
    have dout2:decide (1 < nd.out)=false:=decide_eq_false (by have:=out_le HO5.out;omega)
    simp only[stV] at hst
    have HSTA:=Lib.hid hst
    clear j1 j2 j3 hst
    simp only[evV,staV,noEv,noF]
    go_wp2_with fail
    refine (HSTA.out _ (Nb.rfl.al _)).mono ?_
    rintro e w8 ⟨rfl,n8⟩
    have M8:=Lib.hid ((Nb.rfl.al _).tr n8:Nb w7 w8)
    have E8:=Lib.hid ((Blk.new w7 #[.int .i64 0,.int .i64 0,.int .i64 0,.int .u32 0,.bool false,.bool false,.bool false,.bool false,.bool false,.int .u8 0,.int .u8 0,.int .u32 0,.slice none 0 0] 36).nb n8)
    clear n8
    go_wp2_with fail
    refine (HFC.out _).mono ?_
    rintro e w9 ⟨rfl,n9⟩
    have M9:=Lib.hid ((M8.out.al _).tr n9)
    have E9:=Lib.hid ((E8.out.nb (Nb.rfl.al _)).nb n9)
    clear n9 E8
    go_wp2_with fail
    refine (HOUT.out _ M9.out).mono ?_
    rintro e w10 ⟨rfl,n10⟩
    have M10:=Lib.hid (M9.out.tr n10)
    obtain⟨x0,x1,x2,x3,x4,x5,x6,x7,x8,x9,x10,x11,x12⟩:=(Blk.h13 (E9.out.nb n10)).2.1
    clear n10
    go_wp2
    go_roundw
    case rel=>exact⟨k+1,nd,by omega,by go_num,rfl,HN7.out.keep M10.out,HO5.out,by have:=HX5.out;omega⟩
    case measure=>simp[intOf];omega
  ·obtain rfl:k=l1.length:=by omega
   have hst:=fun w' (m:Nb wr w')=>state12_any v nd F5 w' (node_keep HAt.out (Kp.ofNb (F:=fun _=>False) m) (by simp)) HO5.out (HB5.out.below m)
   simp only[stV] at hst
   have HSTA:=Lib.hid hst
   have HDR:=Lib.hid (fun w' (m:Nb wr w')=>drop12_any v nd F5 w' (node_keep HAt.out (Kp.ofNb (F:=fun _=>False) m) (by simp)))
   have hd:=may_drop nd
   clear hst hlt
   go_wp2_with fail
   refine (HSTA.out _ Nb.rfl).mono ?_
   rintro e w6 ⟨rfl,n6⟩
   have HD6:=Lib.hid (HDR.out w6 n6)
   have N6:=Lib.hid (N5.out.tr n6)
   clear n6
   go_wp2_with fail
   refine HD6.out.mono ?_
   rintro e w7 ⟨F7,rfl,g1,g2,g3⟩
   have N7:=Lib.hid (N6.out.trans (g2.toBelow N6.out.size HF5.out))
   clear g1 g2 g3
   cases hh:nd.has
   all_goals rw[hh] at hd
   all_goals go_wp2
   all_goals go_ret
   all_goals exact⟨by simpa using hd,N7.out⟩
theorem door_met (os:Os) (args:Array Value):laidMetH Tryz.prog Rows.nodeMayRow.laid ((World.doorLaid Tryz.prog 24 os).forCall (fun _ _=>0) ⟨#[],args,[]⟩).memory :=
 laidMetH_of_parts3 (fuel:=8) (laidMet_of_run' 8 (by kernel_rfl) (by kernel_rfl)) (by kernel_rfl) (by kernel_rfl)
theorem lifted (os:Os) (started:os.Started) (H:Type) (enc:TypeId × Value->H) :
    ReturnsInHanded {} Tryz.checked os 7 .any (fun w args=>(Rows.nodeMaySpec.pre enc Tryz.prog Tryz.f7 [] false w args/\laidMetH Tryz.prog Rows.nodeMayRow.laid w)/\sizedMet enc Tryz.prog Tryz.f7 (OpenSpec.ofChange Rows.nodeMaySpec) false w args)
     (Rows.nodeMaySpec.post enc Tryz.prog Tryz.f7 false true false false):=by
 refine returnsInHanded_of_change_and (C:=Tryz.checked) (X:=fun w _=>laidMetH Tryz.prog Rows.nodeMayRow.laid w) (fun _ _ _ hh h=>h.of_heap hh) own started (by kernel_rfl) Tryz.func7
  (ChangeSpec.witness_shaped (enc:=enc) (C:=Tryz.checked) (os:=os) (X:=fun w _=>laidMetH Tryz.prog Rows.nodeMayRow.laid w) false (World.doorLaid Tryz.prog 24 os) #[.agg #[.int .i64 0,.int .u32 0,.bool false,.bool false,.bool false,.bool false,.bool false,.int .u8 0,.int .u8 0,.int .u32 0,.slice none 0 0],.slice none 0 0] 8 rfl (World.shaped_of_RefB (by kernel_rfl) (by kernel_rfl)) (by kernel_rfl) (by kernel_rfl) (by kernel_rfl) (door_met os _)) ?_
 intro W base args ds gs before hval0 hW _ hR hL _
 have hval:∀ (j:Nat) t v,Tryz.f7.params[j]? = some t->args[j]? = some v->Value.okWide Tryz.prog W .any base t v:=hval0
 have hW':=hW
 obtain⟨p,q,hA0,hV,rfl,hfz,hnd⟩:=hW
 have hA:DataW.TrodAll enc Tryz.prog W 0 (fun _=>true) true Tryz.f7.params.toList args.toList ds p:=hA0
 rw[Tryz.params7] at hA hval
 obtain⟨v0,vs0,d0,ds0,p0,q0,hargs,rfl,rfl,h0,r0⟩:=trodAll_cons hA
 obtain⟨v1,vs1,d1,ds1,p1,q1,rfl,rfl,rfl,h1,r1⟩:=trodAll_cons r0
 obtain⟨rfl,rfl,rfl⟩:=trodAll_nil r1
 obtain rfl:args=#[v0,v1]:=by cases args;simp_all
 obtain⟨rfl,rfl⟩:=trodVars_none hV
 have k0:=h0
 have lt0:∀ x∈p0,x.block < W.heap.size:=by obtain⟨m,hm⟩:=k0;exact DataW.trod_lt m _ _ _ hm
 have k1:=h1
 have lt1:∀ x∈p1,x.block < W.heap.size:=by obtain⟨m,hm⟩:=k1;exact DataW.trod_lt m _ _ _ hm
 clear hA0
 obtain⟨cs0,rfl,hz0⟩:=okWide_struct Tryz.underlying34 (hval 0 34 v0 rfl rfl)
 obtain⟨c0_0,c0_1,c0_2,c0_3,c0_4,c0_5,c0_6,c0_7,c0_8,c0_9,c0_10,rfl⟩:=arr11 (hz0.trans (by kernel_rfl))
 obtain⟨fu0,hf0⟩:=h0
 have hc0:DataW.trod enc Tryz.prog W 0 (fun _=>true) true fu0 34 [c0_0,c0_1,c0_2,c0_3,c0_4,c0_5,c0_6,c0_7,c0_8,c0_9,c0_10]=some (d0,p0):=hf0
 obtain⟨m0_0,y0_0,g0_0⟩:=open_fld Tryz.underlying34 hc0 0 _ rfl
 have t0_0:DataW.trod enc Tryz.prog W 0 (fun _=>true) true m0_0 3 (([c0_0,c0_1,c0_2,c0_3,c0_4,c0_5,c0_6,c0_7,c0_8,c0_9,c0_10].drop 0).take (Tryz.prog.cellsOf 3))=some y0_0:=g0_0
 rw[show Tryz.prog.cellsOf 3=1 from by kernel_rfl] at t0_0
 have u0_0:DataW.trod enc Tryz.prog W 0 (fun _=>true) true m0_0 3 [c0_0]=some y0_0:=t0_0
 obtain⟨m0_1,y0_1,g0_1⟩:=open_fld Tryz.underlying34 hc0 1 _ rfl
 have t0_1:DataW.trod enc Tryz.prog W 0 (fun _=>true) true m0_1 31 (([c0_0,c0_1,c0_2,c0_3,c0_4,c0_5,c0_6,c0_7,c0_8,c0_9,c0_10].drop 1).take (Tryz.prog.cellsOf 31))=some y0_1:=g0_1
 rw[show Tryz.prog.cellsOf 31=1 from by kernel_rfl] at t0_1
 have u0_1:DataW.trod enc Tryz.prog W 0 (fun _=>true) true m0_1 31 [c0_1]=some y0_1:=t0_1
 obtain⟨m0_2,y0_2,g0_2⟩:=open_fld Tryz.underlying34 hc0 2 _ rfl
 have t0_2:DataW.trod enc Tryz.prog W 0 (fun _=>true) true m0_2 4 (([c0_0,c0_1,c0_2,c0_3,c0_4,c0_5,c0_6,c0_7,c0_8,c0_9,c0_10].drop 2).take (Tryz.prog.cellsOf 4))=some y0_2:=g0_2
 rw[show Tryz.prog.cellsOf 4=1 from by kernel_rfl] at t0_2
 have u0_2:DataW.trod enc Tryz.prog W 0 (fun _=>true) true m0_2 4 [c0_2]=some y0_2:=t0_2
 obtain⟨m0_3,y0_3,g0_3⟩:=open_fld Tryz.underlying34 hc0 3 _ rfl
 have t0_3:DataW.trod enc Tryz.prog W 0 (fun _=>true) true m0_3 4 (([c0_0,c0_1,c0_2,c0_3,c0_4,c0_5,c0_6,c0_7,c0_8,c0_9,c0_10].drop 3).take (Tryz.prog.cellsOf 4))=some y0_3:=g0_3
 rw[show Tryz.prog.cellsOf 4=1 from by kernel_rfl] at t0_3
 have u0_3:DataW.trod enc Tryz.prog W 0 (fun _=>true) true m0_3 4 [c0_3]=some y0_3:=t0_3
 obtain⟨m0_4,y0_4,g0_4⟩:=open_fld Tryz.underlying34 hc0 4 _ rfl
 have t0_4:DataW.trod enc Tryz.prog W 0 (fun _=>true) true m0_4 4 (([c0_0,c0_1,c0_2,c0_3,c0_4,c0_5,c0_6,c0_7,c0_8,c0_9,c0_10].drop 4).take (Tryz.prog.cellsOf 4))=some y0_4:=g0_4
 rw[show Tryz.prog.cellsOf 4=1 from by kernel_rfl] at t0_4
 have u0_4:DataW.trod enc Tryz.prog W 0 (fun _=>true) true m0_4 4 [c0_4]=some y0_4:=t0_4
 obtain⟨m0_5,y0_5,g0_5⟩:=open_fld Tryz.underlying34 hc0 5 _ rfl
 have t0_5:DataW.trod enc Tryz.prog W 0 (fun _=>true) true m0_5 4 (([c0_0,c0_1,c0_2,c0_3,c0_4,c0_5,c0_6,c0_7,c0_8,c0_9,c0_10].drop 5).take (Tryz.prog.cellsOf 4))=some y0_5:=g0_5
 rw[show Tryz.prog.cellsOf 4=1 from by kernel_rfl] at t0_5
 have u0_5:DataW.trod enc Tryz.prog W 0 (fun _=>true) true m0_5 4 [c0_5]=some y0_5:=t0_5
 obtain⟨m0_6,y0_6,g0_6⟩:=open_fld Tryz.underlying34 hc0 6 _ rfl
 have t0_6:DataW.trod enc Tryz.prog W 0 (fun _=>true) true m0_6 4 (([c0_0,c0_1,c0_2,c0_3,c0_4,c0_5,c0_6,c0_7,c0_8,c0_9,c0_10].drop 6).take (Tryz.prog.cellsOf 4))=some y0_6:=g0_6
 rw[show Tryz.prog.cellsOf 4=1 from by kernel_rfl] at t0_6
 have u0_6:DataW.trod enc Tryz.prog W 0 (fun _=>true) true m0_6 4 [c0_6]=some y0_6:=t0_6
 obtain⟨m0_7,y0_7,g0_7⟩:=open_fld Tryz.underlying34 hc0 7 _ rfl
 have t0_7:DataW.trod enc Tryz.prog W 0 (fun _=>true) true m0_7 5 (([c0_0,c0_1,c0_2,c0_3,c0_4,c0_5,c0_6,c0_7,c0_8,c0_9,c0_10].drop 7).take (Tryz.prog.cellsOf 5))=some y0_7:=g0_7
 rw[show Tryz.prog.cellsOf 5=1 from by kernel_rfl] at t0_7
 have u0_7:DataW.trod enc Tryz.prog W 0 (fun _=>true) true m0_7 5 [c0_7]=some y0_7:=t0_7
 obtain⟨m0_8,y0_8,g0_8⟩:=open_fld Tryz.underlying34 hc0 8 _ rfl
 have t0_8:DataW.trod enc Tryz.prog W 0 (fun _=>true) true m0_8 5 (([c0_0,c0_1,c0_2,c0_3,c0_4,c0_5,c0_6,c0_7,c0_8,c0_9,c0_10].drop 8).take (Tryz.prog.cellsOf 5))=some y0_8:=g0_8
 rw[show Tryz.prog.cellsOf 5=1 from by kernel_rfl] at t0_8
 have u0_8:DataW.trod enc Tryz.prog W 0 (fun _=>true) true m0_8 5 [c0_8]=some y0_8:=t0_8
 obtain⟨m0_9,y0_9,g0_9⟩:=open_fld Tryz.underlying34 hc0 9 _ rfl
 have t0_9:DataW.trod enc Tryz.prog W 0 (fun _=>true) true m0_9 31 (([c0_0,c0_1,c0_2,c0_3,c0_4,c0_5,c0_6,c0_7,c0_8,c0_9,c0_10].drop 9).take (Tryz.prog.cellsOf 31))=some y0_9:=g0_9
 rw[show Tryz.prog.cellsOf 31=1 from by kernel_rfl] at t0_9
 have u0_9:DataW.trod enc Tryz.prog W 0 (fun _=>true) true m0_9 31 [c0_9]=some y0_9:=t0_9
 obtain⟨m0_10,y0_10,g0_10⟩:=open_fld Tryz.underlying34 hc0 10 _ rfl
 have t0_10:DataW.trod enc Tryz.prog W 0 (fun _=>true) true m0_10 32 (([c0_0,c0_1,c0_2,c0_3,c0_4,c0_5,c0_6,c0_7,c0_8,c0_9,c0_10].drop 10).take (Tryz.prog.cellsOf 32))=some y0_10:=g0_10
 rw[show Tryz.prog.cellsOf 32=1 from by kernel_rfl] at t0_10
 have u0_10:DataW.trod enc Tryz.prog W 0 (fun _=>true) true m0_10 32 [c0_10]=some y0_10:=t0_10
 obtain⟨a0_0,e0_0,x0_0,w0_0⟩:=DataW.trod_int Tryz.underlying3 u0_0
 obtain rfl:c0_0 = .int .i64 a0_0:=by simpa using e0_0
 obtain⟨a0_1,e0_1,x0_1,w0_1⟩:=DataW.trod_int Tryz.underlying31 u0_1
 obtain rfl:c0_1 = .int .u32 a0_1:=by simpa using e0_1
 obtain⟨a0_2,e0_2,x0_2⟩:=DataW.trod_bool Tryz.underlying4 u0_2
 obtain rfl:c0_2 = .bool a0_2:=by simpa using e0_2
 obtain⟨a0_3,e0_3,x0_3⟩:=DataW.trod_bool Tryz.underlying4 u0_3
 obtain rfl:c0_3 = .bool a0_3:=by simpa using e0_3
 obtain⟨a0_4,e0_4,x0_4⟩:=DataW.trod_bool Tryz.underlying4 u0_4
 obtain rfl:c0_4 = .bool a0_4:=by simpa using e0_4
 obtain⟨a0_5,e0_5,x0_5⟩:=DataW.trod_bool Tryz.underlying4 u0_5
 obtain rfl:c0_5 = .bool a0_5:=by simpa using e0_5
 obtain⟨a0_6,e0_6,x0_6⟩:=DataW.trod_bool Tryz.underlying4 u0_6
 obtain rfl:c0_6 = .bool a0_6:=by simpa using e0_6
 obtain⟨a0_7,e0_7,x0_7,w0_7⟩:=DataW.trod_int Tryz.underlying5 u0_7
 obtain rfl:c0_7 = .int .u8 a0_7:=by simpa using e0_7
 obtain⟨a0_8,e0_8,x0_8,w0_8⟩:=DataW.trod_int Tryz.underlying5 u0_8
 obtain rfl:c0_8 = .int .u8 a0_8:=by simpa using e0_8
 obtain⟨a0_9,e0_9,x0_9,w0_9⟩:=DataW.trod_int Tryz.underlying31 u0_9
 obtain rfl:c0_9 = .int .u32 a0_9:=by simpa using e0_9
 obtain⟨a0_10,cap0_10,l0_10,e0_10,hb0_10,n0_10⟩:=bytes_open u0_10
 subst e0_10
 obtain⟨a1,lc1,cap1,rfl⟩:=okWide_slice Tryz.underlying32 (hval 1 32 v1 rfl rfl)
 obtain⟨fu1,hf1⟩:=h1
 have hc1:DataW.trod enc Tryz.prog W 0 (fun _=>true) true fu1 32 [.slice a1 lc1 cap1]=some (d1,p1):=hf1
 obtain⟨b1,cb1,l1,e1,hb1,n1⟩:=bytes_open hc1
 simp only[Value.slice.injEq] at e1
 obtain⟨rfl,rfl,rfl⟩:=e1
 refine (walk W (both_of hL) a0_0 w0_0 a0_1 w0_1 a0_2 a0_3 a0_4 a0_5 a0_6 a0_7 w0_7 a0_8 w0_8 a0_9 w0_9 a0_10 cap0_10 l0_10 hb0_10 n0_10 a1 cap1 l1 hb1 n1).mono fun e W' ⟨he,bel⟩ => ?_
 subst he
 exact⟨_,rfl,_,_,_,[],_,[],hW',trodAll_mk1 (shut_bool Tryz.underlying4 _),(trodAll_cons_mk (Below.trod laidOut (by kernel_rfl) (of_decide_eq_true (by kernel_rfl)) k0 bel lt0) (trodAll_cons_mk (Below.trod laidOut (by kernel_rfl) (of_decide_eq_true (by kernel_rfl)) k1 bel lt1) trodAll_mk0)),rfl,bel.frame _,fun h=>by cases h⟩
theorem over:Rows.nodeMayRow.holds Tryz.pinned (OpenSpec.ofChange Rows.nodeMaySpec) :=
 OpenClaim.holds_of_wide 7 Tryz.f7 rfl rfl rfl rfl rfl rfl rfl ⟨rfl,rfl,rfl,rfl,rfl⟩ rfl rfl rfl rfl rfl (by kernel_rfl) Tryz.func7 (by kernel_rfl)
  (of_decide_eq_true (by kernel_rfl)) (by unfold Func.isWrapper;first | (rw[if_pos (by decide +kernel)];kernel_rfl) | (rw[if_neg (by decide +kernel)];exact⟨rfl,rfl⟩))
  (fun os started H enc _=>lifted os started H enc)
theorem plain (f : FuncId) (fn : Func) (hf : Tryz.pinned.checked.prog.funcNamed "omnibus/omnibuslaw12.NodeMay" = some f) (hfn : Tryz.pinned.checked.prog.funcs[f]? = some fn) :
    false=Tryz.pinned.checked.prog.looks []/\∀ (j:Nat) t,fn.params[j]? = some t->Tryz.pinned.checked.prog.wantsStandIn t=false:=by
 obtain rfl : f = 7 := Option.some.inj ((show Tryz.prog.funcNamed "omnibus/omnibuslaw12.NodeMay" = some 7 by kernel_rfl).symm.trans hf) |>.symm
 obtain rfl:fn=Tryz.f7:=(Option.some.inj (Tryz.func7.symm.trans hfn)).symm
 refine⟨by kernel_rfl,fun j t ht => ?_⟩
 rw[Tryz.params7] at ht
 have hm:t∈[34,32]:=by have:=Array.mem_of_getElem? ht;simp at this ⊢;omega
 have hall:([34,32].all fun u => !Tryz.prog.wantsStandIn u)=true:=by kernel_rfl
 exact (show Tryz.prog.wantsStandIn t=false by simpa using List.all_eq_true.1 hall t hm)
theorem proved:Rows.NodeMayCardSaid :=
 Claim7.holds_tied_plain_at .later [] _ _ _ _ over (fun _ h=>by cases h) (by kernel_rfl) (fun _ h=>by cases h) nodeMay_row_tie rfl ⟨rfl,rfl⟩ (by kernel_rfl) rfl plain (by kernel_rfl)
#print axioms proved
end Go.Proofs.YtipefblpppmabaaGreatDoor.nodeMay
