/- For every two frames and number the law BusLoads answers true and leaves its arguments as they were; the package's tables are tied to the program's text. No conditions. -/
import Derived.Test.YtkjjfnmeogpdbaaGreatDoorRows
import Derived.Test.YtkjjfnmeogpdbaaGreatDoorCards
import Derived.Test.YtkjjfnmeogpdbaaGreatDoorTie
import Derived.Test.YtkjjfnmeogpdbaaGreatDoorGy
import Derived.Test.YtkjjfnmeogpdbaaGreatDoorBuL
import Derived.Test.YtkjjfnmeogpdbaaGreatDoorGj
import Derived.Test.YtkjjfnmeogpdbaaGreatDoorGa
import Derived.Test.YtkjjfnmeogpdbaaGreatDoorFrmE
import Derived.WalkKit
import Derived.ProofKit
import Derived.OpenShut
import Derived.ShutString
import Derived.ChangeOld
import Derived.Below
import Derived.Carry
import Derived.Lib.SmallJoins
import Derived.Deep.RegionWith
import Derived.Deep.RegionHeld3
import Derived.LaidMore
import Derived.LaidLaws
import Derived.Stop.Joined
import Derived.SevenTiedAt
set_option maxHeartbeats 8000000
set_option maxRecDepth 100000
namespace Go.Proofs.YtkjjfnmeogpdbaaGreatDoor.busLoads
open Go.ChangeShapes Go.WideShapes Go.ChangeAt Go.RowKit Go.Joins
set_option linter.unusedVariables false
set_option linter.unusedSimpArgs false
theorem own:ownKnob Tryz.prog.godebug=none:=by kernel_rfl
theorem laidOut:laidOutB Tryz.prog=true:=by kernel_rfl
theorem arr11{α:Type}{cs:Array α}(h:cs.size=11):∃c0 c1 c2 c3 c4 c5 c6 c7 c8 c9 c10,cs=#[c0,c1,c2,c3,c4,c5,c6,c7,c8,c9,c10]:=by
 obtain⟨l⟩:=cs
 match l,h with
 | [c0,c1,c2,c3,c4,c5,c6,c7,c8,c9,c10],_=>exact⟨c0,c1,c2,c3,c4,c5,c6,c7,c8,c9,c10,rfl⟩
def sntD(L k:Nat):Nat:=if L+21<=k then 1 else 0
theorem walk (w:World) (hK:z0F w) (a0_0:Int) (w0_0:(Lit.int .i64 a0_0).wf=true) (a0_1:Int) (w0_1:(Lit.int .u32 a0_1).wf=true) (a0_2:Bool) (a0_3:Bool) (a0_4:Bool) (a0_5:Bool) (a0_6:Bool) (a0_7:Int) (w0_7:(Lit.int .u8 a0_7).wf=true) (a0_8:Int) (w0_8:(Lit.int .u8 a0_8).wf=true) (a0_9:Int) (w0_9:(Lit.int .u32 a0_9).wf=true) (a0_10:Option Addr) (cap0_10:Nat) (l0_10:List Nat) (h0_10:Bs w a0_10 cap0_10 l0_10) (n0_10:a0_10=none->cap0_10=0) (a1_0:Int) (w1_0:(Lit.int .i64 a1_0).wf=true) (a1_1:Int) (w1_1:(Lit.int .u32 a1_1).wf=true) (a1_2:Bool) (a1_3:Bool) (a1_4:Bool) (a1_5:Bool) (a1_6:Bool) (a1_7:Int) (w1_7:(Lit.int .u8 a1_7).wf=true) (a1_8:Int) (w1_8:(Lit.int .u8 a1_8).wf=true) (a1_9:Int) (w1_9:(Lit.int .u32 a1_9).wf=true) (a1_10:Option Addr) (cap1_10:Nat) (l1_10:List Nat) (h1_10:Bs w a1_10 cap1_10 l1_10) (n1_10:a1_10=none->cap1_10=0) (a2:Int) (w2:(Lit.int .u8 a2).wf=true) :
    Calls Tryz.prog 8 #[.agg #[.int .i64 a0_0,.int .u32 a0_1,.bool a0_2,.bool a0_3,.bool a0_4,.bool a0_5,.bool a0_6,.int .u8 a0_7,.int .u8 a0_8,.int .u32 a0_9,.slice a0_10 l0_10.length cap0_10],.agg #[.int .i64 a1_0,.int .u32 a1_1,.bool a1_2,.bool a1_3,.bool a1_4,.bool a1_5,.bool a1_6,.int .u8 a1_7,.int .u8 a1_8,.int .u32 a1_9,.slice a1_10 l1_10.length cap1_10],.int .u8 a2] w fun e w'=>e = .returned (.bool true)/\Nb w w':=by
 have hL0:=h0_10.len
 have hW:WdX ⟨a0_0,a0_1,a0_2,a0_3,a0_4,a0_5,a0_6,a0_7,a0_8,a0_9⟩:=by
  simp[Lit.wf,IntKind.min,IntKind.max,IntKind.signed,IntKind.bits]at w0_1 w0_7 w0_8 w0_9
  simp only[WdX]
  omega
 have HA:=zH h0_10
 have HN0:=zH n0_10
 have hb0:=zH h0_10.hbyte
 obtain⟨fh,hfe⟩:∃fh:Hd,fh=⟨a0_0,a0_1,a0_2,a0_3,a0_4,a0_5,a0_6,a0_7,a0_8,a0_9⟩:=⟨_,rfl⟩
 have hcs0:∀v,fh.cs v=#[.int .i64 a0_0,.int .u32 a0_1,.bool a0_2,.bool a0_3,.bool a0_4,.bool a0_5,.bool a0_6,.int .u8 a0_7,.int .u8 a0_8,.int .u32 a0_9,v]:=fun v=>by rw[hfe];rfl
 rw[<- hfe]at hW
 have hL1:=h1_10.len
 have hV:WdX ⟨a1_0,a1_1,a1_2,a1_3,a1_4,a1_5,a1_6,a1_7,a1_8,a1_9⟩:=by
  simp[Lit.wf,IntKind.min,IntKind.max,IntKind.signed,IntKind.bits]at w1_1 w1_7 w1_8 w1_9
  simp only[WdX]
  omega
 have HG:=zH h1_10
 have HN1:=zH n1_10
 have hb1:=zH h1_10.hbyte
 obtain⟨gh,hge⟩:∃gh:Hd,gh=⟨a1_0,a1_1,a1_2,a1_3,a1_4,a1_5,a1_6,a1_7,a1_8,a1_9⟩:=⟨_,rfl⟩
 have hcs1:∀v,gh.cs v=#[.int .i64 a1_0,.int .u32 a1_1,.bool a1_2,.bool a1_3,.bool a1_4,.bool a1_5,.bool a1_6,.int .u8 a1_7,.int .u8 a1_8,.int .u32 a1_9,v]:=fun v=>by rw[hge];rfl
 rw[<- hge]at hV
 have hat:0<=a2/\a2 < 256:=by
  simp[Lit.wf,IntKind.min,IntKind.max,IntKind.signed,IntKind.bits]at w2
  omega
 obtain⟨n,rfl⟩:=Int.eq_ofNat_of_zero_le hat.1
 have HK:=zH hK
 have HB:=zH (fun w' (m:Nb w w')=>HK.out.below m)
 obtain⟨W0,hW0⟩:∃W0,W0=(w.alloc (.cells #[.int .i64 a0_0,.int .u32 a0_1,.bool a0_2,.bool a0_3,.bool a0_4,.bool a0_5,.bool a0_6,.int .u8 a0_7,.int .u8 a0_8,.int .u32 a0_9,.slice a0_10 l0_10.length cap0_10] 37)).alloc (.cells #[.int .i64 a1_0,.int .u32 a1_1,.bool a1_2,.bool a1_3,.bool a1_4,.bool a1_5,.bool a1_6,.int .u8 a1_7,.int .u8 a1_8,.int .u32 a1_9,.slice a1_10 l1_10.length cap1_10] 37):=⟨_,rfl⟩
 have QF:=zH (show Blk W0 w.heap.size #[.int .i64 a0_0,.int .u32 a0_1,.bool a0_2,.bool a0_3,.bool a0_4,.bool a0_5,.bool a0_6,.int .u8 a0_7,.int .u8 a0_8,.int .u32 a0_9,.slice a0_10 l0_10.length cap0_10] 37 by rw[hW0];exact(Blk.new _ _ _).nb (Nb.rfl.al _))
 have QG:=zH (show Blk W0 (w.heap.size+1) #[.int .i64 a1_0,.int .u32 a1_1,.bool a1_2,.bool a1_3,.bool a1_4,.bool a1_5,.bool a1_6,.int .u8 a1_7,.int .u8 a1_8,.int .u32 a1_9,.slice a1_10 l1_10.length cap1_10] 37 by
  rw[hW0]
  have q:=Blk.new (w.alloc (.cells #[.int .i64 a0_0,.int .u32 a0_1,.bool a0_2,.bool a0_3,.bool a0_4,.bool a0_5,.bool a0_6,.int .u8 a0_7,.int .u8 a0_8,.int .u32 a0_9,.slice a0_10 l0_10.length cap0_10] 37)) #[.int .i64 a1_0,.int .u32 a1_1,.bool a1_2,.bool a1_3,.bool a1_4,.bool a1_5,.bool a1_6,.int .u8 a1_7,.int .u8 a1_8,.int .u32 a1_9,.slice a1_10 l1_10.length cap1_10] 37
  rwa[World.size_alloc]at q)
 have M0:=zH (show Nb w W0 by rw[hW0];exact(Nb.rfl.al _).al _)
 have HW0:=zH hW0
 have F0:=zH (fun w' (n:Nb w w')=>by
  have q:=z1g fh a0_10 cap0_10 l0_10 w' (HA.out.below n) (HK.out.below n).2
  rw[hcs0]at q
  exact q)
 have G0:=zH (fun w' (n:Nb w w')=>by
  have q:=z1g gh a1_10 cap1_10 l1_10 w' (HG.out.below n) (HK.out.below n).2
  rw[hcs1]at q
  exact q)
 clear hK h0_10 h1_10 w0_0 w0_1 w0_7 w0_8 w0_9 w1_0 w1_1 w1_7 w1_8 w1_9 n0_10 n1_10 w2 hW0
 cases hok:okF fh l0_10 with
 | false =>
   rw[show zP fh l0_10=2 by simp[zP,hok]]at F0
   clear hok hW hV hfe hge hcs0 hcs1 hat
   go_enter Tryz.func8,Tryz.ntmps8
   go_wp2_with fail
   rw[<- HW0.out]
   refine(alive13_any _ (HK.out.below M0.out)).mono ?_
   rintro e w1 ⟨rfl,n1⟩
   have K1:=zH n1
   clear n1
   obtain⟨c0,c1,c2,c3,c4,c5,c6,c7,c8,c9,c10⟩:=(QF.out.nb K1.out).c11
   obtain⟨e0,e1,e2,e3,e4,e5,e6,e7,e8,e9,e10⟩:=(QG.out.nb K1.out).c11
   go_wp2_with fail
   refine(F0.out _ (M0.out.tr K1.out)).mono ?_
   rintro e w2 ⟨rfl,n2⟩
   have K2:=zH (K1.out.tr n2)
   clear n2 c0 c1 c2 c3 c4 c5 c6 c7 c8 c9 c10 e0 e1 e2 e3 e4 e5 e6 e7 e8 e9 e10
   obtain⟨c0,c1,c2,c3,c4,c5,c6,c7,c8,c9,c10⟩:=(QF.out.nb K2.out).c11
   obtain⟨e0,e1,e2,e3,e4,e5,e6,e7,e8,e9,e10⟩:=(QG.out.nb K2.out).c11
   go_wp2
   go_ret
   exact⟨rfl,M0.out.tr K2.out⟩
 | true =>
   have hFr:Fr fh l0_10:=⟨hok,hW,hb0.out⟩
   rw[show zP fh l0_10=0 by simp[zP,hok]]at F0
   clear hok
   cases hok:okF gh l1_10 with
   | false =>
     rw[show zP gh l1_10=2 by simp[zP,hok]]at G0
     clear hok hW hV hfe hge hcs0 hcs1 hat hFr
     go_enter Tryz.func8,Tryz.ntmps8
     go_wp2_with fail
     rw[<- HW0.out]
     refine(alive13_any _ (HK.out.below M0.out)).mono ?_
     rintro e w1 ⟨rfl,n1⟩
     have K1:=zH n1
     clear n1
     obtain⟨c0,c1,c2,c3,c4,c5,c6,c7,c8,c9,c10⟩:=(QF.out.nb K1.out).c11
     obtain⟨e0,e1,e2,e3,e4,e5,e6,e7,e8,e9,e10⟩:=(QG.out.nb K1.out).c11
     go_wp2_with fail
     refine(F0.out _ (M0.out.tr K1.out)).mono ?_
     rintro e w2 ⟨rfl,n2⟩
     have K2:=zH (K1.out.tr n2)
     clear n2 c0 c1 c2 c3 c4 c5 c6 c7 c8 c9 c10 e0 e1 e2 e3 e4 e5 e6 e7 e8 e9 e10
     obtain⟨c0,c1,c2,c3,c4,c5,c6,c7,c8,c9,c10⟩:=(QF.out.nb K2.out).c11
     obtain⟨e0,e1,e2,e3,e4,e5,e6,e7,e8,e9,e10⟩:=(QG.out.nb K2.out).c11
     go_wp2_with fail
     refine(G0.out _ (M0.out.tr K2.out)).mono ?_
     rintro e w3 ⟨rfl,n3⟩
     have K3:=zH (K2.out.tr n3)
     clear n3 c0 c1 c2 c3 c4 c5 c6 c7 c8 c9 c10 e0 e1 e2 e3 e4 e5 e6 e7 e8 e9 e10
     obtain⟨c0,c1,c2,c3,c4,c5,c6,c7,c8,c9,c10⟩:=(QF.out.nb K3.out).c11
     obtain⟨e0,e1,e2,e3,e4,e5,e6,e7,e8,e9,e10⟩:=(QG.out.nb K3.out).c11
     go_wp2
     go_ret
     exact⟨rfl,M0.out.tr K3.out⟩
   | true =>
     have hGr:Fr gh l1_10:=⟨hok,hV,hb1.out⟩
     rw[show zP gh l1_10=0 by simp[zP,hok]]at G0
     clear hok
     by_cases hbig:16 < l0_10.length
     ·have d0:decide ((16:Int) < (l0_10.length:Int))=true:=decide_eq_true (by omega)
      clear hbig hW hV hfe hge hcs0 hcs1 hat hFr hGr
      go_enter Tryz.func8,Tryz.ntmps8
      go_wp2_with fail
      rw[<- HW0.out]
      refine(alive13_any _ (HK.out.below M0.out)).mono ?_
      rintro e w1 ⟨rfl,n1⟩
      have K1:=zH n1
      clear n1
      obtain⟨c0,c1,c2,c3,c4,c5,c6,c7,c8,c9,c10⟩:=(QF.out.nb K1.out).c11
      obtain⟨e0,e1,e2,e3,e4,e5,e6,e7,e8,e9,e10⟩:=(QG.out.nb K1.out).c11
      go_wp2_with fail
      refine(F0.out _ (M0.out.tr K1.out)).mono ?_
      rintro e w2 ⟨rfl,n2⟩
      have K2:=zH (K1.out.tr n2)
      clear n2 c0 c1 c2 c3 c4 c5 c6 c7 c8 c9 c10 e0 e1 e2 e3 e4 e5 e6 e7 e8 e9 e10
      obtain⟨c0,c1,c2,c3,c4,c5,c6,c7,c8,c9,c10⟩:=(QF.out.nb K2.out).c11
      obtain⟨e0,e1,e2,e3,e4,e5,e6,e7,e8,e9,e10⟩:=(QG.out.nb K2.out).c11
      go_wp2_with fail
      refine(G0.out _ (M0.out.tr K2.out)).mono ?_
      rintro e w3 ⟨rfl,n3⟩
      have K3:=zH (K2.out.tr n3)
      clear n3 c0 c1 c2 c3 c4 c5 c6 c7 c8 c9 c10 e0 e1 e2 e3 e4 e5 e6 e7 e8 e9 e10
      obtain⟨c0,c1,c2,c3,c4,c5,c6,c7,c8,c9,c10⟩:=(QF.out.nb K3.out).c11
      obtain⟨e0,e1,e2,e3,e4,e5,e6,e7,e8,e9,e10⟩:=(QG.out.nb K3.out).c11
      go_wp2
      go_ret
      exact⟨rfl,M0.out.tr K3.out⟩
     have d0:decide ((16:Int) < (l0_10.length:Int))=false:=decide_eq_false (by omega)
     by_cases hbig2:16 < l1_10.length
     ·have d1:decide ((16:Int) < (l1_10.length:Int))=true:=decide_eq_true (by omega)
      clear hbig hbig2 hW hV hfe hge hcs0 hcs1 hat hFr hGr
      go_enter Tryz.func8,Tryz.ntmps8
      go_wp2_with fail
      rw[<- HW0.out]
      refine(alive13_any _ (HK.out.below M0.out)).mono ?_
      rintro e w1 ⟨rfl,n1⟩
      have K1:=zH n1
      clear n1
      obtain⟨c0,c1,c2,c3,c4,c5,c6,c7,c8,c9,c10⟩:=(QF.out.nb K1.out).c11
      obtain⟨e0,e1,e2,e3,e4,e5,e6,e7,e8,e9,e10⟩:=(QG.out.nb K1.out).c11
      go_wp2_with fail
      refine(F0.out _ (M0.out.tr K1.out)).mono ?_
      rintro e w2 ⟨rfl,n2⟩
      have K2:=zH (K1.out.tr n2)
      clear n2 c0 c1 c2 c3 c4 c5 c6 c7 c8 c9 c10 e0 e1 e2 e3 e4 e5 e6 e7 e8 e9 e10
      obtain⟨c0,c1,c2,c3,c4,c5,c6,c7,c8,c9,c10⟩:=(QF.out.nb K2.out).c11
      obtain⟨e0,e1,e2,e3,e4,e5,e6,e7,e8,e9,e10⟩:=(QG.out.nb K2.out).c11
      go_wp2_with fail
      refine(G0.out _ (M0.out.tr K2.out)).mono ?_
      rintro e w3 ⟨rfl,n3⟩
      have K3:=zH (K2.out.tr n3)
      clear n3 c0 c1 c2 c3 c4 c5 c6 c7 c8 c9 c10 e0 e1 e2 e3 e4 e5 e6 e7 e8 e9 e10
      obtain⟨c0,c1,c2,c3,c4,c5,c6,c7,c8,c9,c10⟩:=(QF.out.nb K3.out).c11
      obtain⟨e0,e1,e2,e3,e4,e5,e6,e7,e8,e9,e10⟩:=(QG.out.nb K3.out).c11
      go_wp2
      go_ret
      exact⟨rfl,M0.out.tr K3.out⟩
     have d1:decide ((16:Int) < (l1_10.length:Int))=false:=decide_eq_false (by omega)
     have HL16:=zH (show l0_10.length<=16/\l1_10.length<=16 by omega)
     clear hbig hbig2
     have HFr:=zH hFr
     have HGr:=zH hGr
     have fE:=zH hfe
     have gE:=zH hge
     have hok0:AllOk [Nd.new true,Nd.new true]:=fun j hj=>by
      rcases(by simp at hj;omega:j=0\/j=1)with rfl | rfl<;>exact zfu true
     obtain⟨p1,p2⟩:=duL_new hFr
     obtain⟨p3,p4⟩:=duL_full hFr hGr
     have hld1:=fun w' v (h:BusN W0 w' v ([true,true].map Nd.new) [])=>h.load 0 fh a0_10 cap0_10 l0_10 hok0 (HB.out w' (M0.out.tr h.nb)) (by simp) (HA.out.below (M0.out.tr h.nb)) HN0.out hW
     rw[p1,p2]at hld1
     have hld2:=fun w' v (h:BusN W0 w' v (duL fh l0_10 0) [])=>h.load 0 gh a1_10 cap1_10 l1_10 (duL_ok hFr 0) (HB.out w' (M0.out.tr h.nb)) (by simp[duL]) (HG.out.below (M0.out.tr h.nb)) HN1.out hV
     rw[p3,p4]at hld2
     simp only[hcs0,hcs1]at hld1 hld2
     have HL1:=zH hld1
     have HL2:=zH hld2
     have hsm0:=fun w' a c (b:Bs w' a c l0_10) (m:Nb W0 w')=>zcH fh fh a a0_10 c cap0_10 l0_10 l0_10 w' b (HA.out.below (M0.out.tr m))
     have hsm1:=fun w' a c (b:Bs w' a c l1_10) (m:Nb W0 w')=>zcH gh gh a a1_10 c cap1_10 l1_10 l1_10 w' b (HG.out.below (M0.out.tr m))
     rw[show z61 fh fh l0_10 l0_10=true by simp[z61,Hd.eqb]]at hsm0
     rw[show z61 gh gh l1_10 l1_10=true by simp[z61,Hd.eqb]]at hsm1
     simp only[hcs0,hcs1]at hsm0 hsm1
     have HSM0:=zH hsm0
     have HSM1:=zH hsm1
     obtain⟨p5,p6,p7⟩:=duL_drop hFr hGr (k:=n%40) (by omega)
     have hdr:=fun w' v line (h:BusN W0 w' v (duL fh l0_10 (n%40)) line)=>h.drop 0 (by simp[duL])
     rw[p5]at hdr
     have HDR:=zH hdr
     have P6:=zH p6
     have P7:=zH p7
     have HV:=zH hV
     have hcs1h:=zH hcs1
     clear hld1 hld2 hsm0 hsm1 p1 p2 p3 p4 p5 p6 p7 hdr hW hV hfe hge hcs0 hcs1 hok0 hFr hGr
     go_enter Tryz.func8,Tryz.ntmps8
     go_wp2_with fail
     rw[<- HW0.out]
     refine(alive13_any _ (HK.out.below M0.out)).mono ?_
     rintro e w1 ⟨rfl,n1⟩
     have K1:=zH n1
     clear n1
     obtain⟨c0,c1,c2,c3,c4,c5,c6,c7,c8,c9,c10⟩:=(QF.out.nb K1.out).c11
     obtain⟨e0,e1,e2,e3,e4,e5,e6,e7,e8,e9,e10⟩:=(QG.out.nb K1.out).c11
     go_wp2_with fail
     refine(F0.out _ (M0.out.tr K1.out)).mono ?_
     rintro e w2 ⟨rfl,n2⟩
     have K2:=zH (K1.out.tr n2)
     clear n2 c0 c1 c2 c3 c4 c5 c6 c7 c8 c9 c10 e0 e1 e2 e3 e4 e5 e6 e7 e8 e9 e10
     obtain⟨c0,c1,c2,c3,c4,c5,c6,c7,c8,c9,c10⟩:=(QF.out.nb K2.out).c11
     obtain⟨e0,e1,e2,e3,e4,e5,e6,e7,e8,e9,e10⟩:=(QG.out.nb K2.out).c11
     go_wp2_with fail
     refine(G0.out _ (M0.out.tr K2.out)).mono ?_
     rintro e w3 ⟨rfl,n3⟩
     have K3:=zH (K2.out.tr n3)
     clear n3 c0 c1 c2 c3 c4 c5 c6 c7 c8 c9 c10 e0 e1 e2 e3 e4 e5 e6 e7 e8 e9 e10
     obtain⟨c0,c1,c2,c3,c4,c5,c6,c7,c8,c9,c10⟩:=(QF.out.nb K3.out).c11
     obtain⟨e0,e1,e2,e3,e4,e5,e6,e7,e8,e9,e10⟩:=(QG.out.nb K3.out).c11
     go_wp2_with fail
     refine(new2_any true true w3.heap.size _ _ (Blk.new _ _ _) (HB.out _ (M0.out.tr (K3.out.al _)))).mono ?_
     rintro e w4 ⟨R,F,rfl,h1,h2,h3⟩
     have hN4:BusN W0 w4 (.pointer (some ⟨R,0,none⟩)) ([true,true].map Nd.new) []:=⟨F,h1,fun k hk=>Nat.le_trans (K3.out.al _).size (h2 k hk),(K3.out.al _).tr h3⟩
     generalize hvb:Value.pointer (some ⟨R,0,none⟩)=vb at *
     have HN4:=zH hN4
     clear h1 h2 h3 hN4 hvb c0 c1 c2 c3 c4 c5 c6 c7 c8 c9 c10 e0 e1 e2 e3 e4 e5 e6 e7 e8 e9 e10
     obtain⟨c0,c1,c2,c3,c4,c5,c6,c7,c8,c9,c10⟩:=(QF.out.nb HN4.out.nb).c11
     go_wp2_with fail
     refine(HL1.out _ vb HN4.out).mono ?_
     rintro e w5 ⟨rfl,n5⟩
     have HN5:=zH n5
     clear n5 c0 c1 c2 c3 c4 c5 c6 c7 c8 c9 c10
     obtain⟨e0,e1,e2,e3,e4,e5,e6,e7,e8,e9,e10⟩:=(QG.out.nb HN5.out.nb).c11
     go_wp2_with fail
     refine(HL2.out _ vb HN5.out).mono ?_
     rintro e w6 ⟨rfl,n6⟩
     have HN6:=zH n6
     clear n6 e0 e1 e2 e3 e4 e5 e6 e7 e8 e9 e10 HL1 HL2 HN4 HN5
     have hn40:(0:Int)<=(n:Int)%40:=by omega
     go_wp2
     go_loopw [61] (fun ix wr=>∃(i:Nat) (line:List Nat),i<=n%40/\ix = .int .i64 i/\BusN W0 wr vb (duL fh l0_10 i) line) (fun ix _=>n%40 - (intOf ix).toNat)
     case atStart=>exact⟨0,_,Nat.zero_le _,rfl,HN6.out⟩
     case round =>
      obtain⟨i,line,hi,rfl,hN⟩:=hrel
      have N:=zH hN
      clear hN HN6
      by_cases hlt:i < n%40
      ·have hlt':decide ((i:Int) < (n:Int)%40)=true:=decide_eq_true (by omega)
       have hst:=N.out.step 0 (duL_ok HFr.out _) (duL_short HFr.out _) (HB.out _ (M0.out.tr N.out.nb)) (Nat.pow_pos (by omega))
       rw[(duL_next HFr.out _).1]at hst
       have HST:=zH hst
       clear hst
       go_wp2_with fail
       refine HST.out.mono ?_
       rintro e w7 ⟨a,c,P,rfl,_,hN2⟩
       have N2:=zH hN2
       clear hN2 HST
       go_wp2
       go_roundw
       case rel=>exact⟨i+1,_,by omega,by go_num,N2.out⟩
       case measure=>simp[intOf];omega
      have hlt':decide ((i:Int) < (n:Int)%40)=false:=decide_eq_false (by omega)
      obtain rfl:i=n%40:=by omega
      by_cases h12:n%40 < 12
      ·have d12:decide ((n:Int)%40 < 12)=true:=decide_eq_true (by omega)
       have hdr:=HDR.out _ vb line N.out
       rw[decide_eq_true h12]at hdr
       obtain⟨p8,p9⟩:=P6.out h12
       have HD2:=zH hdr
       clear hdr
       go_wp2_with fail
       refine HD2.out.mono ?_
       rintro e w7 ⟨rfl,n7⟩
       have HN7:=zH n7
       clear n7 HD2 hlt
       obtain⟨c0,c1,c2,c3,c4,c5,c6,c7,c8,c9,c10⟩:=(QF.out.nb HN7.out.nb).c11
       obtain⟨QW,hQW⟩:∃QW,QW=w7.heap.size:=⟨_,rfl⟩
       obtain⟨w8,hw8⟩:∃w8,w8=w7.alloc (.cells #[.int .i64 a0_0,.int .u32 a0_1,.bool a0_2,.bool a0_3,.bool a0_4,.bool a0_5,.bool a0_6,.int .u8 a0_7,.int .u8 a0_8,.int .u32 a0_9,.slice a0_10 l0_10.length cap0_10] 37):=⟨_,rfl⟩
       have HX8:=zH (show BusX W0 w8 vb _ line (fun k=>k=QW) by rw[hw8,hQW];exact((BusX.of HN7.out).add (Nb.rfl.al _) (Y:=fun k=>k=w7.heap.size) (fun k hk=>by subst hk;exact⟨Nat.le_refl _,by rw[World.size_alloc];omega⟩)).less (fun k hk => .inr hk))
       have QW8:=zH (show Blk w8 QW #[.int .i64 a0_0,.int .u32 a0_1,.bool a0_2,.bool a0_3,.bool a0_4,.bool a0_5,.bool a0_6,.int .u8 a0_7,.int .u8 a0_8,.int .u32 a0_9,.slice a0_10 l0_10.length cap0_10] 37 by rw[hw8,hQW];exact Blk.new _ _ _)
       have hld:=HX8.out.load 0 gh a1_10 cap1_10 l1_10 (drop_allOk (duL_ok HFr.out _) 0) (HB.out _ (M0.out.tr HX8.out.nb)) (by simp[duL]) (HG.out.below (M0.out.tr HX8.out.nb)) HN1.out HV.out
       rw[p8,p9]at hld
       simp only[hcs1h.out]at hld
       have HLD:=zH hld
       have HW8:=zH hw8
       have HQW:=zH hQW
       clear hld p8 p9 hw8
       obtain⟨e0,e1,e2,e3,e4,e5,e6,e7,e8,e9,e10⟩:=(QG.out.nb (HN7.out.nb.al (.cells #[.int .i64 a0_0,.int .u32 a0_1,.bool a0_2,.bool a0_3,.bool a0_4,.bool a0_5,.bool a0_6,.int .u8 a0_7,.int .u8 a0_8,.int .u32 a0_9,.slice a0_10 l0_10.length cap0_10] 37))).c11
       go_wp2_with fail
       rw[<- HW8.out,<- hQW]
       clear hQW c0 c1 c2 c3 c4 c5 c6 c7 c8 c9 c10
       refine HLD.out.mono ?_
       rintro e w9 ⟨G,rfl,gk,gX,hN9⟩
       have HN9':=zH hN9
       have QW9:=zH (QW8.out.keep gk (gX QW rfl))
       clear gk gX hN9 e0 e1 e2 e3 e4 e5 e6 e7 e8 e9 e10 HLD
       obtain⟨e0,e1,e2,e3,e4,e5,e6,e7,e8,e9,e10⟩:=(QG.out.nb HN9'.out.nb).c11
       have hb:=Blk.row QW9.out #[.int .i64 a1_0,.int .u32 a1_1,.bool a1_2,.bool a1_3,.bool a1_4,.bool a1_5,.bool a1_6,.int .u8 a1_7,.int .u8 a1_8,.int .u32 a1_9,.slice a1_10 l1_10.length cap1_10]
       have kq:=Kp.row w9 QW #[.int .i64 a1_0,.int .u32 a1_1,.bool a1_2,.bool a1_3,.bool a1_4,.bool a1_5,.bool a1_6,.int .u8 a1_7,.int .u8 a1_8,.int .u32 a1_9,.slice a1_10 l1_10.length cap1_10]
       go_wp2_with (refine wpList_store_row (by rfl) _ _ _ (by rfl) _ _ (by rfl) (by rfl) _ _ QW9.out (by kernel_rfl) (by rfl) (by simp[Value.oneCell']) ?_)
       generalize World.setRow w9 QW #[.int .i64 a1_0,.int .u32 a1_1,.bool a1_2,.bool a1_3,.bool a1_4,.bool a1_5,.bool a1_6,.int .u8 a1_7,.int .u8 a1_8,.int .u32 a1_9,.slice a1_10 l1_10.length cap1_10]=wS at hb kq ⊢
       have QWW:=zH hb
       have HN9:=zH (HN9'.out.keepX kq (fun k hk=>by subst hk;rw[HQW.out];exact HN7.out.nb.size))
       clear hb kq e0 e1 e2 e3 e4 e5 e6 e7 e8 e9 e10
       go_loopw [13,86] (fun sv ix wr=>∃(m:Nat) (line:List Nat),m<=1000/\ix = .int .i64 m/\sv = .int .i64 (sntD (zD gh l1_10).length (n%40+m):Nat)/\BusX W0 wr vb (duL gh l1_10 (n%40+m)) line (fun k=>k=QW)/\Blk wr QW #[.int .i64 a1_0,.int .u32 a1_1,.bool a1_2,.bool a1_3,.bool a1_4,.bool a1_5,.bool a1_6,.int .u8 a1_7,.int .u8 a1_8,.int .u32 a1_9,.slice a1_10 l1_10.length cap1_10] 37) (fun _ ix _=>1000 - (intOf ix).toNat)
       case atStart=>exact⟨0,_,Nat.zero_le _,rfl,by rw[show sntD (zD gh l1_10).length (n%40+0)=0 from if_neg (by have:=HGr.out.raw_len;omega)];rfl,HN9.out,QWW.out⟩
       case round =>
        obtain⟨m,line,hm,rfl,rfl,hN,hQ⟩:=hrel
        have N:=zH hN
        have QQ:=zH hQ
        obtain⟨s,hs⟩:∃s,sntD (zD gh l1_10).length (n%40+m)=s:=⟨_,rfl⟩
        rw[hs]
        have HS:=zH hs
        clear hN hQ hs HN9 QWW
        by_cases hlt:m < 1000
        ·have hlt':(m:Int) < 1000:=by omega
         have hst:=N.out.step 0 (duL_ok HGr.out _) (duL_short HGr.out _) (HB.out _ (M0.out.tr N.out.nb)) (Nat.pow_pos (by omega))
         rw[(duL_next HGr.out _).1,(duL_next HGr.out _).2]at hst
         have hrl:=HGr.out.raw_len
         by_cases hA:n%40+m+1=(zD gh l1_10).length+21
         ·rw[if_pos hA,if_neg (show ¬n%40+m+1=(zD gh l1_10).length+20 by omega)]at hst
          simp only[List.length_cons,List.length_nil]at hst
          have HST:=zH hst
          obtain rfl:s=0:=by rw[<- HS.out];exact if_neg (by omega)
          have hS1:=zH (show sntD (zD gh l1_10).length (n%40+(m+1))=1 from if_pos (by omega))
          clear hst HS hrl hA
          go_wp2_with fail
          refine HST.out.mono ?_
          rintro e wA ⟨a,c,P,G,rfl,hE,gk,gX,hN2⟩
          obtain⟨bE,hbe,_,_⟩:=hE.hcells (by simp)
          subst hbe
          have NA:=zH (hN2.less (Y:=fun k=>k=QW) (fun k hk => .inl hk))
          have QA:=zH (QQ.out.keep gk (gX QW rfl))
          obtain⟨a',c',⟨x0,x1,x2,x3,x4,x5,x6,x7,x8,x9,x10,x11,x12⟩,bx,_⟩:=hE.at (j:=0) (by simp) (k:=1) (e:=0) (l:=l1_10) (show _=(⟨1,0,⟨a1_0,a1_1,a1_2,a1_3,a1_4,a1_5,a1_6,a1_7,a1_8,a1_9⟩,l1_10⟩:Ev) by rw[<- gE.out];rfl)
          have BX:=zH bx
          have HE:=zH hE
          simp only[Nat.zero_mul,Nat.zero_add]at x0 x1 x2 x3 x4 x5 x6 x7 x8 x9 x10 x11 x12
          obtain⟨c0,c1,c2,c3,c4,c5,c6,c7,c8,c9,c10⟩:=QA.out.c11
          clear hN2 bx hE gk gX HST
          go_wp2_with fail
          go_region_with ((go_at_call 30;refine(HSM1.out _ a' c' (BX.out.below (by first | exact Below.drew (Below.refl _ _) | exact Nb.drewN _ _)) (NA.out.nb.tr (by first | exact Below.drew (Below.refl _ _) | exact Nb.drewN _ _))).mono ?_;rintro e wB ⟨rfl,nB⟩;have MB:Nb wA wB:=(by first | exact Nb.tr (Below.drew (Below.refl _ _)) nB | exact Nb.tr (Nb.drewN _ _) nB);obtain⟨_,_,⟨y0,_⟩,_⟩:=(HE.out.nb MB).at (j:=0) (by simp) (k:=1) (e:=0) (l:=l1_10) (show _=(⟨1,0,⟨a1_0,a1_1,a1_2,a1_3,a1_4,a1_5,a1_6,a1_7,a1_8,a1_9⟩,l1_10⟩:Ev) by rw[<- gE.out];rfl);simp only[Nat.zero_mul]at y0;have MBH:=zH MB;clear MB nB))
          all_goals go_wp2
          all_goals go_roundw
          all_goals first
           | exact⟨m+1,_,by omega,by go_num,by rw[hS1.out];rfl,NA.out.keep MBH.out,QA.out.nb MBH.out⟩
           | (simp[intOf];omega)
         ·rw[if_neg hA]at hst
          have hS1:=zH (show sntD (zD gh l1_10).length (n%40+(m+1))=s by rw[<- HS.out];unfold sntD;(repeat' split)<;>omega)
          obtain⟨ev1,hev1⟩:∃ev1,(if n%40+m+1=(zD gh l1_10).length+20 then(⟨2,0,gh,l1_10⟩:Ev)else z0W)=ev1:=⟨_,rfl⟩
          rw[hev1]at hst
          simp only[List.length_cons,List.length_nil]at hst
          have HST:=zH hst
          clear hst HS hrl hA hev1
          go_wp2_with fail
          refine HST.out.mono ?_
          rintro e wA ⟨a,c,P,G,rfl,hE,gk,gX,hN2⟩
          obtain⟨bE,hbe,_,_⟩:=hE.hcells (by simp)
          subst hbe
          have NA:=zH (hN2.less (Y:=fun k=>k=QW) (fun k hk => .inl hk))
          have QA:=zH (QQ.out.keep gk (gX QW rfl))
          obtain⟨a',c',⟨x0,_⟩,_,_⟩:=hE.at (j:=0) (by simp) (k:=0) (e:=0) (l:=[]) (show _=(⟨0,0,noF,[]⟩:Ev)from rfl)
          simp only[Nat.zero_mul]at x0
          clear hN2 hE gk gX HST
          go_wp2_with fail
          go_quiet (fail)
          rename_i nq
          have NQ:=zH (NA.out.keep (Nb.drewN _ nq))
          have QR:=zH (QA.out.nb (Nb.drewN _ nq))
          have y0:(wA.drewN nq).cell? ⟨bE,0,none⟩=some (.int .i64 ((0:Nat):Int)):=x0
          generalize wA.drewN nq=wd at *
          go_wp2
          go_roundw
          case rel=>exact⟨m+1,_,by omega,by go_num,by rw[hS1.out],NQ.out,QR.out⟩
          case measure=>simp[intOf];omega
        ·obtain rfl:m=1000:=by omega
         have hsh:=short_wire HGr.out (by have:=HL16.out;omega)
         obtain rfl:s=1:=by rw[<- HS.out];exact if_pos (by omega)
         go_wp2
         go_ret
         exact⟨rfl,M0.out.tr N.out.nb⟩
      ·have d12:decide ((n:Int)%40 < 12)=false:=decide_eq_false (by omega)
       have hdr:=HDR.out _ vb line N.out
       rw[decide_eq_false h12,P7.out h12]at hdr
       have HD2:=zH hdr
       clear hdr
       go_wp2_with fail
       refine HD2.out.mono ?_
       rintro e w7 ⟨rfl,n7⟩
       have HN7:=zH n7
       clear n7 HD2 hlt
       obtain⟨c0,c1,c2,c3,c4,c5,c6,c7,c8,c9,c10⟩:=(QF.out.nb HN7.out.nb).c11
       obtain⟨QW,hQW⟩:∃QW,QW=w7.heap.size:=⟨_,rfl⟩
       have HN9:=zH (show BusX W0 (w7.alloc (.cells #[.int .i64 a0_0,.int .u32 a0_1,.bool a0_2,.bool a0_3,.bool a0_4,.bool a0_5,.bool a0_6,.int .u8 a0_7,.int .u8 a0_8,.int .u32 a0_9,.slice a0_10 l0_10.length cap0_10] 37)) vb _ line (fun k=>k=QW) by rw[hQW];exact((BusX.of HN7.out).add (Nb.rfl.al _) (Y:=fun k=>k=w7.heap.size) (fun k hk=>by subst hk;exact⟨Nat.le_refl _,by rw[World.size_alloc];omega⟩)).less (fun k hk => .inr hk))
       have QWW:=zH (show Blk (w7.alloc (.cells #[.int .i64 a0_0,.int .u32 a0_1,.bool a0_2,.bool a0_3,.bool a0_4,.bool a0_5,.bool a0_6,.int .u8 a0_7,.int .u8 a0_8,.int .u32 a0_9,.slice a0_10 l0_10.length cap0_10] 37)) QW #[.int .i64 a0_0,.int .u32 a0_1,.bool a0_2,.bool a0_3,.bool a0_4,.bool a0_5,.bool a0_6,.int .u8 a0_7,.int .u8 a0_8,.int .u32 a0_9,.slice a0_10 l0_10.length cap0_10] 37 by rw[hQW];exact Blk.new _ _ _)
       go_wp2
       rw[<- hQW]
       clear hQW c0 c1 c2 c3 c4 c5 c6 c7 c8 c9 c10
       go_loopw [13,86] (fun sv ix wr=>∃(m:Nat) (line:List Nat),m<=1000/\ix = .int .i64 m/\sv = .int .i64 (sntD (zD fh l0_10).length (n%40+m):Nat)/\BusX W0 wr vb (duL fh l0_10 (n%40+m)) line (fun k=>k=QW)/\Blk wr QW #[.int .i64 a0_0,.int .u32 a0_1,.bool a0_2,.bool a0_3,.bool a0_4,.bool a0_5,.bool a0_6,.int .u8 a0_7,.int .u8 a0_8,.int .u32 a0_9,.slice a0_10 l0_10.length cap0_10] 37) (fun _ ix _=>1000 - (intOf ix).toNat)
       case atStart=>exact⟨0,_,Nat.zero_le _,rfl,by rw[show sntD (zD fh l0_10).length (n%40+0)=0 from if_neg (by have:=HFr.out.raw_len;omega)];rfl,HN9.out,QWW.out⟩
       case round =>
        obtain⟨m,line,hm,rfl,rfl,hN,hQ⟩:=hrel
        have N:=zH hN
        have QQ:=zH hQ
        obtain⟨s,hs⟩:∃s,sntD (zD fh l0_10).length (n%40+m)=s:=⟨_,rfl⟩
        rw[hs]
        have HS:=zH hs
        clear hN hQ hs HN9 QWW
        by_cases hlt:m < 1000
        ·have hlt':(m:Int) < 1000:=by omega
         have hst:=N.out.step 0 (duL_ok HFr.out _) (duL_short HFr.out _) (HB.out _ (M0.out.tr N.out.nb)) (Nat.pow_pos (by omega))
         rw[(duL_next HFr.out _).1,(duL_next HFr.out _).2]at hst
         have hrl:=HFr.out.raw_len
         by_cases hA:n%40+m+1=(zD fh l0_10).length+21
         ·rw[if_pos hA,if_neg (show ¬n%40+m+1=(zD fh l0_10).length+20 by omega)]at hst
          simp only[List.length_cons,List.length_nil]at hst
          have HST:=zH hst
          obtain rfl:s=0:=by rw[<- HS.out];exact if_neg (by omega)
          have hS1:=zH (show sntD (zD fh l0_10).length (n%40+(m+1))=1 from if_pos (by omega))
          clear hst HS hrl hA
          go_wp2_with fail
          refine HST.out.mono ?_
          rintro e wA ⟨a,c,P,G,rfl,hE,gk,gX,hN2⟩
          obtain⟨bE,hbe,_,_⟩:=hE.hcells (by simp)
          subst hbe
          have NA:=zH (hN2.less (Y:=fun k=>k=QW) (fun k hk => .inl hk))
          have QA:=zH (QQ.out.keep gk (gX QW rfl))
          obtain⟨a',c',⟨x0,x1,x2,x3,x4,x5,x6,x7,x8,x9,x10,x11,x12⟩,bx,_⟩:=hE.at (j:=0) (by simp) (k:=1) (e:=0) (l:=l0_10) (show _=(⟨1,0,⟨a0_0,a0_1,a0_2,a0_3,a0_4,a0_5,a0_6,a0_7,a0_8,a0_9⟩,l0_10⟩:Ev) by rw[<- fE.out];rfl)
          have BX:=zH bx
          have HE:=zH hE
          simp only[Nat.zero_mul,Nat.zero_add]at x0 x1 x2 x3 x4 x5 x6 x7 x8 x9 x10 x11 x12
          obtain⟨c0,c1,c2,c3,c4,c5,c6,c7,c8,c9,c10⟩:=QA.out.c11
          clear hN2 bx hE gk gX HST
          go_wp2_with fail
          go_region_with ((go_at_call 30;refine(HSM0.out _ a' c' (BX.out.below (by first | exact Below.drew (Below.refl _ _) | exact Nb.drewN _ _)) (NA.out.nb.tr (by first | exact Below.drew (Below.refl _ _) | exact Nb.drewN _ _))).mono ?_;rintro e wB ⟨rfl,nB⟩;have MB:Nb wA wB:=(by first | exact Nb.tr (Below.drew (Below.refl _ _)) nB | exact Nb.tr (Nb.drewN _ _) nB);obtain⟨_,_,⟨y0,_⟩,_⟩:=(HE.out.nb MB).at (j:=0) (by simp) (k:=1) (e:=0) (l:=l0_10) (show _=(⟨1,0,⟨a0_0,a0_1,a0_2,a0_3,a0_4,a0_5,a0_6,a0_7,a0_8,a0_9⟩,l0_10⟩:Ev) by rw[<- fE.out];rfl);simp only[Nat.zero_mul]at y0;have MBH:=zH MB;clear MB nB))
          all_goals go_wp2
          all_goals go_roundw
          all_goals first
           | exact⟨m+1,_,by omega,by go_num,by rw[hS1.out];rfl,NA.out.keep MBH.out,QA.out.nb MBH.out⟩
           | (simp[intOf];omega)
         ·rw[if_neg hA]at hst
          have hS1:=zH (show sntD (zD fh l0_10).length (n%40+(m+1))=s by rw[<- HS.out];unfold sntD;(repeat' split)<;>omega)
          obtain⟨ev1,hev1⟩:∃ev1,(if n%40+m+1=(zD fh l0_10).length+20 then(⟨2,0,fh,l0_10⟩:Ev)else z0W)=ev1:=⟨_,rfl⟩
          rw[hev1]at hst
          simp only[List.length_cons,List.length_nil]at hst
          have HST:=zH hst
          clear hst HS hrl hA hev1
          go_wp2_with fail
          refine HST.out.mono ?_
          rintro e wA ⟨a,c,P,G,rfl,hE,gk,gX,hN2⟩
          obtain⟨bE,hbe,_,_⟩:=hE.hcells (by simp)
          subst hbe
          have NA:=zH (hN2.less (Y:=fun k=>k=QW) (fun k hk => .inl hk))
          have QA:=zH (QQ.out.keep gk (gX QW rfl))
          obtain⟨a',c',⟨x0,_⟩,_,_⟩:=hE.at (j:=0) (by simp) (k:=0) (e:=0) (l:=[]) (show _=(⟨0,0,noF,[]⟩:Ev)from rfl)
          simp only[Nat.zero_mul]at x0
          clear hN2 hE gk gX HST
          go_wp2_with fail
          go_quiet (fail)
          rename_i nq
          have NQ:=zH (NA.out.keep (Nb.drewN _ nq))
          have QR:=zH (QA.out.nb (Nb.drewN _ nq))
          have y0:(wA.drewN nq).cell? ⟨bE,0,none⟩=some (.int .i64 ((0:Nat):Int)):=x0
          generalize wA.drewN nq=wd at *
          go_wp2
          go_roundw
          case rel=>exact⟨m+1,_,by omega,by go_num,by rw[hS1.out],NQ.out,QR.out⟩
          case measure=>simp[intOf];omega
        ·obtain rfl:m=1000:=by omega
         have hsh:=short_wire HFr.out (by have:=HL16.out;omega)
         obtain rfl:s=1:=by rw[<- HS.out];exact if_pos (by omega)
         go_wp2
         go_ret
         exact⟨rfl,M0.out.tr N.out.nb⟩
theorem door_met(os:Os)(args:Array Value):laidMetH Tryz.prog Rows.busLoadsRow.laid ((World.doorLaid Tryz.prog 24 os).forCall (fun _ _=>0) ⟨#[],args,[]⟩).memory :=
 laidMetH_of_parts3 (fuel:=8) (laidMet_of_run' 8 (by kernel_rfl) (by kernel_rfl)) (by kernel_rfl) (by kernel_rfl)
theorem lifted (os:Os) (started:os.Started) (H:Type) (enc:TypeId × Value->H) :
    ReturnsInHanded {} Tryz.checked os 8 .any (fun w args=>(Rows.busLoadsSpec.pre enc Tryz.prog Tryz.f8 [] false w args/\laidMetH Tryz.prog Rows.busLoadsRow.laid w)/\sizedMet enc Tryz.prog Tryz.f8 (OpenSpec.ofChange Rows.busLoadsSpec) false w args)
     (Rows.busLoadsSpec.post enc Tryz.prog Tryz.f8 false true false false):=by
 refine returnsInHanded_of_change_and (C:=Tryz.checked) (X:=fun w _=>laidMetH Tryz.prog Rows.busLoadsRow.laid w) (fun _ _ _ hh h=>h.of_heap hh) own started (by kernel_rfl) Tryz.func8
  (ChangeSpec.witness_shaped (enc:=enc) (C:=Tryz.checked) (os:=os) (X:=fun w _=>laidMetH Tryz.prog Rows.busLoadsRow.laid w) false (World.doorLaid Tryz.prog 24 os) #[.agg #[.int .i64 0,.int .u32 0,.bool false,.bool false,.bool false,.bool false,.bool false,.int .u8 0,.int .u8 0,.int .u32 0,.slice none 0 0],.agg #[.int .i64 0,.int .u32 0,.bool false,.bool false,.bool false,.bool false,.bool false,.int .u8 0,.int .u8 0,.int .u32 0,.slice none 0 0],.int .u8 0] 8 rfl (World.shaped_of_RefB (by kernel_rfl) (by kernel_rfl)) (by kernel_rfl) (by kernel_rfl) (by kernel_rfl) (door_met os _)) ?_
 intro W base args ds gs before hval0 hW _ hR hL _
 have hval:∀(j:Nat) t v,Tryz.f8.params[j]? = some t->args[j]? = some v->Value.okWide Tryz.prog W .any base t v:=hval0
 have hW':=hW
 obtain⟨p,q,hA0,hV,rfl,hfz,hnd⟩:=hW
 have hA:DataW.TrodAll enc Tryz.prog W 0 (fun _=>true) true Tryz.f8.params.toList args.toList ds p:=hA0
 rw[Tryz.params8]at hA hval
 obtain⟨v0,vs0,d0,ds0,p0,q0,hargs,rfl,rfl,h0,r0⟩:=trodAll_cons hA
 obtain⟨v1,vs1,d1,ds1,p1,q1,rfl,rfl,rfl,h1,r1⟩:=trodAll_cons r0
 obtain⟨v2,vs2,d2,ds2,p2,q2,rfl,rfl,rfl,h2,r2⟩:=trodAll_cons r1
 obtain⟨rfl,rfl,rfl⟩:=trodAll_nil r2
 obtain rfl:args=#[v0,v1,v2]:=by cases args;simp_all
 obtain⟨rfl,rfl⟩:=trodVars_none hV
 have k0:=h0
 have lt0:∀x∈p0,x.block < W.heap.size:=by obtain⟨m,hm⟩:=k0;exact DataW.trod_lt m _ _ _ hm
 have k1:=h1
 have lt1:∀x∈p1,x.block < W.heap.size:=by obtain⟨m,hm⟩:=k1;exact DataW.trod_lt m _ _ _ hm
 have k2:=h2
 have lt2:∀x∈p2,x.block < W.heap.size:=by obtain⟨m,hm⟩:=k2;exact DataW.trod_lt m _ _ _ hm
 clear hA0
 obtain⟨cs0,rfl,hz0⟩:=okWide_struct Tryz.underlying37 (hval 0 37 v0 rfl rfl)
 obtain⟨c0_0,c0_1,c0_2,c0_3,c0_4,c0_5,c0_6,c0_7,c0_8,c0_9,c0_10,rfl⟩:=arr11 (hz0.trans (by kernel_rfl))
 obtain⟨fu0,hf0⟩:=h0
 have hc0:DataW.trod enc Tryz.prog W 0 (fun _=>true) true fu0 37 [c0_0,c0_1,c0_2,c0_3,c0_4,c0_5,c0_6,c0_7,c0_8,c0_9,c0_10]=some (d0,p0):=hf0
 obtain⟨m0_0,y0_0,g0_0⟩:=zhv Tryz.underlying37 hc0 0 _ rfl
 have t0_0:DataW.trod enc Tryz.prog W 0 (fun _=>true) true m0_0 3 (([c0_0,c0_1,c0_2,c0_3,c0_4,c0_5,c0_6,c0_7,c0_8,c0_9,c0_10].drop 0).take (Tryz.prog.cellsOf 3))=some y0_0:=g0_0
 rw[show Tryz.prog.cellsOf 3=1 from by kernel_rfl]at t0_0
 have u0_0:DataW.trod enc Tryz.prog W 0 (fun _=>true) true m0_0 3 [c0_0]=some y0_0:=t0_0
 obtain⟨m0_1,y0_1,g0_1⟩:=zhv Tryz.underlying37 hc0 1 _ rfl
 have t0_1:DataW.trod enc Tryz.prog W 0 (fun _=>true) true m0_1 34 (([c0_0,c0_1,c0_2,c0_3,c0_4,c0_5,c0_6,c0_7,c0_8,c0_9,c0_10].drop 1).take (Tryz.prog.cellsOf 34))=some y0_1:=g0_1
 rw[show Tryz.prog.cellsOf 34=1 from by kernel_rfl]at t0_1
 have u0_1:DataW.trod enc Tryz.prog W 0 (fun _=>true) true m0_1 34 [c0_1]=some y0_1:=t0_1
 obtain⟨m0_2,y0_2,g0_2⟩:=zhv Tryz.underlying37 hc0 2 _ rfl
 have t0_2:DataW.trod enc Tryz.prog W 0 (fun _=>true) true m0_2 4 (([c0_0,c0_1,c0_2,c0_3,c0_4,c0_5,c0_6,c0_7,c0_8,c0_9,c0_10].drop 2).take (Tryz.prog.cellsOf 4))=some y0_2:=g0_2
 rw[show Tryz.prog.cellsOf 4=1 from by kernel_rfl]at t0_2
 have u0_2:DataW.trod enc Tryz.prog W 0 (fun _=>true) true m0_2 4 [c0_2]=some y0_2:=t0_2
 obtain⟨m0_3,y0_3,g0_3⟩:=zhv Tryz.underlying37 hc0 3 _ rfl
 have t0_3:DataW.trod enc Tryz.prog W 0 (fun _=>true) true m0_3 4 (([c0_0,c0_1,c0_2,c0_3,c0_4,c0_5,c0_6,c0_7,c0_8,c0_9,c0_10].drop 3).take (Tryz.prog.cellsOf 4))=some y0_3:=g0_3
 rw[show Tryz.prog.cellsOf 4=1 from by kernel_rfl]at t0_3
 have u0_3:DataW.trod enc Tryz.prog W 0 (fun _=>true) true m0_3 4 [c0_3]=some y0_3:=t0_3
 obtain⟨m0_4,y0_4,g0_4⟩:=zhv Tryz.underlying37 hc0 4 _ rfl
 have t0_4:DataW.trod enc Tryz.prog W 0 (fun _=>true) true m0_4 4 (([c0_0,c0_1,c0_2,c0_3,c0_4,c0_5,c0_6,c0_7,c0_8,c0_9,c0_10].drop 4).take (Tryz.prog.cellsOf 4))=some y0_4:=g0_4
 rw[show Tryz.prog.cellsOf 4=1 from by kernel_rfl]at t0_4
 have u0_4:DataW.trod enc Tryz.prog W 0 (fun _=>true) true m0_4 4 [c0_4]=some y0_4:=t0_4
 obtain⟨m0_5,y0_5,g0_5⟩:=zhv Tryz.underlying37 hc0 5 _ rfl
 have t0_5:DataW.trod enc Tryz.prog W 0 (fun _=>true) true m0_5 4 (([c0_0,c0_1,c0_2,c0_3,c0_4,c0_5,c0_6,c0_7,c0_8,c0_9,c0_10].drop 5).take (Tryz.prog.cellsOf 4))=some y0_5:=g0_5
 rw[show Tryz.prog.cellsOf 4=1 from by kernel_rfl]at t0_5
 have u0_5:DataW.trod enc Tryz.prog W 0 (fun _=>true) true m0_5 4 [c0_5]=some y0_5:=t0_5
 obtain⟨m0_6,y0_6,g0_6⟩:=zhv Tryz.underlying37 hc0 6 _ rfl
 have t0_6:DataW.trod enc Tryz.prog W 0 (fun _=>true) true m0_6 4 (([c0_0,c0_1,c0_2,c0_3,c0_4,c0_5,c0_6,c0_7,c0_8,c0_9,c0_10].drop 6).take (Tryz.prog.cellsOf 4))=some y0_6:=g0_6
 rw[show Tryz.prog.cellsOf 4=1 from by kernel_rfl]at t0_6
 have u0_6:DataW.trod enc Tryz.prog W 0 (fun _=>true) true m0_6 4 [c0_6]=some y0_6:=t0_6
 obtain⟨m0_7,y0_7,g0_7⟩:=zhv Tryz.underlying37 hc0 7 _ rfl
 have t0_7:DataW.trod enc Tryz.prog W 0 (fun _=>true) true m0_7 5 (([c0_0,c0_1,c0_2,c0_3,c0_4,c0_5,c0_6,c0_7,c0_8,c0_9,c0_10].drop 7).take (Tryz.prog.cellsOf 5))=some y0_7:=g0_7
 rw[show Tryz.prog.cellsOf 5=1 from by kernel_rfl]at t0_7
 have u0_7:DataW.trod enc Tryz.prog W 0 (fun _=>true) true m0_7 5 [c0_7]=some y0_7:=t0_7
 obtain⟨m0_8,y0_8,g0_8⟩:=zhv Tryz.underlying37 hc0 8 _ rfl
 have t0_8:DataW.trod enc Tryz.prog W 0 (fun _=>true) true m0_8 5 (([c0_0,c0_1,c0_2,c0_3,c0_4,c0_5,c0_6,c0_7,c0_8,c0_9,c0_10].drop 8).take (Tryz.prog.cellsOf 5))=some y0_8:=g0_8
 rw[show Tryz.prog.cellsOf 5=1 from by kernel_rfl]at t0_8
 have u0_8:DataW.trod enc Tryz.prog W 0 (fun _=>true) true m0_8 5 [c0_8]=some y0_8:=t0_8
 obtain⟨m0_9,y0_9,g0_9⟩:=zhv Tryz.underlying37 hc0 9 _ rfl
 have t0_9:DataW.trod enc Tryz.prog W 0 (fun _=>true) true m0_9 34 (([c0_0,c0_1,c0_2,c0_3,c0_4,c0_5,c0_6,c0_7,c0_8,c0_9,c0_10].drop 9).take (Tryz.prog.cellsOf 34))=some y0_9:=g0_9
 rw[show Tryz.prog.cellsOf 34=1 from by kernel_rfl]at t0_9
 have u0_9:DataW.trod enc Tryz.prog W 0 (fun _=>true) true m0_9 34 [c0_9]=some y0_9:=t0_9
 obtain⟨m0_10,y0_10,g0_10⟩:=zhv Tryz.underlying37 hc0 10 _ rfl
 have t0_10:DataW.trod enc Tryz.prog W 0 (fun _=>true) true m0_10 35 (([c0_0,c0_1,c0_2,c0_3,c0_4,c0_5,c0_6,c0_7,c0_8,c0_9,c0_10].drop 10).take (Tryz.prog.cellsOf 35))=some y0_10:=g0_10
 rw[show Tryz.prog.cellsOf 35=1 from by kernel_rfl]at t0_10
 have u0_10:DataW.trod enc Tryz.prog W 0 (fun _=>true) true m0_10 35 [c0_10]=some y0_10:=t0_10
 obtain⟨a0_0,e0_0,x0_0,w0_0⟩:=DataW.trod_int Tryz.underlying3 u0_0
 obtain rfl:c0_0 = .int .i64 a0_0:=by simpa using e0_0
 obtain⟨a0_1,e0_1,x0_1,w0_1⟩:=DataW.trod_int Tryz.underlying34 u0_1
 obtain rfl:c0_1 = .int .u32 a0_1:=by simpa using e0_1
 obtain⟨a0_2,e0_2,x0_2⟩:=DataW.trod_bool Tryz.underlying4 u0_2
 obtain rfl:c0_2 = .bool a0_2:=by simpa using e0_2
 obtain⟨a0_3,e0_3,x0_3⟩:=DataW.trod_bool Tryz.underlying4 u0_3
 obtain rfl:c0_3 = .bool a0_3:=by simpa using e0_3
 obtain⟨a0_4,e0_4,x0_4⟩:=DataW.trod_bool Tryz.underlying4 u0_4
 obtain rfl:c0_4 = .bool a0_4:=by simpa using e0_4
 obtain⟨a0_5,e0_5,x0_5⟩:=DataW.trod_bool Tryz.underlying4 u0_5
 obtain rfl:c0_5 = .bool a0_5:=by simpa using e0_5
 obtain⟨a0_6,e0_6,x0_6⟩:=DataW.trod_bool Tryz.underlying4 u0_6
 obtain rfl:c0_6 = .bool a0_6:=by simpa using e0_6
 obtain⟨a0_7,e0_7,x0_7,w0_7⟩:=DataW.trod_int Tryz.underlying5 u0_7
 obtain rfl:c0_7 = .int .u8 a0_7:=by simpa using e0_7
 obtain⟨a0_8,e0_8,x0_8,w0_8⟩:=DataW.trod_int Tryz.underlying5 u0_8
 obtain rfl:c0_8 = .int .u8 a0_8:=by simpa using e0_8
 obtain⟨a0_9,e0_9,x0_9,w0_9⟩:=DataW.trod_int Tryz.underlying34 u0_9
 obtain rfl:c0_9 = .int .u32 a0_9:=by simpa using e0_9
 obtain⟨a0_10,cap0_10,l0_10,e0_10,hb0_10,n0_10⟩:=zgx u0_10
 subst e0_10
 obtain⟨cs1,rfl,hz1⟩:=okWide_struct Tryz.underlying37 (hval 1 37 v1 rfl rfl)
 obtain⟨c1_0,c1_1,c1_2,c1_3,c1_4,c1_5,c1_6,c1_7,c1_8,c1_9,c1_10,rfl⟩:=arr11 (hz1.trans (by kernel_rfl))
 obtain⟨fu1,hf1⟩:=h1
 have hc1:DataW.trod enc Tryz.prog W 0 (fun _=>true) true fu1 37 [c1_0,c1_1,c1_2,c1_3,c1_4,c1_5,c1_6,c1_7,c1_8,c1_9,c1_10]=some (d1,p1):=hf1
 obtain⟨m1_0,y1_0,g1_0⟩:=zhv Tryz.underlying37 hc1 0 _ rfl
 have t1_0:DataW.trod enc Tryz.prog W 0 (fun _=>true) true m1_0 3 (([c1_0,c1_1,c1_2,c1_3,c1_4,c1_5,c1_6,c1_7,c1_8,c1_9,c1_10].drop 0).take (Tryz.prog.cellsOf 3))=some y1_0:=g1_0
 rw[show Tryz.prog.cellsOf 3=1 from by kernel_rfl]at t1_0
 have u1_0:DataW.trod enc Tryz.prog W 0 (fun _=>true) true m1_0 3 [c1_0]=some y1_0:=t1_0
 obtain⟨m1_1,y1_1,g1_1⟩:=zhv Tryz.underlying37 hc1 1 _ rfl
 have t1_1:DataW.trod enc Tryz.prog W 0 (fun _=>true) true m1_1 34 (([c1_0,c1_1,c1_2,c1_3,c1_4,c1_5,c1_6,c1_7,c1_8,c1_9,c1_10].drop 1).take (Tryz.prog.cellsOf 34))=some y1_1:=g1_1
 rw[show Tryz.prog.cellsOf 34=1 from by kernel_rfl]at t1_1
 have u1_1:DataW.trod enc Tryz.prog W 0 (fun _=>true) true m1_1 34 [c1_1]=some y1_1:=t1_1
 obtain⟨m1_2,y1_2,g1_2⟩:=zhv Tryz.underlying37 hc1 2 _ rfl
 have t1_2:DataW.trod enc Tryz.prog W 0 (fun _=>true) true m1_2 4 (([c1_0,c1_1,c1_2,c1_3,c1_4,c1_5,c1_6,c1_7,c1_8,c1_9,c1_10].drop 2).take (Tryz.prog.cellsOf 4))=some y1_2:=g1_2
 rw[show Tryz.prog.cellsOf 4=1 from by kernel_rfl]at t1_2
 have u1_2:DataW.trod enc Tryz.prog W 0 (fun _=>true) true m1_2 4 [c1_2]=some y1_2:=t1_2
 obtain⟨m1_3,y1_3,g1_3⟩:=zhv Tryz.underlying37 hc1 3 _ rfl
 have t1_3:DataW.trod enc Tryz.prog W 0 (fun _=>true) true m1_3 4 (([c1_0,c1_1,c1_2,c1_3,c1_4,c1_5,c1_6,c1_7,c1_8,c1_9,c1_10].drop 3).take (Tryz.prog.cellsOf 4))=some y1_3:=g1_3
 rw[show Tryz.prog.cellsOf 4=1 from by kernel_rfl]at t1_3
 have u1_3:DataW.trod enc Tryz.prog W 0 (fun _=>true) true m1_3 4 [c1_3]=some y1_3:=t1_3
 obtain⟨m1_4,y1_4,g1_4⟩:=zhv Tryz.underlying37 hc1 4 _ rfl
 have t1_4:DataW.trod enc Tryz.prog W 0 (fun _=>true) true m1_4 4 (([c1_0,c1_1,c1_2,c1_3,c1_4,c1_5,c1_6,c1_7,c1_8,c1_9,c1_10].drop 4).take (Tryz.prog.cellsOf 4))=some y1_4:=g1_4
 rw[show Tryz.prog.cellsOf 4=1 from by kernel_rfl]at t1_4
 have u1_4:DataW.trod enc Tryz.prog W 0 (fun _=>true) true m1_4 4 [c1_4]=some y1_4:=t1_4
 obtain⟨m1_5,y1_5,g1_5⟩:=zhv Tryz.underlying37 hc1 5 _ rfl
 have t1_5:DataW.trod enc Tryz.prog W 0 (fun _=>true) true m1_5 4 (([c1_0,c1_1,c1_2,c1_3,c1_4,c1_5,c1_6,c1_7,c1_8,c1_9,c1_10].drop 5).take (Tryz.prog.cellsOf 4))=some y1_5:=g1_5
 rw[show Tryz.prog.cellsOf 4=1 from by kernel_rfl]at t1_5
 have u1_5:DataW.trod enc Tryz.prog W 0 (fun _=>true) true m1_5 4 [c1_5]=some y1_5:=t1_5
 obtain⟨m1_6,y1_6,g1_6⟩:=zhv Tryz.underlying37 hc1 6 _ rfl
 have t1_6:DataW.trod enc Tryz.prog W 0 (fun _=>true) true m1_6 4 (([c1_0,c1_1,c1_2,c1_3,c1_4,c1_5,c1_6,c1_7,c1_8,c1_9,c1_10].drop 6).take (Tryz.prog.cellsOf 4))=some y1_6:=g1_6
 rw[show Tryz.prog.cellsOf 4=1 from by kernel_rfl]at t1_6
 have u1_6:DataW.trod enc Tryz.prog W 0 (fun _=>true) true m1_6 4 [c1_6]=some y1_6:=t1_6
 obtain⟨m1_7,y1_7,g1_7⟩:=zhv Tryz.underlying37 hc1 7 _ rfl
 have t1_7:DataW.trod enc Tryz.prog W 0 (fun _=>true) true m1_7 5 (([c1_0,c1_1,c1_2,c1_3,c1_4,c1_5,c1_6,c1_7,c1_8,c1_9,c1_10].drop 7).take (Tryz.prog.cellsOf 5))=some y1_7:=g1_7
 rw[show Tryz.prog.cellsOf 5=1 from by kernel_rfl]at t1_7
 have u1_7:DataW.trod enc Tryz.prog W 0 (fun _=>true) true m1_7 5 [c1_7]=some y1_7:=t1_7
 obtain⟨m1_8,y1_8,g1_8⟩:=zhv Tryz.underlying37 hc1 8 _ rfl
 have t1_8:DataW.trod enc Tryz.prog W 0 (fun _=>true) true m1_8 5 (([c1_0,c1_1,c1_2,c1_3,c1_4,c1_5,c1_6,c1_7,c1_8,c1_9,c1_10].drop 8).take (Tryz.prog.cellsOf 5))=some y1_8:=g1_8
 rw[show Tryz.prog.cellsOf 5=1 from by kernel_rfl]at t1_8
 have u1_8:DataW.trod enc Tryz.prog W 0 (fun _=>true) true m1_8 5 [c1_8]=some y1_8:=t1_8
 obtain⟨m1_9,y1_9,g1_9⟩:=zhv Tryz.underlying37 hc1 9 _ rfl
 have t1_9:DataW.trod enc Tryz.prog W 0 (fun _=>true) true m1_9 34 (([c1_0,c1_1,c1_2,c1_3,c1_4,c1_5,c1_6,c1_7,c1_8,c1_9,c1_10].drop 9).take (Tryz.prog.cellsOf 34))=some y1_9:=g1_9
 rw[show Tryz.prog.cellsOf 34=1 from by kernel_rfl]at t1_9
 have u1_9:DataW.trod enc Tryz.prog W 0 (fun _=>true) true m1_9 34 [c1_9]=some y1_9:=t1_9
 obtain⟨m1_10,y1_10,g1_10⟩:=zhv Tryz.underlying37 hc1 10 _ rfl
 have t1_10:DataW.trod enc Tryz.prog W 0 (fun _=>true) true m1_10 35 (([c1_0,c1_1,c1_2,c1_3,c1_4,c1_5,c1_6,c1_7,c1_8,c1_9,c1_10].drop 10).take (Tryz.prog.cellsOf 35))=some y1_10:=g1_10
 rw[show Tryz.prog.cellsOf 35=1 from by kernel_rfl]at t1_10
 have u1_10:DataW.trod enc Tryz.prog W 0 (fun _=>true) true m1_10 35 [c1_10]=some y1_10:=t1_10
 obtain⟨a1_0,e1_0,x1_0,w1_0⟩:=DataW.trod_int Tryz.underlying3 u1_0
 obtain rfl:c1_0 = .int .i64 a1_0:=by simpa using e1_0
 obtain⟨a1_1,e1_1,x1_1,w1_1⟩:=DataW.trod_int Tryz.underlying34 u1_1
 obtain rfl:c1_1 = .int .u32 a1_1:=by simpa using e1_1
 obtain⟨a1_2,e1_2,x1_2⟩:=DataW.trod_bool Tryz.underlying4 u1_2
 obtain rfl:c1_2 = .bool a1_2:=by simpa using e1_2
 obtain⟨a1_3,e1_3,x1_3⟩:=DataW.trod_bool Tryz.underlying4 u1_3
 obtain rfl:c1_3 = .bool a1_3:=by simpa using e1_3
 obtain⟨a1_4,e1_4,x1_4⟩:=DataW.trod_bool Tryz.underlying4 u1_4
 obtain rfl:c1_4 = .bool a1_4:=by simpa using e1_4
 obtain⟨a1_5,e1_5,x1_5⟩:=DataW.trod_bool Tryz.underlying4 u1_5
 obtain rfl:c1_5 = .bool a1_5:=by simpa using e1_5
 obtain⟨a1_6,e1_6,x1_6⟩:=DataW.trod_bool Tryz.underlying4 u1_6
 obtain rfl:c1_6 = .bool a1_6:=by simpa using e1_6
 obtain⟨a1_7,e1_7,x1_7,w1_7⟩:=DataW.trod_int Tryz.underlying5 u1_7
 obtain rfl:c1_7 = .int .u8 a1_7:=by simpa using e1_7
 obtain⟨a1_8,e1_8,x1_8,w1_8⟩:=DataW.trod_int Tryz.underlying5 u1_8
 obtain rfl:c1_8 = .int .u8 a1_8:=by simpa using e1_8
 obtain⟨a1_9,e1_9,x1_9,w1_9⟩:=DataW.trod_int Tryz.underlying34 u1_9
 obtain rfl:c1_9 = .int .u32 a1_9:=by simpa using e1_9
 obtain⟨a1_10,cap1_10,l1_10,e1_10,hb1_10,n1_10⟩:=zgx u1_10
 subst e1_10
 obtain⟨a2,rfl,rfl,rfl,w2⟩:=open_int Tryz.underlying5 (hval 2 5 v2 rfl rfl) h2
 refine(walk W (ziw hL) a0_0 w0_0 a0_1 w0_1 a0_2 a0_3 a0_4 a0_5 a0_6 a0_7 w0_7 a0_8 w0_8 a0_9 w0_9 a0_10 cap0_10 l0_10 hb0_10 n0_10 a1_0 w1_0 a1_1 w1_1 a1_2 a1_3 a1_4 a1_5 a1_6 a1_7 w1_7 a1_8 w1_8 a1_9 w1_9 a1_10 cap1_10 l1_10 hb1_10 n1_10 a2 w2).mono fun e W' ⟨he,bel⟩ => ?_
 subst he
 exact⟨_,rfl,_,_,_,[],_,[],hW',trodAll_mk1 (shut_bool Tryz.underlying4 _),(trodAll_cons_mk (Below.trod laidOut (by kernel_rfl) (of_decide_eq_true (by kernel_rfl)) k0 bel lt0) (trodAll_cons_mk (Below.trod laidOut (by kernel_rfl) (of_decide_eq_true (by kernel_rfl)) k1 bel lt1) (trodAll_cons_mk (Below.trod laidOut (by kernel_rfl) (of_decide_eq_true (by kernel_rfl)) k2 bel lt2) trodAll_mk0))),rfl,bel.frame _,fun h=>by cases h⟩
theorem over:Rows.busLoadsRow.holds Tryz.pinned (OpenSpec.ofChange Rows.busLoadsSpec) :=
 OpenClaim.holds_of_wide 8 Tryz.f8 rfl rfl rfl rfl rfl rfl rfl ⟨rfl,rfl,rfl,rfl,rfl⟩ rfl rfl rfl rfl rfl (by kernel_rfl) Tryz.func8 (by kernel_rfl)
  (of_decide_eq_true (by kernel_rfl)) (by unfold Func.isWrapper;first | (rw[if_pos (by decide +kernel)];kernel_rfl) | (rw[if_neg (by decide +kernel)];exact⟨rfl,rfl⟩))
  (fun os started H enc _=>lifted os started H enc)
theorem plain (f : FuncId) (fn : Func) (hf : Tryz.pinned.checked.prog.funcNamed "omnibus/omnibuslaw13.BusLoads" = some f) (hfn : Tryz.pinned.checked.prog.funcs[f]? = some fn) :
    true=Tryz.pinned.checked.prog.looks []/\∀(j:Nat) t,fn.params[j]? = some t->Tryz.pinned.checked.prog.wantsStandIn t=false:=by
 obtain rfl : f = 8 := Option.some.inj ((show Tryz.prog.funcNamed "omnibus/omnibuslaw13.BusLoads" = some 8 by kernel_rfl).symm.trans hf) |>.symm
 obtain rfl:fn=Tryz.f8:=(Option.some.inj (Tryz.func8.symm.trans hfn)).symm
 refine⟨by kernel_rfl,fun j t ht => ?_⟩
 rw[Tryz.params8]at ht
 have hm:t∈[37,5]:=by have:=Array.mem_of_getElem? ht;simp at this ⊢;omega
 have hall:([37,5].all fun u => !Tryz.prog.wantsStandIn u)=true:=by kernel_rfl
 exact(show Tryz.prog.wantsStandIn t=false by simpa using List.all_eq_true.1 hall t hm)
theorem proved:Rows.BusLoadsCardSaid :=
 Claim7.holds_tied_plain_at .later [] _ _ _ _ over (fun _ h=>by cases h) (by kernel_rfl) (fun _ h=>by cases h) busLoads_row_tie rfl ⟨rfl,rfl⟩ (by kernel_rfl) rfl plain (by kernel_rfl)
#print axioms proved
end Go.Proofs.YtkjjfnmeogpdbaaGreatDoor.busLoads
